/- Patterns in a variable, that grow: a box with two rows of one's own. -/
import Derived.Test.YtijhabhnhglhgaaDoorLandF10
import Derived.Below
namespace Go.Proofs.YtijhabhnhglhgaaDoor
open Go.RowKit
namespace L10

/-- A text's numbers lie apart from the rows. -/
structure Inn (B : Nat) (wr : World) (vl vm : Value) (x : WP) : Prop where
  room : x.ns.length ≤ x.c
  most : x.c ≤ maxLen
  seen : SeenL wr x.A x.ns
  at' : ∀ ad, x.A = some ad → B ≤ ad.block ∧ ad.block < wr.heap.size ∧ vl.ownBlock ≠ some ad.block ∧ vm.ownBlock ≠ some ad.block
/-- The variable, and its rows. -/
structure PB (B g : Nat) (wr : World) (vl vm : Value) (l m : List WP) : Prop where
  box : Blk wr g 27 [vl, vm]
  gB : g < B
  bw : B ≤ wr.heap.size
  rl : wr.ownsRow B 42 2 vl l.length (flatW l)
  rm : wr.ownsRow B 45 2 vm m.length (flatW m)
  lm : ∀ n, vl.ownBlock = some n → vm.ownBlock ≠ some n
  inn : ∀ x ∈ l ++ m, Inn B wr vl vm x
theorem Inn.ext {B : Nat} {wr w' : World} {vl vm : Value} {x : WP} (h : Inn B wr vl vm x) (y : Ext wr w') : Inn B w' vl vm x :=
  ⟨h.room, h.most, h.seen.ext y, fun ad e => by obtain ⟨a, b, c⟩ := h.at' ad e; exact ⟨a, y.grows _ b, c⟩⟩
theorem PB.ext {B g : Nat} {wr w' : World} {vl vm : Value} {l m : List WP} (h : PB B g wr vl vm l m) (x : Ext wr w') : PB B g w' vl vm l m :=
  ⟨h.box.ext x, h.gB, Nat.le_trans h.bw x.size, OwnsRow.ext h.rl x, OwnsRow.ext h.rm x, h.lm, fun y hy => (h.inn y hy).ext x⟩
theorem pat_info : (Tryd.prog.info? 42).map (fun i => (i.zero, i.size, i.bytes)) = some (some (.agg #[.string ⟨#[]⟩, .slice none 0 0]), 2, 40) := by kernel_rfl
theorem exc_info : (Tryd.prog.info? 45).map (fun i => (i.zero, i.size, i.bytes)) = some (some (.agg #[.string ⟨#[]⟩, .slice none 0 0]), 2, 40) := by kernel_rfl

theorem PB.putL {B g : Nat} {wr : World} {vl vm : Value} {l m : List WP} (h : PB B g wr vl vm l m) (x : WP) (ad : Addr) (hc0 : wr.cell? ad = some (.string x.s)) (hc1 : wr.cell? (ad.add 1) = some (.slice x.A x.ns.length x.c)) (hx : Inn B wr vl vm x) (hn : l.length ≤ 10000) (ty : TypeId) :
    ∃ v' w', (Builtin.append_ #[24, 24] ty #[vl, .slice (some ad) 1 1]).run Tryd.prog wr = .ok v' w' ∧ wr.grownBy w' vl.ownBlock ∧ (v'.ownBlock = vl.ownBlock ∨ v'.ownBlock = some wr.heap.size) ∧
      PB B g (w'.setCell ⟨g, 0, none⟩ v') v' vm (l ++ [x]) m := by
  obtain ⟨i, hi, hz0, hsz, hby⟩ := info_parts pat_info
  obtain ⟨v', w', hr, ho, hg, _, hat⟩ := run_append_own_at (P := Tryd.prog) wr B 24 ty 42 i (.agg #[.string ⟨#[]⟩, .slice none 0 0]) 2 40 Tryd.underlying24 hi hz0 hsz hby rfl (by omega) vl l.length (flatW l) h.rl ad 1 1 [.string x.s, .slice x.A x.ns.length x.c] rfl
    (fun j u hu => by
      match j, hu with
      | 0, hu => simp at hu; subst hu; simpa [Addr.add] using hc0
      | 1, hu => simp at hu; subst hu; exact hc1
      | j + 2, hu => simp at hu) (by simp [Value.oneCell']) (by unfold maxLen; omega) (by omega) h.bw
  have K := Kp.of_grown hg
  have gne : some g ≠ vl.ownBlock := fun e => by have := (h.rl.lt _ e.symm).1; have := h.gB; omega
  have K2 := Kp.set w' ⟨g, 0, none⟩ v'
  have fresh : ∀ a : Nat, a < wr.heap.size → vl.ownBlock ≠ some a → v'.ownBlock ≠ some a := fun a h1 h2 h3 => by
    rcases hat with h4 | h4
    · rw [h4] at h3; exact h2 h3
    · rw [h4] at h3; cases h3; omega
  have lift : ∀ y : WP, Inn B wr vl vm y → Inn B (w'.setCell ⟨g, 0, none⟩ v') v' vm y := fun y hy => by
    refine ⟨hy.room, hy.most, fun k v hv => ?_, fun a ea => ?_⟩
    · obtain ⟨a, ea, hb, hc⟩ := hy.seen k v hv
      obtain ⟨b1, b2, b3, b4⟩ := hy.at' a ea
      refine ⟨a, ea, Nat.lt_of_lt_of_le (Nat.lt_of_lt_of_le hb K.size) K2.size, ?_⟩
      have e1 := World.cell?_of_block (w := wr) (w' := w') (a := a.add k) (K.same _ (by rw [addr_block]; exact hb) (by rw [addr_block]; exact fun e => b3 e.symm))
      have e2 : (w'.setCell ⟨g, 0, none⟩ v').cell? (a.add k) = w'.cell? (a.add k) := World.cell?_setCell_other _ _ _ _ (fun e => by
        have e' : g = (a.add k).block := by rw [← e]
        rw [addr_block] at e'
        have := h.gB; omega)
      rw [e2, e1]
      exact hc
    · obtain ⟨b1, b2, b3, b4⟩ := hy.at' a ea
      exact ⟨b1, Nat.lt_of_lt_of_le (Nat.lt_of_lt_of_le b2 K.size) K2.size, fresh _ b2 b3, b4⟩
  refine ⟨v', w', hr, hg, hat, ?_, h.gB, Nat.le_trans (Nat.le_trans h.bw K.size) K2.size, ?_, ?_, ?_, ?_⟩
  · exact (K.blk h.box gne).set 0 v'
  · rw [flatW_snoc, List.length_append]
    exact ownsRow_setCell_below ho h.gB v'
  · exact ownsRow_setCell_below (K.row h.rm (fun n e e' => h.lm n e'.symm e)) h.gB v'
  · exact fun n e e' => fresh n (by have := (h.rm.lt _ e').2; exact this) (fun e2 => h.lm n e2 e') e
  · intro y hy
    rcases List.mem_append.1 hy with hy | hy
    · rcases List.mem_append.1 hy with hy | hy
      · exact lift y (h.inn y (List.mem_append.2 (.inl hy)))
      · obtain rfl : y = x := by simpa using hy
        exact lift y hx
    · exact lift y (h.inn y (List.mem_append.2 (.inr hy)))

theorem PB.putM {B g : Nat} {wr : World} {vl vm : Value} {l m : List WP} (h : PB B g wr vl vm l m) (x : WP) (ad : Addr) (hc0 : wr.cell? ad = some (.string x.s)) (hc1 : wr.cell? (ad.add 1) = some (.slice x.A x.ns.length x.c)) (hx : Inn B wr vl vm x) (hn : m.length ≤ 10000) (ty : TypeId) :
    ∃ v' w', (Builtin.append_ #[25, 25] ty #[vm, .slice (some ad) 1 1]).run Tryd.prog wr = .ok v' w' ∧ wr.grownBy w' vm.ownBlock ∧ (v'.ownBlock = vm.ownBlock ∨ v'.ownBlock = some wr.heap.size) ∧
      PB B g (w'.setCell ⟨g, 1, none⟩ v') vl v' l (m ++ [x]) := by
  obtain ⟨i, hi, hz0, hsz, hby⟩ := info_parts exc_info
  obtain ⟨v', w', hr, ho, hg, _, hat⟩ := run_append_own_at (P := Tryd.prog) wr B 25 ty 45 i (.agg #[.string ⟨#[]⟩, .slice none 0 0]) 2 40 Tryd.underlying25 hi hz0 hsz hby rfl (by omega) vm m.length (flatW m) h.rm ad 1 1 [.string x.s, .slice x.A x.ns.length x.c] rfl
    (fun j u hu => by
      match j, hu with
      | 0, hu => simp at hu; subst hu; simpa [Addr.add] using hc0
      | 1, hu => simp at hu; subst hu; exact hc1
      | j + 2, hu => simp at hu) (by simp [Value.oneCell']) (by unfold maxLen; omega) (by omega) h.bw
  have K := Kp.of_grown hg
  have gne : some g ≠ vm.ownBlock := fun e => by have := (h.rm.lt _ e.symm).1; have := h.gB; omega
  have K2 := Kp.set w' ⟨g, 1, none⟩ v'
  have fresh : ∀ a : Nat, a < wr.heap.size → vm.ownBlock ≠ some a → v'.ownBlock ≠ some a := fun a h1 h2 h3 => by
    rcases hat with h4 | h4
    · rw [h4] at h3; exact h2 h3
    · rw [h4] at h3; cases h3; omega
  have lift : ∀ y : WP, Inn B wr vl vm y → Inn B (w'.setCell ⟨g, 1, none⟩ v') vl v' y := fun y hy => by
    refine ⟨hy.room, hy.most, fun k v hv => ?_, fun a ea => ?_⟩
    · obtain ⟨a, ea, hb, hc⟩ := hy.seen k v hv
      obtain ⟨b1, b2, b3, b4⟩ := hy.at' a ea
      refine ⟨a, ea, Nat.lt_of_lt_of_le (Nat.lt_of_lt_of_le hb K.size) K2.size, ?_⟩
      have e1 := World.cell?_of_block (w := wr) (w' := w') (a := a.add k) (K.same _ (by rw [addr_block]; exact hb) (by rw [addr_block]; exact fun e => b4 e.symm))
      have e2 : (w'.setCell ⟨g, 1, none⟩ v').cell? (a.add k) = w'.cell? (a.add k) := World.cell?_setCell_other _ _ _ _ (fun e => by
        have e' : g = (a.add k).block := by rw [← e]
        rw [addr_block] at e'
        have := h.gB; omega)
      rw [e2, e1]
      exact hc
    · obtain ⟨b1, b2, b3, b4⟩ := hy.at' a ea
      exact ⟨b1, Nat.lt_of_lt_of_le (Nat.lt_of_lt_of_le b2 K.size) K2.size, b3, fresh _ b2 b4⟩
  refine ⟨v', w', hr, hg, hat, ?_, h.gB, Nat.le_trans (Nat.le_trans h.bw K.size) K2.size, ?_, ?_, ?_, ?_⟩
  · exact (K.blk h.box gne).set 1 v'
  · exact ownsRow_setCell_below (K.row h.rl (fun n e e' => h.lm n e e'.symm)) h.gB v'
  · rw [flatW_snoc, List.length_append]
    exact ownsRow_setCell_below ho h.gB v'
  · exact fun n e e' => fresh n (by have := (h.rl.lt _ e).2; exact this) (h.lm n e) e'
  · intro y hy
    rcases List.mem_append.1 hy with hy | hy
    · exact lift y (h.inn y (List.mem_append.2 (.inl hy)))
    · rcases List.mem_append.1 hy with hy | hy
      · exact lift y (h.inn y (List.mem_append.2 (.inr hy)))
      · obtain rfl : y = x := by simpa using hy
        exact lift y hx

end L10
end Go.Proofs.YtijhabhnhglhgaaDoor

