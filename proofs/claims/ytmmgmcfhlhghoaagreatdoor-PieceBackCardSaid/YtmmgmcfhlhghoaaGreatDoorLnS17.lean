/- Lines, their ends, and the last break: what a law over a paragraph's lines keeps. -/
import Derived.Test.YtmmgmcfhlhghoaaGreatDoorGI16
import Derived.Test.YtmmgmcfhlhghoaaGreatDoorBrk16
import Derived.Test.YtmmgmcfhlhghoaaGreatDoorGA16
namespace Go.Proofs.YtmmgmcfhlhghoaaGreatDoor
open Go.RowKit
namespace L17
open L16 (Brk SeenK flatK flatK_append flatK_one flatK_length)

theorem ext_of_grown {w0 w w' : World} (x : Ext w0 w) {v : Value} {base n size : Nat} {e : TypeId} {xs : List Value} (h : w.ownsRow base e size v n xs) (hb : w0.heap.size ≤ base) (g : w.grownBy w' v.ownBlock) : Ext w0 w' :=
  Below.grown x g x.size (fun k hk => Nat.le_trans hb (h.lt k hk).1)
/-- All that lies among numbers, or lists of them, stays. -/
def Stays (w w' : World) : Prop := w.heap.size ≤ w'.heap.size ∧ ∀ (k : Nat) (cs : Array Value) (t : TypeId) (f : Nat × Nat), w.heap[k]? = some (.cells cs t f) → t = 3 ∨ t = 48 → w'.heap[k]? = w.heap[k]?
theorem Stays.typedI {w w' : World} (x : Stays w w') {A : Option Addr} (h : TypedI w A) : TypedI w' A := fun ad e => by
  obtain ⟨cs, f, hb⟩ := h ad e
  exact ⟨cs, f, (x.2 _ _ _ _ hb (.inl rfl)).trans hb⟩
theorem Stays.typedO {w w' : World} (x : Stays w w') {A : Option Addr} (h : TypedO w A) : TypedO w' A := fun ad e => by
  obtain ⟨cs, f, hb⟩ := h ad e
  exact ⟨cs, f, (x.2 _ _ _ _ hb (.inr rfl)).trans hb⟩
theorem Stays.seenL {w w' : World} (x : Stays w w') {A : Option Addr} {ns : List Int} (h : SeenL w A ns) (t : TypedI w A) : SeenL w' A ns := seenL_at h x.1 fun ad e => by
  obtain ⟨cs, f, hb⟩ := t ad e
  exact x.2 _ _ _ _ hb (.inl rfl)
theorem Stays.seenR {w w' : World} (x : Stays w w') {A : Option Addr} {l : List RI} (h : SeenR w A l) (t : TypedO w A) (ti : ∀ y ∈ l, TypedI w y.A) : SeenR w' A l :=
  ⟨fun k v hv => by
    obtain ⟨ad, e, hb, hc⟩ := h.1 k v hv
    obtain ⟨cs, f, ht⟩ := t ad e
    refine ⟨ad, e, Nat.lt_of_lt_of_le hb x.1, ?_⟩
    have h2 := x.2 _ _ _ _ ht (.inr rfl)
    rw [← hc]
    unfold World.cell?
    rw [addr_block, h2], fun y hy => x.seenL (h.2 y hy) (ti y hy)⟩
theorem stays_ext {w w' : World} (x : Ext w w') : Stays w w' := ⟨x.size, fun k _ _ _ h _ => x.block k (Array.getElem?_eq_some_iff.1 h).1⟩
theorem stays_grown {w w' : World} {v : Value} {base n size : Nat} {e : TypeId} {xs : List Value} (h : w.ownsRow base e size v n xs) (g : w.grownBy w' v.ownBlock) (h1 : e ≠ 3) (h2 : e ≠ 48) : Stays w w' :=
  ⟨g.size, fun k cs t f hk ht => g.block k (Array.getElem?_eq_some_iff.1 hk).1 fun e2 => by
    rcases h.2 with ⟨e3, _⟩ | ⟨g2, cap, cur, e3, _, hb, _⟩
    · rw [e3] at e2; cases e2
    · rw [e3] at e2
      simp only [Value.ownBlock, Option.some.injEq] at e2
      subst e2
      rw [hk] at hb
      simp only [Option.some.injEq, Obj.cells.injEq] at hb
      rcases ht with rfl | rfl
      · exact h1 hb.2.1.symm
      · exact h2 hb.2.1.symm⟩
theorem setCells_far {b k : Nat} (h : k ≠ b) : ∀ (vs : List Value) (o : Nat) (w : World), (w.setCells b o vs).heap[k]? = w.heap[k]?
  | [], _, _ => rfl
  | v :: vs, o, w => by
    rw [World.setCells, setCells_far h vs (o + 1)]
    exact Below.heap_setCell _ _ _ _ h
theorem setCells_size {b : Nat} : ∀ (vs : List Value) (o : Nat) (w : World), (w.setCells b o vs).heap.size = w.heap.size
  | [], _, _ => rfl
  | v :: vs, o, w => by rw [World.setCells, setCells_size vs (o + 1)]; simp [World.setCell]
def brkC (b : Brk) : List Value := [.int .i64 b.1, .int .i64 b.2.1, .int .i64 b.2.2]
/-- Lines vl, their ends ve, the last break in the block L. -/
structure LnS (w0 w : World) (L : Nat) (vl : Value) (LS : List RR) (ve : Value) (ES : List Brk) (b : Brk) : Prop where
  x : Ext w0 w
  lb : w0.heap.size ≤ L
  box : Blk w L 43 (brkC b)
  rows : w.ownsRow w0.heap.size 45 1 vl LS.length (LS.map rrV)
  each : ∀ x ∈ LS, SeenR w x.A x.rs ∧ TypedO w x.A ∧ ∀ y ∈ x.rs, TypedI w y.A
  ends : w.ownsRow (L + 1) 43 3 ve ES.length (flatK ES)
theorem LnS.new {w0 w : World} {L : Nat} {b : Brk} (x : Ext w0 w) (lb : w0.heap.size ≤ L) (box : Blk w L 43 (brkC b)) : LnS w0 w L (.slice none 0 0) [] (.slice none 0 0) [] b :=
  ⟨x, lb, box, World.ownsRow_nil _ _ _ _, fun x h => by simp at h, World.ownsRow_nil _ _ _ _⟩
theorem LnS.ext {w0 w w' : World} {L : Nat} {vl ve : Value} {LS : List RR} {ES : List Brk} {b : Brk} (h : LnS w0 w L vl LS ve ES b) (x : Ext w w') : LnS w0 w' L vl LS ve ES b :=
  ⟨h.x.trans x, h.lb, h.box.ext x, OwnsRow.ext h.rows x, fun y hy => ⟨(h.each y hy).1.ext x, (h.each y hy).2.1.ext x, fun z hz => ((h.each y hy).2.2 z hz).ext x⟩, OwnsRow.ext h.ends x⟩
theorem each_stays {w w' : World} (s : Stays w w') {LS : List RR} (h : ∀ x ∈ LS, SeenR w x.A x.rs ∧ TypedO w x.A ∧ ∀ y ∈ x.rs, TypedI w y.A) : ∀ x ∈ LS, SeenR w' x.A x.rs ∧ TypedO w' x.A ∧ ∀ y ∈ x.rs, TypedI w' y.A :=
  fun x hx => ⟨s.seenR (h x hx).1 (h x hx).2.1 (h x hx).2.2, s.typedO (h x hx).2.1, fun y hy => s.typedI ((h x hx).2.2 y hy)⟩
theorem own_at {w : World} {v : Value} {base n size : Nat} {e : TypeId} {xs : List Value} (h : w.ownsRow base e size v n xs) : ∀ k, v.ownBlock = some k → ∃ cs, w.heap[k]? = some (.cells cs e (0, 0)) := fun k hk => by
  rcases h.2 with ⟨e3, _⟩ | ⟨g2, cap, cur, e3, _, hb, _⟩
  · rw [e3] at hk; cases hk
  · rw [e3] at hk
    cases hk
    exact ⟨cur, hb⟩
theorem rows_info17 : (Tryz.prog.info? 45).map (fun i => (i.zero, i.size, i.bytes)) = some (some (.slice none 0 0), 1, 24) := by kernel_rfl
/-- append(lines, x). -/
theorem LnS.putL {w0 w : World} {L : Nat} {vl ve : Value} {LS : List RR} {ES : List Brk} {b : Brk} (h : LnS w0 w L vl LS ve ES b) (x : RR) (hx : SeenR w x.A x.rs ∧ TypedO w x.A ∧ ∀ y ∈ x.rs, TypedI w y.A) (hm : LS.length + 1 ≤ 1000000) (ty : TypeId) :
    ∃ v' w', (Builtin.append_ #[41, 41] ty #[vl, .slice (some ⟨w.heap.size, 0, none⟩) 1 1]).run Tryz.prog (w.alloc (.cells #[rrV x] 45)) = .ok v' w' ∧ LnS w0 w' L v' (LS ++ [x]) ve ES b := by
  have hX : Ext w (w.alloc (.cells #[rrV x] 45)) := (Ext.refl w).alloc _
  have h1 := h.ext hX
  have hx1 : SeenR (w.alloc (.cells #[rrV x] 45)) x.A x.rs ∧ TypedO (w.alloc (.cells #[rrV x] 45)) x.A ∧ ∀ y ∈ x.rs, TypedI (w.alloc (.cells #[rrV x] 45)) y.A := ⟨hx.1.ext hX, hx.2.1.ext hX, fun y hy => (hx.2.2 y hy).ext hX⟩
  have hs := seen_new w [rrV x] 45
  obtain ⟨i, hi, hz0, hsz, hby⟩ := info_parts rows_info17
  generalize w.alloc (.cells #[rrV x] 45) = w1 at *
  obtain ⟨v', w', hr, ho, hg, _, _⟩ := run_append_own_at (P := Tryz.prog) w1 w0.heap.size 41 ty 45 i (.slice none 0 0) 1 24 Tryz.underlying41 hi hz0 hsz hby rfl (by omega) vl LS.length (LS.map rrV) h1.rows ⟨w.heap.size, 0, none⟩ 1 1 [rrV x] rfl
    (fun j u hu => by
      obtain ⟨ad', e, _, hc⟩ := hs j u hu
      cases e
      exact hc) (by intro v hv; rw [List.mem_singleton.1 hv]; rfl) (by unfold maxLen; omega) (by omega) h1.x.size
  have st := stays_grown h1.rows hg (by decide) (by decide)
  refine ⟨v', w', hr, ⟨ext_of_grown h1.x h1.rows (Nat.le_refl _) hg, h.lb, ?_, by rw [List.length_append, List.map_append]; exact ho, fun y hy => ?_, ?_⟩⟩
  · refine (hg.block L h1.box.lt fun e => ?_).trans h1.box
    obtain ⟨cs, hb⟩ := own_at h1.rows L e.symm
    have := h1.box
    unfold Blk at this
    rw [hb] at this
    simp only [Option.some.injEq, Obj.cells.injEq] at this
    exact absurd this.2.1 (by decide)
  · rcases List.mem_append.1 hy with hy | hy
    · exact each_stays st h1.each y hy
    · rw [List.mem_singleton.1 hy]
      exact each_stays st (LS := [x]) (fun z hz => by rw [List.mem_singleton.1 hz]; exact hx1) x (by simp)
  · refine ownsRow_at h1.ends fun k hk => hg.block k (h1.ends.lt k hk).2 fun e => ?_
    obtain ⟨cs, hb⟩ := own_at h1.rows k e.symm
    obtain ⟨cs2, hb2⟩ := own_at h1.ends k hk
    rw [hb] at hb2
    simp only [Option.some.injEq, Obj.cells.injEq] at hb2
    exact absurd hb2.2.1 (by decide)
theorem brk_info17 : (Tryz.prog.info? 43).map (fun i => (i.zero, i.size, i.bytes)) = some (some (.agg #[.int .i64 0, .int .i64 0, .int .i64 0]), 3, 24) := by kernel_rfl
/-- append(ends, c). -/
theorem LnS.putE {w0 w : World} {L : Nat} {vl ve : Value} {LS : List RR} {ES : List Brk} {b : Brk} (h : LnS w0 w L vl LS ve ES b) (c : Brk) (hm : ES.length + 1 ≤ 1000000) (ty : TypeId) :
    ∃ v' w', (Builtin.append_ #[35, 35] ty #[ve, .slice (some ⟨w.heap.size, 0, none⟩) 1 1]).run Tryz.prog (w.alloc (.cells #[.int .i64 c.1, .int .i64 c.2.1, .int .i64 c.2.2] 43)) = .ok v' w' ∧ LnS w0 w' L vl LS v' (ES ++ [c]) b := by
  have hX : Ext w (w.alloc (.cells #[.int .i64 c.1, .int .i64 c.2.1, .int .i64 c.2.2] 43)) := (Ext.refl w).alloc _
  have h1 := h.ext hX
  have hs := seen_new w [.int .i64 c.1, .int .i64 c.2.1, .int .i64 c.2.2] 43
  obtain ⟨i, hi, hz0, hsz, hby⟩ := info_parts brk_info17
  generalize w.alloc (.cells #[.int .i64 c.1, .int .i64 c.2.1, .int .i64 c.2.2] 43) = w1 at *
  have hbase : L + 1 ≤ w1.heap.size := h1.box.lt
  obtain ⟨v', w', hr, ho, hg, _, _⟩ := run_append_own_at (P := Tryz.prog) w1 (L + 1) 35 ty 43 i (.agg #[.int .i64 0, .int .i64 0, .int .i64 0]) 3 24 Tryz.underlying35 hi hz0 hsz hby rfl (by omega) ve ES.length (flatK ES) h1.ends ⟨w.heap.size, 0, none⟩ 1 1 (flatK [c]) rfl
    (fun j u hu => by
      obtain ⟨ad', e, _, hc⟩ := hs j u hu
      cases e
      exact hc) (flatK_one [c]) (by unfold maxLen; omega) (by omega) hbase
  have st := stays_grown h1.ends hg (by decide) (by decide)
  refine ⟨v', w', hr, ⟨ext_of_grown h1.x h1.ends (by have := h1.lb; omega) hg, h.lb, ?_, ?_, each_stays st h1.each, by rw [List.length_append, flatK_append]; exact ho⟩⟩
  · refine (hg.block L h1.box.lt fun e => ?_).trans h1.box
    have := (h1.ends.lt L e.symm).1
    omega
  · refine ownsRow_at h1.rows fun k hk => hg.block k (h1.rows.lt k hk).2 fun e => ?_
    obtain ⟨cs, hb⟩ := own_at h1.ends k e.symm
    obtain ⟨cs2, hb2⟩ := own_at h1.rows k hk
    rw [hb] at hb2
    simp only [Option.some.injEq, Obj.cells.injEq] at hb2
    exact absurd hb2.2.1 (by decide)
/-- last = c. -/
theorem LnS.setB {w0 w : World} {L : Nat} {vl ve : Value} {LS : List RR} {ES : List Brk} {b : Brk} (h : LnS w0 w L vl LS ve ES b) (c : Brk) : LnS w0 (w.setCells L 0 (brkC c)) L vl LS ve ES c := by
  have far : ∀ k, k ≠ L → (w.setCells L 0 (brkC c)).heap[k]? = w.heap[k]? := fun k hk => setCells_far hk _ _ _
  have hL : ∃ cs f, w.heap[L]? = some (.cells cs 43 f) := ⟨_, _, h.box⟩
  refine ⟨ext_setCells h.lb _ _ _ h.x, h.lb, blk_setCells h.box _ rfl, ownsRow_at h.rows fun k hk => far k fun e => ?_, each_stays ⟨by rw [setCells_size]; exact Nat.le_refl _, fun k cs t f hk ht => far k fun e => ?_⟩ h.each, ownsRow_at h.ends fun k hk => far k fun e => ?_⟩
  · subst e
    obtain ⟨cs2, hb2⟩ := own_at h.rows k hk
    obtain ⟨cs, f, hb⟩ := hL
    rw [hb2] at hb
    simp only [Option.some.injEq, Obj.cells.injEq] at hb
    exact absurd hb.2.1 (by decide)
  · subst e
    obtain ⟨cs', f', hb⟩ := hL
    rw [hk] at hb
    simp only [Option.some.injEq, Obj.cells.injEq] at hb
    rcases ht with rfl | rfl
    · exact absurd hb.2.1 (by decide)
    · exact absurd hb.2.1 (by decide)
  · have := (h.ends.lt k hk).1
    omega
/-- What is asked of Whole. -/
theorem LnS.seen {w0 w : World} {L : Nat} {vl ve : Value} {LS : List RR} {ES : List Brk} {b : Brk} (h : LnS w0 w L vl LS ve ES b) : ∃ A c B d, vl = .slice A LS.length c ∧ ve = .slice B ES.length d ∧ SeenRR w A LS ∧ SeenK w B ES := by
  obtain ⟨A, c, rfl, hs⟩ := own_seen h.rows
  obtain ⟨B, d, rfl, hk⟩ := own_seen h.ends
  exact ⟨A, c, B, d, rfl, rfl, ⟨hs, fun x hx => (h.each x hx).1⟩, hk⟩
/-- One's own list of rows that are older. -/
def OwnV (w0 w : World) (v : Value) (l : List RI) : Prop := w.ownsRow w0.heap.size 48 1 v l.length (l.map riV) ∧ Ext w0 w ∧ ∀ x ∈ l, SeenL w0 x.A x.ns
theorem OwnV.nil {w0 w : World} (x : Ext w0 w) : OwnV w0 w (.slice none 0 0) [] := ⟨World.ownsRow_nil _ _ _ _, x, fun x h => by simp at h⟩
theorem OwnV.seen {w0 w : World} {v : Value} {l : List RI} (h : OwnV w0 w v l) : ∃ A c, v = .slice A l.length c ∧ SeenR w A l := by
  obtain ⟨A, c, rfl, hs⟩ := own_seen h.1
  exact ⟨A, c, rfl, hs, fun x hx => (h.2.2 x hx).ext h.2.1⟩
theorem OwnV.put {w0 w : World} {v : Value} {l : List RI} (h : OwnV w0 w v l) (x : RI) (hx : SeenL w0 x.A x.ns) (hm : l.length + 1 ≤ 1000000) (ty : TypeId) :
    ∃ v' w', (Builtin.append_ #[45, 45] ty #[v, .slice (some ⟨w.heap.size, 0, none⟩) 1 1]).run Tryz.prog (w.alloc (.cells #[riV x] 48)) = .ok v' w' ∧ OwnV w0 w' v' (l ++ [x]) := by
  have hX : Ext w (w.alloc (.cells #[riV x] 48)) := (Ext.refl w).alloc _
  have h1 := OwnsRow.ext h.1 hX
  have x1 := h.2.1.trans hX
  have hs := seen_new w [riV x] 48
  obtain ⟨i, hi, hz0, hsz, hby⟩ := info_parts ints_info17
  generalize w.alloc (.cells #[riV x] 48) = w1 at *
  obtain ⟨v', w', hr, ho, hg, _, _⟩ := run_append_own_at (P := Tryz.prog) w1 w0.heap.size 45 ty 48 i (.slice none 0 0) 1 24 Tryz.underlying45 hi hz0 hsz hby rfl (by omega) v l.length (l.map riV) h1 ⟨w.heap.size, 0, none⟩ 1 1 [riV x] rfl
    (fun j u hu => by
      obtain ⟨ad', e, _, hc⟩ := hs j u hu
      cases e
      exact hc) (by intro v hv; rw [List.mem_singleton.1 hv]; rfl) (by unfold maxLen; omega) (by omega) x1.size
  refine ⟨v', w', hr, by rw [List.length_append, List.map_append]; exact ho, ext_of_grown x1 h1 (Nat.le_refl _) hg, fun y hy => ?_⟩
  rcases List.mem_append.1 hy with hy | hy
  · exact h.2.2 y hy
  · rw [List.mem_singleton.1 hy]; exact hx
end L17
end Go.Proofs.YtmmgmcfhlhghoaaGreatDoor

