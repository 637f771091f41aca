/- Layer 10: two rows of one's own (patterns, exceptions), to which others are put, in whatever order. -/
import Derived.Test.YtijhabhnhglhgaaDoorAwakeB10
import Derived.Deep.RegionHeld3
import Derived.Deep.RegionLaw
namespace Go.Proofs.YtijhabhnhglhgaaDoor
open Go.RowKit Go.Deep
namespace L10

/-- A store of a struct, in a region that draws its order. -/
theorem step_store10 {P : Program} {ops : Array Oper} {o : Oper} {a : Act} {w : World} {K : Act → World → Prop} {Q : Exit → Act → World → Prop} {E : Prop} (ty : TypeId) (x y : Operand) (ho : o.op = .store ty x y)
    (b : Nat) (cells : Array Value) (hx : a.eval x = .pointer (some ⟨b, 0, none⟩)) (hy : a.eval y = .agg cells) (ht : w.there b 0 cells.size) (hi : (P.info? ty).map (·.size) = some cells.size) (h1 : cells.all (·.oneCell') = true)
    (hw : Region.wanted o (yielded ops a.tmps) = true) (h : K (a.put o.dst undef) (w.setCells b 0 cells.toList)) : if Region.wanted o (yielded ops a.tmps) = true then Oper.wp P o a w K Q else E := by
  rw [if_pos hw]
  exact wp_store_mid ty x y ho b 0 cells hx hy ht hi h1 h

/-- append(own, more...), of structs of two cells. -/
theorem run_putW {w w0 : World} (t ty e : TypeId) (ht : Tryd.prog.underlying t = some (.slice e)) (hz : (Tryd.prog.info? e).map (fun i => (i.zero, i.size, i.bytes)) = some (some (.agg #[.string ⟨#[]⟩, .slice none 0 0]), 2, 40))
    {v : Value} {m : List WP} (hown : w.ownsRow w0.heap.size e 2 v m.length (flatW m)) (hx0 : Ext w0 w) (A : Option Addr) (l : List WP) (n c : Nat) (hx : SeenW w A l) (hn : n = l.length) (hm : m.length + l.length ≤ 1000000) :
    ∃ v' w', (Builtin.append_ #[t, t] ty #[v, .slice A n c]).run Tryd.prog w = .ok v' w' ∧ w'.ownsRow w0.heap.size e 2 v' (m ++ l).length (flatW (m ++ l)) ∧ Ext w0 w' ∧ Kp v.ownBlock w w' ∧ (v'.ownBlock = v.ownBlock ∨ v'.ownBlock = some w.heap.size) := by
  subst hn
  obtain ⟨i, hi, hz0, hsz, hby⟩ := info_parts hz
  rcases A with _ | ad
  · have hl : l = [] := by
      rcases l with _ | ⟨b, l⟩
      · rfl
      · obtain ⟨⟨_, e, _⟩, _⟩ := hx.get (k := 0) (by simp); cases e
    subst hl
    refine ⟨v, w, ?_, by simpa using hown, hx0, Kp.of_grown (World.grownBy.refl w _), .inl rfl⟩
    rcases hown.2 with ⟨rfl, _⟩ | ⟨g, cap, cur, rfl, _, _, hnc, _⟩
    · simp [Builtin.append_, run_underlying ht, sizeOf, typeInfo, hi, Builtin.lenOf, Builtin.firstCells]
    · simp [Builtin.append_, run_underlying ht, sizeOf, typeInfo, hi, Builtin.lenOf, Builtin.firstCells, hnc, storeCells]
  · obtain ⟨v', w', hrun, h2, h3, _, hat⟩ := run_append_own_at (P := Tryd.prog) w w0.heap.size t ty e i (.agg #[.string ⟨#[]⟩, .slice none 0 0]) 2 40 ht hi hz0 hsz hby rfl (by omega) v m.length (flatW m) hown ad l.length c (flatW l) (flatW_length l)
      (fun j u hu => by
        obtain ⟨ad', e, _, hc⟩ := hx.flat j u hu
        obtain rfl : ad = ad' := by simpa using e
        exact hc) (flatW_one l) (by unfold maxLen; omega) (by omega) hx0.size
    refine ⟨v', w', hrun, ?_, Below.grown hx0 h3 hx0.size (fun k hk => (hown.lt k hk).1), Kp.of_grown h3, hat⟩
    rw [List.length_append, flatW_append]
    exact h2

/-- Two rows that grow, and (once it is made) a variable for them. -/
structure TwoR (W w : World) (vl vm : Value) (l m : List WP) (b : Option Nat) : Prop where
  x : Ext W w
  rl : w.ownsRow W.heap.size 42 2 vl l.length (flatW l)
  rm : w.ownsRow W.heap.size 45 2 vm m.length (flatW m)
  lm : ∀ n, vl.ownBlock = some n → vm.ownBlock ≠ some n
  box : ∀ B, b = some B → Blk w B 27 [.slice none 0 0, .slice none 0 0] ∧ W.heap.size ≤ B ∧ some B ≠ vl.ownBlock ∧ some B ≠ vm.ownBlock
theorem TwoR.start (W : World) : TwoR W W.drew (.slice none 0 0) (.slice none 0 0) [] [] none :=
  ⟨(Ext.refl W).drew, World.ownsRow_nil _ _ _ _, World.ownsRow_nil _ _ _ _, fun n e => (by cases e), fun B e => (by cases e)⟩
theorem TwoR.litL {W w : World} {vm : Value} {m : List WP} {b : Option Nat} (h : TwoR W w (.slice none 0 0) vm [] m b) :
    TwoR W (w.alloc (.cells #[] 42)) (.slice (some ⟨w.heap.size, 0, none⟩) 0 0) vm [] m b := by
  refine ⟨h.x.alloc _, ?_, OwnsRow.ext h.rm ((Ext.refl _).alloc _), fun n e e' => ?_, fun B e => ?_⟩
  · have := World.ownsRow_lit (base := W.heap.size) (e := 42) (size := 2) w #[] 0 h.x.size (by unfold maxLen; omega) (by simp)
    simpa [flatW] using this
  · have e : some w.heap.size = some n := e
    cases e
    have := (h.rm.lt _ e').2
    omega
  · obtain ⟨h1, h2, h3, h4⟩ := h.box B e
    exact ⟨h1.ext ((Ext.refl _).alloc _), h2, fun e => by
      have e : some B = some w.heap.size := e
      cases e
      have := h1.lt; omega, h4⟩
theorem TwoR.litM {W w : World} {vl : Value} {l : List WP} {b : Option Nat} (h : TwoR W w vl (.slice none 0 0) l [] b) :
    TwoR W (w.alloc (.cells #[] 45)) vl (.slice (some ⟨w.heap.size, 0, none⟩) 0 0) l [] b := by
  refine ⟨h.x.alloc _, OwnsRow.ext h.rl ((Ext.refl _).alloc _), ?_, fun n e e' => ?_, fun B e => ?_⟩
  · have := World.ownsRow_lit (base := W.heap.size) (e := 45) (size := 2) w #[] 0 h.x.size (by unfold maxLen; omega) (by simp)
    simpa [flatW] using this
  · have e' : some w.heap.size = some n := e'
    cases e'
    have := (h.rl.lt _ e).2
    omega
  · obtain ⟨h1, h2, h3, h4⟩ := h.box B e
    exact ⟨h1.ext ((Ext.refl _).alloc _), h2, h3, fun e => by
      have e : some B = some w.heap.size := e
      cases e
      have := h1.lt; omega⟩
theorem TwoR.var {W w : World} {vl vm : Value} {l m : List WP} (h : TwoR W w vl vm l m none) :
    TwoR W (w.alloc (.cells #[.slice none 0 0, .slice none 0 0] 27)) vl vm l m (some w.heap.size) := by
  refine ⟨h.x.alloc _, OwnsRow.ext h.rl ((Ext.refl _).alloc _), OwnsRow.ext h.rm ((Ext.refl _).alloc _), h.lm, fun B e => ?_⟩
  cases e
  exact ⟨Blk.lit _ _ _ _ rfl, h.x.size, fun e => by have := (h.rl.lt _ e.symm).2; omega, fun e => by have := (h.rm.lt _ e.symm).2; omega⟩
theorem TwoR.putL {W w : World} {vl vm : Value} {l m : List WP} {b : Option Nat} (h : TwoR W w vl vm l m b) (A : Option Addr) (y : List WP) (n c : Nat) (hy : SeenW W A y) (hn : n = y.length) (hm : l.length + y.length ≤ 1000000) :
    ∃ v' w', (Builtin.append_ #[24, 24] 24 #[vl, .slice A n c]).run Tryd.prog w = .ok v' w' ∧ TwoR W w' v' vm (l ++ y) m b := by
  obtain ⟨v', w', hr, ho, hx, K, hat⟩ := run_putW (w0 := W) 24 24 42 Tryd.underlying24 pat_info h.rl h.x A y n c (hy.ext h.x) hn hm
  have fresh : ∀ a : Nat, a < w.heap.size → vl.ownBlock ≠ some a → v'.ownBlock ≠ some a := fun a h1 h2 h3 => by
    rcases hat with h4 | h4
    · rw [h4] at h3; exact h2 h3
    · rw [h4] at h3; cases h3; omega
  refine ⟨v', w', hr, hx, ho, K.row h.rm (fun g e e' => h.lm g e'.symm e), fun n e e' => fresh n (h.rm.lt _ e').2 (fun e2 => h.lm n e2 e') e, fun B e => ?_⟩
  obtain ⟨h1, h2, h3, h4⟩ := h.box B e
  exact ⟨K.blk h1 h3, h2, fun e => fresh B h1.lt (fun e2 => h3 e2.symm) e.symm, h4⟩
theorem TwoR.putM {W w : World} {vl vm : Value} {l m : List WP} {b : Option Nat} (h : TwoR W w vl vm l m b) (A : Option Addr) (y : List WP) (n c : Nat) (hy : SeenW W A y) (hn : n = y.length) (hm : m.length + y.length ≤ 1000000) :
    ∃ v' w', (Builtin.append_ #[25, 25] 25 #[vm, .slice A n c]).run Tryd.prog w = .ok v' w' ∧ TwoR W w' vl v' l (m ++ y) b := by
  obtain ⟨v', w', hr, ho, hx, K, hat⟩ := run_putW (w0 := W) 25 25 45 Tryd.underlying25 exc_info h.rm h.x A y n c (hy.ext h.x) hn hm
  have fresh : ∀ a : Nat, a < w.heap.size → vm.ownBlock ≠ some a → v'.ownBlock ≠ some a := fun a h1 h2 h3 => by
    rcases hat with h4 | h4
    · rw [h4] at h3; exact h2 h3
    · rw [h4] at h3; cases h3; omega
  refine ⟨v', w', hr, hx, K.row h.rl (fun g e e' => h.lm g e e'.symm), ho, fun n e e' => fresh n (h.rl.lt _ e).2 (h.lm n e) e', fun B e => ?_⟩
  obtain ⟨h1, h2, h3, h4⟩ := h.box B e
  exact ⟨K.blk h1 h4, h2, h3, fun e => fresh B h1.lt (fun e2 => h4 e2.symm) e.symm⟩
theorem TwoR.shape {W w : World} {vl vm : Value} {l m : List WP} {b : Option Nat} (h : TwoR W w vl vm l m b) (n q : Nat) (hn : n = l.length) (hq : q = m.length) : ∃ Al cl Am cm, vl = .slice Al n cl ∧ vm = .slice Am q cm := by
  subst hn hq
  obtain ⟨Al, cl, e1, _⟩ := row_slice h.rl
  obtain ⟨Am, cm, e2, _⟩ := row_slice h.rm
  exact ⟨Al, cl, Am, cm, e1, e2⟩
/-- What is stored. -/
theorem TwoR.done {W w : World} {vl vm : Value} {l m : List WP} {B : Nat} (h : TwoR W w vl vm l m (some B)) (hl : ∀ x ∈ l ++ m, SeenL W x.A x.ns) (n q : Nat) (hn : n = l.length) (hq : q = m.length) :
    ∃ Al cl Am cm, vl = .slice Al n cl ∧ vm = .slice Am q cm ∧ n ≤ cl ∧ cl ≤ maxLen ∧ q ≤ cm ∧ cm ≤ maxLen ∧ Ext W (w.setCells B 0 [vl, vm]) ∧ Blk (w.setCells B 0 [vl, vm]) B 27 [vl, vm] ∧
      SeenPats (w.setCells B 0 [vl, vm]) ⟨l, m⟩ ⟨Al, cl, Am, cm⟩ := by
  subst hn hq
  obtain ⟨h1, h2, h3, h4⟩ := h.box B rfl
  have hx : Ext W (w.setCells B 0 [vl, vm]) := ext_setCells h2 _ _ _ h.x
  have K := Kp.sets [vl, vm] B 0 w
  have rl := K.row h.rl (fun g e e' => h3 (by rw [e, e']))
  have rm := K.row h.rm (fun g e e' => h4 (by rw [e, e']))
  obtain ⟨Al, cl, e1, p1, p2, s1⟩ := row_slice rl
  obtain ⟨Am, cm, e2, p3, p4, s2⟩ := row_slice rm
  exact ⟨Al, cl, Am, cm, e1, e2, p1, p2, p3, p4, hx, blk_setCells h1 _ rfl, seenW_of s1 (fun x hx' => SeenL.ext (hl x (List.mem_append.2 (.inl hx'))) hx), seenW_of s2 (fun x hx' => SeenL.ext (hl x (List.mem_append.2 (.inr hx'))) hx)⟩
end L10
end Go.Proofs.YtijhabhnhglhgaaDoor

