/- What the landed program learns of a character's rules. -/
import Derived.Test.YtijhabhnhglhgaaRule08
import Derived.Test.YtijhabhnhglhgaaMapP08
namespace Go.Proofs.Ytijhabhnhglhgaa
open Go.RowKit Go.Lib
namespace L08
open L07

attribute [local go_sem] Oper.semAt_some

/-- No cell that was there has turned. -/
abbrev NoT : Addr → Prop := fun _ => False
theorem chg_over {N : Nat} {w W : World} {p : Addr} (h : Chg NoT N w W) (hp : w.heap.size ≤ p.block) (hN : N ≤ w.heap.size) (u : Value) : Chg NoT N w (W.setCell p u) := by
  refine ⟨Nat.le_trans h.size (by simp [World.setCell]), fun q v hq hc => ?_, fun q v hq hc hf => by rw [World.frozen?_setCell]; exact h.fz q v hq hc hf, fun b cs t f hb hc => ?_, fun w0 l x => (h.old w0 l x).setCell (by omega) u⟩
  · have hlt := World.block_lt_of_cell? w _ hc
    rw [World.cell?_setCell_other _ _ _ _ (fun e => by rw [e] at hp; omega)]
    exact h.cell q v hq hc
  · have hlt := (Array.getElem?_eq_some_iff.1 hc).1
    show (W.heap.modify p.block _)[b]? = _
    rw [Array.getElem?_modify, if_neg (by omega)]
    exact h.blk b cs t f hb hc
theorem seenF_chg {N : Nat} {w w' : World} {A : Option Addr} {n : Nat} {f : Nat → Int} (h : SeenF w A n f) (x : Chg NoT N w w') : SeenF w' A n f := fun j hj => by
  obtain ⟨ad, e, hb, hc⟩ := h j hj
  exact ⟨ad, e, Nat.lt_of_lt_of_le hb x.size, x.cell _ _ (fun h => h) hc⟩
theorem seenFont_chg {N : Nat} {w w' : World} {D : FontD} {P : FontP} (h : SeenFont w D P) (x : Chg NoT N w w') : SeenFont w' D P :=
  ⟨seenN_chg h.oc x (fun _ _ _ _ h => h), seenF_chg h.ow x, seenF_chg h.oh x, seenF_chg h.od x, seenF_chg h.oi x, seenN_chg h.os x (fun _ _ _ _ h => h), seenF_chg h.ok x, seenF_chg h.op x⟩
theorem keepsFrom_ext {B : Nat} {W W' : World} (x : Ext W W') : KeepsFrom B W W' := ⟨x.size, fun k _ _ hk _ => (x.block k (Array.getElem?_eq_some_iff.1 hk).1).trans hk⟩
/-- A row of bools of one's own. -/
def RowB (w : World) (b n : Nat) (f : Int → Bool) : Prop := ∀ j : Nat, j < n → w.cell? ⟨b, j, none⟩ = some (.bool (f j)) ∧ w.frozen? ⟨b, j, none⟩ = false
theorem RowB.ext {w w' : World} {b n : Nat} {f : Int → Bool} (h : RowB w b n f) (x : Ext w w') : RowB w' b n f := fun j hj => ⟨x.at (h j hj).1, x.fz (h j hj).1 (h j hj).2⟩
theorem RowB.chg {T : Addr → Prop} {N : Nat} {w w' : World} {b n : Nat} {f : Int → Bool} (h : RowB w b n f) (x : Chg T N w w') (hT : ∀ o, ¬ T ⟨b, o, none⟩) : RowB w' b n f := fun j hj => ⟨x.cell _ _ (hT j) (h j hj).1, x.fz _ _ (hT j) (h j hj).1 (h j hj).2⟩
theorem RowB.kept {W W' : World} {row : Option Nat} {b n : Nat} {f : Int → Bool} (h : RowB W b n f) (hg : W.grownBy W' row) (hr : ∀ r, row = some r → ∃ o : Obj, W.heap[r]? = some o ∧ o.isCells = false) : RowB W' b n f := fun j hj =>
  ⟨cell_kept (h j hj).1 hg hr, (frozen_kept (h j hj).1 hg hr).trans (h j hj).2⟩
theorem RowB.set {w : World} {b n : Nat} {f : Int → Bool} (h : RowB w b n f) (i : Nat) (x : Bool) : RowB (w.setCell ⟨b, i, none⟩ (.bool x)) b n (fun y => if y = (i : Int) then x else f y) := fun j hj => by
  refine ⟨?_, by rw [World.frozen?_setCell]; exact (h j hj).2⟩
  by_cases e : j = i
  · subst e
    simp only [if_true]
    exact World.cell?_setCell_same _ _ _ (h j hj).1
  · simp only [show ¬ (j : Int) = (i : Int) by omega, if_false]
    rw [World.cell?_setCell_other _ _ _ _ (fun e => by cases e; omega)]
    exact (h j hj).1

theorem rowB_lit (w : World) (b : Nat) (cs : Array Value) (t : TypeId) (n : Nat) (f : Int → Bool) (hb : b = w.heap.size) (h : ∀ j : Nat, j < n → cs[j]? = some (.bool (f j))) : RowB (w.alloc (.cells cs t)) b n f := fun j hj => by
  subst hb
  refine ⟨?_, by simp⟩
  rw [World.cell?_alloc_at _ _ _ _ rfl]
  exact h j hj
/-- An array of noughts, 256 of them. -/
theorem zero256 : ∃ Z : Array Value, (∀ w, (zeroValue 71).run Try.prog w = .ok (.agg Z) w) ∧ ∀ j : Nat, j < 256 → Z[j]? = some (.bool false) :=
  ⟨Array.replicate 256 (.bool false), fun w => by kernel_rfl, fun j hj => by simp [hj]⟩

/-- What a function answers whose result is a bool's box. -/
theorem results_bool {fn : Func} (h : fn.results = #[.cell 8 4]) (tmps : Array Value) (W : World) (R : Nat) (t : TypeId) (e : Value) (h8 : tmps[8]? = some (.pointer (some ⟨R, 0, none⟩))) (hb : Blk W R t [e]) :
    (results fn tmps).run Try.prog W = .ok e W := by
  have r0 : W.cell? ⟨R, 0, none⟩ = some e := hb.cell 0
  simp only [results, h]
  simp [go_sem, loadVar, asAddr, *]
/-- What learn answers. -/
def LearnQ (D : FontD) (c : Int) (l : List (Option Nat)) (m : MapN) (bm n : Nat) (w : World) (e : Ending) (w' : World) : Prop :=
  Chg NoT bm w w' ∧ ((∃ s, learnL D c l (m, fun _ => false) = some s ∧ e = .returned (.bool true) ∧ MapF w' bm (n + 300) s.1) ∨ (learnL D c l (m, fun _ => false) = none ∧ e = .returned (.bool false)))

set_option maxRecDepth 100000 in
set_option maxHeartbeats 8000000 in
theorem learn_any (D : FontD) (P : FontP) (c : Int) (j bm n : Nat) (m : MapN) (w : World) (ok : FontOk D P) (sn : SeenFont w D P) (hD : checkB D = true) (hj : j < D.nc) (_ : 0 ≤ c ∧ c ≤ 300) (hm : MapF w bm n m) (hn : n ≤ 1000000) :
    Calls Try.prog 60 #[fontV D P, .int .i64 c, charV (D.chr j 0) (D.chr j 1) (D.chr j 2) (D.chr j 3) (D.chr j 4) (D.chr j 5), .map (some bm)] w (LearnQ D c (seqC D j) m bm n w) := by
  have hI := Lib.hid (check_in hD)
  have ht := ((check_in hD).chr _ hj).2.2.2.2
  have hns := (check_in hD).ns
  have hs := Lib.hid (fun k hk => ((check_in hD).stp k hk).1)
  have hbm := hm.lt
  have OK := Lib.hid ok
  have HM := Lib.hid hm
  clear ok hm
  refine (callsIn_wide (n := 9)).1 (callsIn_of_wp_marks Try.func60 rfl trivial ?_ rfl)
  refine wpIn_wide.2 ?_
  simp only [fontV, charV, Try.ntmps60, List.size_toArray, List.length_cons, List.length_nil, Nat.reduceAdd, Nat.reduceSub, Array.replicate_succ, Array.replicate_zero, List.push_toArray, List.append_toArray, List.nil_append, List.cons_append]
  obtain ⟨Z, hZ, hZ0⟩ := zero256
  have HZ0 := Lib.hid hZ0
  clear hZ0
  go_wp2_with fail
  obtain ⟨WA, hWA⟩ : ∃ WA, WA = ((((((w.alloc (.cells #[.int .i64 D.sum, .int .i64 D.design, .int .i64 D.first, .slice P.xc D.nc P.zc, .slice P.xw D.nw P.zw, .slice P.xh D.nh P.zh, .slice P.xd D.nd P.zd, .slice P.xi D.ni P.zi, .slice P.xs D.ns P.zs, .slice P.xk D.nk P.zk, .slice P.xp D.np P.zp] 28)).alloc (.cells #[.int .i64 c] 3)).alloc (.cells #[.int .i64 (D.chr j 0), .int .i64 (D.chr j 1), .int .i64 (D.chr j 2), .int .i64 (D.chr j 3), .int .i64 (D.chr j 4), .int .i64 (D.chr j 5)] 44)).alloc (.cells #[.map (some bm)] 62)).alloc (.cells #[.bool false] 4)).alloc (.cells Z 71)) := ⟨_, rfl⟩
  rw [← hWA]
  have kF : Blk WA w.heap.size 28 [.int .i64 D.sum, .int .i64 D.design, .int .i64 D.first, .slice P.xc D.nc P.zc, .slice P.xw D.nw P.zw, .slice P.xh D.nh P.zh, .slice P.xd D.nd P.zd, .slice P.xi D.ni P.zi, .slice P.xs D.ns P.zs, .slice P.xk D.nk P.zk, .slice P.xp D.np P.zp] := by rw [hWA]; exact (Blk.lit _ _ _ _ (by simp)).ext ((((((Ext.refl _).alloc _).alloc _).alloc _).alloc _).alloc _)
  have kC : Blk WA (w.heap.size + 1) 3 [.int .i64 c] := by rw [hWA]; exact (Blk.lit _ _ _ _ (by simp)).ext (((((Ext.refl _).alloc _).alloc _).alloc _).alloc _)
  have kM : Blk WA (w.heap.size + 1 + 1 + 1) 62 [.map (some bm)] := by rw [hWA]; exact (Blk.lit _ _ _ _ (by simp)).ext (((Ext.refl _).alloc _).alloc _)
  have kR : Blk WA (w.heap.size + 1 + 1 + 1 + 1) 4 [.bool false] := by rw [hWA]; exact (Blk.lit _ _ _ _ (by simp)).ext ((Ext.refl _).alloc _)
  have kU : RowB WA (w.heap.size + 1 + 1 + 1 + 1 + 1) 256 (fun _ => false) := by
    rw [hWA]; exact rowB_lit _ _ _ _ _ _ (by simp) HZ0.out
  have X0 : Ext w WA := by rw [hWA]; exact ((((((Ext.refl w).alloc _).alloc _).alloc _).alloc _).alloc _).alloc _
  have hz : WA.heap.size = w.heap.size + 1 + 1 + 1 + 1 + 1 + 1 := by rw [hWA]; simp
  clear hWA hZ HZ0
  generalize hb1 : w.heap.size + 1 = b1 at *
  generalize hb2 : b1 + 1 = b2 at *
  generalize hb3 : b2 + 1 = b3 at *
  generalize hb4 : b3 + 1 = b4 at *
  generalize hb5 : b4 + 1 = b5 at *
  generalize hb0 : w.heap.size = b0 at *
  refine (lsteps_any D P _ _ _ _ _ _ _).mono ?_
  rintro e w1 ⟨rfl, hw1⟩
  have x1 : Ext WA w1 := by rw [hw1]; exact ((Ext.refl _).alloc _).alloc _
  have hz1 : w1.heap.size = b5 + 1 + 1 + 1 := by rw [hw1]; simp; omega
  rw [hz]
  have kf : Blk w1 (b5 + 1) 28 [.int .i64 D.sum, .int .i64 D.design, .int .i64 D.first, .slice P.xc D.nc P.zc, .slice P.xw D.nw P.zw, .slice P.xh D.nh P.zh, .slice P.xd D.nd P.zd, .slice P.xi D.ni P.zi, .slice P.xs D.ns P.zs, .slice P.xk D.nk P.zk, .slice P.xp D.np P.zp] := by rw [hw1]; exact (Blk.lit _ _ _ _ hz.symm).ext ((Ext.refl _).alloc _)
  have kc : Blk w1 (b5 + 1 + 1) 44 [.int .i64 (D.chr j 0), .int .i64 (D.chr j 1), .int .i64 (D.chr j 2), .int .i64 (D.chr j 3), .int .i64 (D.chr j 4), .int .i64 (D.chr j 5)] := by rw [hw1]; exact Blk.lit _ _ _ _ (by simp; omega)
  clear hw1
  have kF := kF.ext x1
  have kC := kC.ext x1
  have kM := kM.ext x1
  have kR := kR.ext x1
  have kU := kU.ext x1
  have X1 := X0.trans x1
  have SN := sn.ext X1
  have hMap := HM.out.ext X1
  clear x1
  go_wp2_with fail
  obtain ⟨V, hV⟩ : ∃ V, V = Value.agg #[.int .i64 D.sum, .int .i64 D.design, .int .i64 D.first, .slice P.xc D.nc P.zc, .slice P.xw D.nw P.zw, .slice P.xh D.nh P.zh, .slice P.xd D.nd P.zd, .slice P.xi D.ni P.zi, .slice P.xs D.ns P.zs, .slice P.xk D.nk P.zk, .slice P.xp D.np P.zp] := ⟨_, rfl⟩
  rw [← hV]
  clear hV
  obtain ⟨C, hC⟩ : ∃ C, C = Value.agg #[.int .i64 (D.chr j 0), .int .i64 (D.chr j 1), .int .i64 (D.chr j 2), .int .i64 (D.chr j 3), .int .i64 (D.chr j 4), .int .i64 (D.chr j 5)] := ⟨_, rfl⟩
  rw [← hC]
  clear hC
  have hxs : ∀ ad, P.xs = some ad → 0 < D.ns → ∀ o, ¬ (fun p : Addr => p.block = b5) (ad.add o) := fun ad e h o ho => by
    obtain ⟨ad', e', hlt, _⟩ := sn.os 0 h 0 (by omega)
    rw [e] at e'
    cases e'
    have ho : (ad.add o).block = b5 := ho
    rw [addr_block] at ho
    omega
  refine wpIn_wide.1 (wpIn_rangeFunc_ownH (n := 9) (F := Fence.wide) rfl (by omega) (gf := 73) (lb := #[.pointer (some ⟨b5 + 1 + 1, 0, none⟩), .pointer (some ⟨b5 + 1, 0, none⟩)]) rfl trivial (enters_of Try.func73 (by kernel_rfl) rfl)
    (steps_stops _ (b5 + 1) D P (D.chr j 4) (D.chr j 5) hns hs.out (by omega) (fun p => p.block = b5) bm (fun p h => by have h : p.block = b5 := h; omega) hxs w1 (by omega) (kf.cell 8) (kc.cell 4) (kc.cell 5) SN.os) (fun h k => Chg.trans h k) (fun W l' o o' hl h1 h2 _ => Chg.putObj W o o' (by omega) h1 h2) (Below.refl _ _) (fun _ => rfl)
    (fun pre W => ((∃ s, learnL D c (pre.map (·.1)) (m, fun _ => false) = some s ∧ MapF W bm (n + pre.length) s.1 ∧ RowB W b5 256 s.2) ∧ Blk W b0 28 [.int .i64 D.sum, .int .i64 D.design, .int .i64 D.first, .slice P.xc D.nc P.zc, .slice P.xw D.nw P.zw, .slice P.xh D.nh P.zh, .slice P.xd D.nd P.zd, .slice P.xi D.ni P.zi, .slice P.xs D.ns P.zs, .slice P.xk D.nk P.zk, .slice P.xp D.np P.zp] ∧ Blk W b1 3 [.int .i64 c] ∧ Blk W b3 62 [.map (some bm)] ∧ Blk W b4 4 [.bool false]) ∧ Chg NoT bm w W)
    (fun cd pre W => (cd = .ret ∧ learnL D c (pre.map (·.1)) (m, fun _ => false) = none ∧ Blk W b4 4 [.bool false]) ∧ Chg NoT bm w W)
    (fun s X Y row hs hg hr => by
      have hr2 : ∀ r, row = some r → ∃ o : Obj, X.heap[r]? = some o ∧ o.isCells = false := fun r e => (hr r e).2
      obtain ⟨⟨⟨s, h1, h2, h3⟩, h4, h5, h6, h7⟩, h8⟩ := hs
      exact ⟨⟨⟨s, h1, h2.kept hg (fun e => by have := (hr _ e.symm).1; omega), h3.kept hg hr2⟩, blk_kept h4 hg hr2, blk_kept h5 hg hr2, blk_kept h6 hg hr2, blk_kept h7 hg hr2⟩, h8.grown hg (fun k e => by have := (hr k e).1; omega) (by omega)⟩)
    (fun cd s X Y row hs hg hr => by
      have hr2 : ∀ r, row = some r → ∃ o : Obj, X.heap[r]? = some o ∧ o.isCells = false := fun r e => (hr r e).2
      obtain ⟨⟨h1, h2, h3⟩, h8⟩ := hs
      exact ⟨⟨h1, h2, blk_kept h3 hg hr2⟩, h8.grown hg (fun k e => by have := (hr k e).1; omega) (by omega)⟩)
    ⟨⟨⟨(m, fun _ => false), rfl, hMap, kU⟩, kF, kC, kM, kR⟩, Chg.of_ext X1⟩
    (fun x a' W => ∃ Bx, b5 < Bx ∧ Blk W Bx 53 [.int .i64 (sv D x 0), .int .i64 (sv D x 1), .int .i64 (sv D x 2), .int .i64 (sv D x 3)] ∧ a' = { tmps := #[V, .int .i64 c, C, .map (some bm), .pointer (some ⟨b0, 0, none⟩), .pointer (some ⟨b1, 0, none⟩), .pointer (some ⟨b2, 0, none⟩), .pointer (some ⟨b3, 0, none⟩), .pointer (some ⟨b4, 0, none⟩), .pointer (some ⟨b5, 0, none⟩), .pointer (some ⟨Bx, 0, none⟩), .bool x.1.isSome, undef, undef, V, C, .func (.func 73) #[] #[.pointer (some ⟨b5 + 1 + 1, 0, none⟩), .pointer (some ⟨b5 + 1, 0, none⟩)], .agg #[.int .i64 (sv D x 0), .int .i64 (sv D x 1), .int .i64 (sv D x 2), .int .i64 (sv D x 3)], .bool x.1.isSome, undef, undef, undef, undef, undef, undef, undef, undef, undef, undef, undef, undef, undef, undef, undef, undef, undef, undef, undef, undef, undef, undef, undef, undef, undef, undef, undef, undef, undef, undef, undef, undef, undef, undef, undef, undef, undef, undef, undef, undef, undef, undef, undef], defers := [] })
    (fun x a' _ X Y row hs hg hr => by obtain ⟨Bx, e1, e2, e3⟩ := hs; exact ⟨Bx, e1, blk_kept e2 hg (fun r e => (hr r e).2), e3⟩)
    ?assign ?body ?done ?stop)
  case assign =>
    rintro l' pre x W K ⟨⟨⟨s, hL, hM, hU⟩, kF, kC, kM, kR⟩, X⟩ hK
    simp only [encS]
    gi_wp2
    have y : Ext W (W.alloc (.cells #[.int .i64 (sv D x 0), .int .i64 (sv D x 1), .int .i64 (sv D x 2), .int .i64 (sv D x 3)] 53)) := (Ext.refl _).alloc _
    exact hK _ _ ((KeepsOthers.alloc _ _).from _) (Chg.of_ext y) ⟨⟨⟨s, hL, hM.ext y, hU.ext y⟩, kF.ext y, kC.ext y, kM.ext y, kR.ext y⟩, X.trans (Chg.of_ext y)⟩ ⟨W.heap.size, by have := (hU 0 (by omega)).1; exact World.block_lt_of_cell? W _ this, Blk.lit _ _ _ _ rfl, rfl⟩
  case body =>
    rintro l' pre x a' W hl _ ⟨⟨⟨s, hL, hM, hU⟩, kF, kC, kM, kR⟩, X⟩ ⟨Bx, hBx, kX, rfl⟩ hlt
    have v0 : W.cell? ⟨Bx, 0, none⟩ = some (.int .i64 (sv D x 0)) := kX.cell 0
    have v1 : W.cell? ⟨Bx, 1, none⟩ = some (.int .i64 (sv D x 1)) := kX.cell 1
    have v2 : W.cell? ⟨Bx, 2, none⟩ = some (.int .i64 (sv D x 2)) := kX.cell 2
    have v3 : W.cell? ⟨Bx, 3, none⟩ = some (.int .i64 (sv D x 3)) := kX.cell 3
    have q0 : W.cell? ⟨b0, 0, none⟩ = some (.int .i64 D.sum) := kF.cell 0
    have q1 : W.cell? ⟨b0, 1, none⟩ = some (.int .i64 D.design) := kF.cell 1
    have q2 : W.cell? ⟨b0, 2, none⟩ = some (.int .i64 D.first) := kF.cell 2
    have q3 : W.cell? ⟨b0, 3, none⟩ = some (.slice P.xc D.nc P.zc) := kF.cell 3
    have q4 : W.cell? ⟨b0, 4, none⟩ = some (.slice P.xw D.nw P.zw) := kF.cell 4
    have q5 : W.cell? ⟨b0, 5, none⟩ = some (.slice P.xh D.nh P.zh) := kF.cell 5
    have q6 : W.cell? ⟨b0, 6, none⟩ = some (.slice P.xd D.nd P.zd) := kF.cell 6
    have q7 : W.cell? ⟨b0, 7, none⟩ = some (.slice P.xi D.ni P.zi) := kF.cell 7
    have q8 : W.cell? ⟨b0, 8, none⟩ = some (.slice P.xs D.ns P.zs) := kF.cell 8
    have q9 : W.cell? ⟨b0, 9, none⟩ = some (.slice P.xk D.nk P.zk) := kF.cell 9
    have q10 : W.cell? ⟨b0, 10, none⟩ = some (.slice P.xp D.np P.zp) := kF.cell 10
    have c0 : W.cell? ⟨b1, 0, none⟩ = some (.int .i64 c) := kC.cell 0
    have m0 : W.cell? ⟨b3, 0, none⟩ = some (.map (some bm)) := kM.cell 0
    have r0 : W.cell? ⟨b4, 0, none⟩ = some (.bool false) := kR.cell 0
    have r1 := kR.free 0
    have HL := Lib.hid (show learnL D c ((pre ++ [x]).map (·.1)) (m, fun _ => false) = learn1 D c s x.1 by rw [List.map_append, List.map_cons, List.map_nil, learnL_snoc, hL]; rfl)
    clear hL
    cases hx : x.1 with
    | none =>
      have e1 : x.1.isSome = false := by rw [hx]; rfl
      have HX := Lib.hid (show learnL D c ((pre ++ [x]).map (·.1)) (m, fun _ => false) = none by rw [HL.out, hx]; rfl)
      simp only [Option.isSome_none]
      clear e1 hx
      gi_wp2
      refine ⟨trivial, ?_⟩
      gi_wp2
      exact ⟨KeepsOthers.from (KeepsOthers.setCell _ _ _) _, ⟨rfl, HX.out, kR.set 0 (.bool false)⟩, chg_over X (by show _ ≤ b4; omega) (by omega) _⟩
    | some k =>
      have hks := x.2 k hx
      have hv : ∀ i, sv D x i = D.stp k i := fun i => by rw [sv, hx]
      obtain ⟨_, ⟨s10, s11⟩, ⟨s20, s21⟩, ⟨s30, s31⟩⟩ := hI.out.stp k hks
      have HL2 := Lib.hid (show learnL D c ((pre ++ [x]).map (·.1)) (m, fun _ => false) = learn1 D c s (some k) by rw [HL.out, hx])
      have OP := Lib.hid (fun w' => show Calls Try.prog 74 #[.agg #[.int .i64 D.sum, .int .i64 D.design, .int .i64 D.first, .slice P.xc D.nc P.zc, .slice P.xw D.nw P.zw, .slice P.xh D.nh P.zh, .slice P.xd D.nd P.zd, .slice P.xi D.ni P.zi, .slice P.xs D.ns P.zs, .slice P.xk D.nk P.zk, .slice P.xp D.np P.zp], .agg #[.int .i64 (D.stp k 0), .int .i64 (D.stp k 1), .int .i64 (D.stp k 2), .int .i64 (D.stp k 3)]] w' (Ret w' (.bool (opN (D.stp k 2) (D.stp k 3) D.nk))) from op_any D P (D.stp k 0) (D.stp k 1) (D.stp k 2) (D.stp k 3) w' ⟨s20, s21⟩ ⟨s30, s31⟩ (by have := hI.out.nk; omega))
      simp only [Option.isSome_some, hv]
      rw [hv] at v0 v1 v2 v3
      have HV := Lib.hid hv
      have FAIL := Lib.hid (fun (w4 : World) (hc4 : Chg NoT bm W w4) (hk4 : KeepsFrom w1.heap.size W w4) (h : learn1 D c s (some k) = none) =>
        (show KeepsFrom w1.heap.size W (w4.setCell ⟨b4, 0, none⟩ (.bool false)) ∧ (Code.ret = .ret ∧ learnL D c ((pre ++ [x]).map (·.1)) (m, fun _ => false) = none ∧ Blk (w4.setCell ⟨b4, 0, none⟩ (.bool false)) b4 4 [.bool false]) ∧ Chg NoT bm w (w4.setCell ⟨b4, 0, none⟩ (.bool false)) from
          ⟨hk4.trans ((KeepsOthers.setCell _ _ _).from _), ⟨rfl, HL2.out.trans h, Blk.set (hc4.blk b4 _ _ _ (fun _ h => h) kR : Blk w4 b4 _ _) 0 (.bool false)⟩, chg_over (X.trans hc4) (by show _ ≤ b4; omega) (by omega) _⟩))
      have FIN := Lib.hid (fun (w4 : World) (i : Nat) (s' : MapN × RuN) (hc4 : Chg NoT bm W w4) (hk4 : KeepsFrom w1.heap.size W w4) (h : learn1 D c s (some k) = some s') (hM4 : MapF w4 bm (n + pre.length + 1) s'.1) (hi : D.stp k 1 = (i : Int)) =>
        (show KeepsFrom w1.heap.size W (w4.setCell ⟨b5, i, none⟩ (.bool true)) ∧ Chg (fun p => p.block = b5) bm W (w4.setCell ⟨b5, i, none⟩ (.bool true)) ∧
          ((∃ s, learnL D c ((pre ++ [x]).map (·.1)) (m, fun _ => false) = some s ∧ MapF (w4.setCell ⟨b5, i, none⟩ (.bool true)) bm (n + (pre ++ [x]).length) s.1 ∧ RowB (w4.setCell ⟨b5, i, none⟩ (.bool true)) b5 256 s.2) ∧ Blk (w4.setCell ⟨b5, i, none⟩ (.bool true)) b0 28 [.int .i64 D.sum, .int .i64 D.design, .int .i64 D.first, .slice P.xc D.nc P.zc, .slice P.xw D.nw P.zw, .slice P.xh D.nh P.zh, .slice P.xd D.nd P.zd, .slice P.xi D.ni P.zi, .slice P.xs D.ns P.zs, .slice P.xk D.nk P.zk, .slice P.xp D.np P.zp] ∧ Blk (w4.setCell ⟨b5, i, none⟩ (.bool true)) b1 3 [.int .i64 c] ∧ Blk (w4.setCell ⟨b5, i, none⟩ (.bool true)) b3 62 [.map (some bm)] ∧ Blk (w4.setCell ⟨b5, i, none⟩ (.bool true)) b4 4 [.bool false]) ∧ Chg NoT bm w (w4.setCell ⟨b5, i, none⟩ (.bool true)) from by
          obtain ⟨k', hk', _, h2, _⟩ := learn1_some h
          cases hk'
          refine ⟨hk4.trans ((KeepsOthers.setCell _ _ _).from _), (hc4.wide (fun _ h => h.elim) (Nat.le_refl _)).trans (Chg.set _ _ _ _ rfl (by omega)), ⟨⟨s', HL2.out.trans h, ?_, ?_⟩, ?_, ?_, ?_, ?_⟩, chg_over (X.trans hc4) (by show _ ≤ b5; omega) (by omega) _⟩
          · rw [List.length_append]; exact hM4.setCell (by show b5 ≠ bm; omega) _
          · have := (hU.chg hc4 (fun _ h => h)).set i true
            rw [h2]
            have e : ruN D s.2 k = fun y => if y = (i : Int) then true else s.2 y := by rw [← hi]; rfl
            rw [e]
            exact this
          · exact Blk.far (hc4.blk b0 _ _ _ (fun _ h => h) kF : Blk w4 b0 _ _) (by show b5 ≠ b0; omega) _
          · exact Blk.far (hc4.blk b1 _ _ _ (fun _ h => h) kC : Blk w4 b1 _ _) (by show b5 ≠ b1; omega) _
          · exact Blk.far (hc4.blk b3 _ _ _ (fun _ h => h) kM : Blk w4 b3 _ _) (by show b5 ≠ b3; omega) _
          · exact Blk.far (hc4.blk b4 _ _ _ (fun _ h => h) kR : Blk w4 b4 _ _) (by show b5 ≠ b4; omega) _))
      have LOOK := Lib.hid (fun (w4 : World) (hM4 : MapF w4 bm (n + pre.length) s.1) => hM4.look (D.stp k 3) ⟨by omega, by omega⟩)
      obtain ⟨i1, hi1⟩ := Int.eq_ofNat_of_zero_le s10
      have hi1' : i1 < 256 := by omega
      have HI1 := Lib.hid hi1
      clear HL hx hv hi1
      gi_wp2
      refine ⟨trivial, ?_⟩
      refine (CallsIn.inRound l' (callsIn_wide.2 (OP.out _))).mono ?_
      rintro e w2 ⟨rfl, x2⟩
      rw [← opB_N]
      have hM2 := hM.ext x2
      have hU2 := hU.ext x2
      have v0 := x2.at v0; have v1 := x2.at v1; have v2 := x2.at v2; have v3 := x2.at v3
      have r0 := x2.at r0; have r1 := (kR.ext x2).free 0
      have c0 := x2.at c0; have m0 := x2.at m0
      have q0 := x2.at q0; have q1 := x2.at q1; have q2 := x2.at q2; have q3 := x2.at q3; have q4 := x2.at q4; have q5 := x2.at q5; have q6 := x2.at q6; have q7 := x2.at q7; have q8 := x2.at q8; have q9 := x2.at q9; have q10 := x2.at q10
      have C2 : Chg NoT bm W w2 := Chg.of_ext x2
      have K2 : KeepsFrom w1.heap.size W w2 := keepsFrom_ext x2
      obtain ⟨u0, u1⟩ := hU2 i1 hi1'
      have lt0 : b0 < w2.heap.size := World.block_lt_of_cell? w2 _ q0
      have lt1 : b1 < w2.heap.size := World.block_lt_of_cell? w2 _ c0
      have lt3 : b3 < w2.heap.size := World.block_lt_of_cell? w2 _ m0
      have lt4 : b4 < w2.heap.size := World.block_lt_of_cell? w2 _ r0
      have lt5 : b5 < w2.heap.size := World.block_lt_of_cell? w2 _ u0
      have ltx : Bx < w2.heap.size := World.block_lt_of_cell? w2 _ v0
      rw [HI1.out] at v1 s10 s11
      have OK3 := Lib.hid (fun (hcond : ¬ (D.stp k 2 = 0 ∧ s.2 (D.stp k 1) = false)) (ho : opB D k = true) => show learn1 D c s (some k) = some (s.1, ruN D s.2 k) by simp only [learn1]; rw [if_pos ho, if_neg hcond])
      cases ho : opB D k with
      | false =>
        have NO := Lib.hid (show learn1 D c s (some k) = none by simp [learn1, ho])
        clear ho
        gi_wp2
        obtain ⟨f1, ⟨_, f2, f3⟩, f4⟩ := FAIL.out w2 C2 K2 NO.out
        exact ⟨f1, ⟨rfl, f2, f3⟩, f4⟩
      | true =>
        by_cases h2 : D.stp k 2 = 0
        · have h20 : (D.stp k 2 == 0) = true := by simpa using h2
          have H2 := Lib.hid h2
          clear h2
          cases hr : s.2 i1 with
          | true =>
            rw [hr] at u0
            have HY := Lib.hid (OK3.out (fun h => by rw [HI1.out, hr] at h; cases h.2) ho)
            clear hr ho
            gi_wp2
            exact FIN.out w2 i1 (s.1, ruN D s.2 k) C2 K2 HY.out (hM2.mono (by omega)) HI1.out
          | false =>
            rw [hr] at u0
            have hlk := LOOK.out w2 hM2
            have hcond : D.stp k 2 = 0 ∧ s.2 (D.stp k 1) = false := ⟨H2.out, by rw [HI1.out]; exact hr⟩
            cases hs1 : (s.1 (D.stp k 3)).isSome with
            | true =>
              rw [hs1] at hlk
              have NO := Lib.hid (show learn1 D c s (some k) = none by simp only [learn1]; rw [if_pos ho, if_pos hcond, if_pos (.inl hs1)])
              clear hr ho hcond hs1
              gi_wp2
              refine ⟨trivial, ?_⟩
              gi_wp2
              obtain ⟨f1, ⟨_, f2, f3⟩, f4⟩ := FAIL.out (w2.alloc (.cells #[.int .i64 (pairOf s.1 (D.stp k 3)).1, .int .i64 (pairOf s.1 (D.stp k 3)).2] 103)) (C2.trans (Chg.of_ext ((Ext.refl _).alloc _))) (K2.trans (keepsFrom_ext ((Ext.refl _).alloc _))) NO.out
              rw [World.setCell_alloc_past _ b4 0 _ lt4] at f1 f3 f4
              exact ⟨f1, ⟨rfl, f2, f3⟩, f4⟩
            | false =>
              rw [hs1] at hlk
              have y3 : Ext w2 (w2.alloc (.cells #[.int .i64 (pairOf s.1 (D.stp k 3)).1, .int .i64 (pairOf s.1 (D.stp k 3)).2] 103)) := (Ext.refl _).alloc _
              have MAY := Lib.hid (show Calls Try.prog 75 #[.agg #[.int .i64 D.sum, .int .i64 D.design, .int .i64 D.first, .slice P.xc D.nc P.zc, .slice P.xw D.nw P.zw, .slice P.xh D.nh P.zh, .slice P.xd D.nd P.zd, .slice P.xi D.ni P.zi, .slice P.xs D.ns P.zs, .slice P.xk D.nk P.zk, .slice P.xp D.np P.zp], .int .i64 c, .agg #[.int .i64 (D.stp k 0), .int .i64 i1, .int .i64 (D.stp k 2), .int .i64 (D.stp k 3)]] (w2.alloc (.cells #[.int .i64 (pairOf s.1 (D.stp k 3)).1, .int .i64 (pairOf s.1 (D.stp k 3)).2] 103)) (Ret (w2.alloc (.cells #[.int .i64 (pairOf s.1 (D.stp k 3)).1, .int .i64 (pairOf s.1 (D.stp k 3)).2] 103)) (.bool (mayN D c i1 (D.stp k 3)))) from may_any D P c (D.stp k 0) i1 (D.stp k 2) (D.stp k 3) _ OK.out (seenFont_chg sn ((X.trans C2).trans (Chg.of_ext y3))) ⟨s30, s31⟩)
              have HS1 := Lib.hid hs1
              have HO := Lib.hid ho
              have HC := Lib.hid hcond
              clear hr ho hcond hs1
              gi_wp2
              refine ⟨trivial, ?_⟩
              refine (CallsIn.inRound l' (callsIn_wide.2 MAY.out)).mono ?_
              rintro e w4 ⟨rfl, x4⟩
              have x24 := y3.trans x4
              clear MAY hlk y3
              generalize (w2.alloc (.cells #[.int .i64 (pairOf s.1 (D.stp k 3)).1, .int .i64 (pairOf s.1 (D.stp k 3)).2] 103)) = w3 at *
              have C4 := C2.trans (Chg.of_ext x24)
              have K4 := K2.trans (keepsFrom_ext (B := w1.heap.size) x24)
              have hM4 := hM2.ext x24
              have v0 := x24.at v0; have v1 := x24.at v1; have v2 := x24.at v2; have v3 := x24.at v3
              have r1 := x24.fz r0 r1; have r0 := x24.at r0
              have c0 := x24.at c0; have m0 := x24.at m0
              have u1 := x24.fz u0 u1; have u0 := x24.at u0
              cases hmay : mayN D c i1 (D.stp k 3) with
              | false =>
                have NO := Lib.hid (show learn1 D c s (some k) = none by simp only [learn1]; rw [if_pos HO.out, if_pos HC.out, if_pos (.inr (by rw [mayB_N, HI1.out]; exact hmay))])
                clear hmay
                gi_wp2
                obtain ⟨f1, ⟨_, f2, f3⟩, f4⟩ := FAIL.out _ C4 K4 NO.out
                exact ⟨f1, ⟨rfl, f2, f3⟩, f4⟩
              | true =>
                have HY := Lib.hid (show learn1 D c s (some k) = some (putN D s.1 c k, ruN D s.2 k) by
                  simp only [learn1]
                  rw [if_pos HO.out, if_pos HC.out, if_neg]
                  rintro (h | h)
                  · rw [HS1.out] at h; cases h
                  · rw [mayB_N, HI1.out, hmay] at h; cases h)
                obtain ⟨w5, hst, hM5, hg5⟩ := hM4.store (by have := seqS_length D (D.chr j 4) (D.chr j 5); unfold maxLen; omega) (D.stp k 3) ⟨by omega, by omega⟩ (c, i1)
                have C5 := C4.trans (Chg.map hM4 hg5 (Nat.le_refl _))
                have K5 := K4.trans (KeepsFrom.of_grownBy (B := w1.heap.size) hg5 (fun j e => by cases e; omega))
                have M45 : Chg NoT bm w4 w5 := Chg.map hM4 hg5 (Nat.le_refl _)
                have v1' := M45.cell _ _ (fun h => h) v1
                have u0' := M45.cell _ _ (fun h => h) u0
                have u1' := M45.fz _ _ (fun h => h) u0 u1
                have hst : (Instr.mapUpdate 62 (.map (some bm)) (.int .i64 (D.stp k 3)) (.agg #[.int .i64 c, .int .i64 i1])).run Try.prog w4 = .ok () w5 := hst
                have HM5 := Lib.hid hM5
                clear hmay hM5 hg5 M45
                gi_wp2
                refine FIN.out w5 i1 (putN D s.1 c k, ruN D s.2 k) C5 K5 HY.out ?_ HI1.out
                have e : putN D s.1 c k = fun y => if y = D.stp k 3 then some (c, (i1 : Int)) else s.1 y := by unfold putN; rw [HI1.out]
                rw [e]
                exact HM5.out
        · have h20 : (D.stp k 2 == 0) = false := by simpa using h2
          have HY := Lib.hid (OK3.out (fun h => h2 h.1) ho)
          clear h2 ho
          gi_wp2
          exact FIN.out w2 i1 (s.1, ruN D s.2 k) C2 K2 HY.out (hM2.mono (by omega)) HI1.out
  case done =>
    rintro D0 ys W hD0 rfl ⟨⟨⟨s, hL, hM, hU⟩, kF, kC, kM, kR⟩, X⟩ hK
    have r0 : W.cell? ⟨b4, 0, none⟩ = some (.bool false) := kR.cell 0
    have r1 := kR.free 0
    have HK := Lib.hid hK
    have HL := Lib.hid hL
    have hle := seqS_length D (D.chr j 4) (D.chr j 5)
    clear hK hL
    go_wp2_with fail
    have hK5 := (KeepsOthers.setCell W ⟨b4, 0, none⟩ (.bool true)).same D0 _ HK.out rfl
    have kR5 : Blk _ b4 4 [.bool true] := kR.set 0 (.bool true)
    refine ⟨by simp, .inl ⟨_, _, rfl, run_takeDeferred hK5, ⟨_, results_bool rfl _ _ b4 _ _ rfl (blk_put _ kR5 hK5 rfl), ?_, .inl ⟨s, HL.out, rfl, ?_⟩⟩⟩⟩
    · exact (chg_over X (by show _ ≤ b4; omega) (by omega) _).trans (Chg.putObj _ _ _ (by omega) hK5 rfl)
    · have h1 : MapF (W.setCell ⟨b4, 0, none⟩ (.bool true)) bm _ s.1 := hM.setCell (by show b4 ≠ bm; omega) _
      exact (h1.block (World.putObj_heap_other (by omega))).mono (by omega)
  case stop =>
    rintro D0 cd pre W hD0 ⟨post, hS⟩ ⟨⟨rfl, hL, kR⟩, X⟩ hK
    have HK := Lib.hid hK
    have HL := Lib.hid hL
    have HS := Lib.hid hS
    clear hK hL hS
    gi_wp2
    refine ⟨by simp, .inl ⟨_, _, rfl, run_takeDeferred HK.out, ⟨_, results_bool rfl _ _ b4 _ _ rfl (blk_put _ kR HK.out rfl), X.trans (Chg.putObj _ _ _ (by omega) HK.out rfl), .inr ⟨?_, rfl⟩⟩⟩⟩
    refine learnL_fails HL.out ⟨post.map (·.1), ?_⟩
    show _ = seqO D (D.chr j 4) (D.chr j 5)
    rw [seqO, ← HS.out, List.map_append]
end L08
end Go.Proofs.Ytijhabhnhglhgaa

