/- The landed rule of two codes. -/
import Derived.Test.YtijhabhnhglhgaaOps08
import Derived.Test.YtijhabhnhglhgaaKeep
import Derived.StillTailTactics
import Derived.Shelf.Abstract
import Derived.IntWalk
namespace Go.Proofs.Ytijhabhnhglhgaa
open Go.RowKit Go.Lib
namespace L08
open L07

attribute [local go_sem] Oper.semAt_some

theorem blk_own {β : Type} (B : Nat) (t : TypeId) (f : β → List Value) : Own (fun s W => Blk W B t (f s)) := fun s X Y row hs hg hrow => by
  refine (hg.block B hs.lt fun e => ?_).trans hs
  obtain ⟨o, ho, hc⟩ := hrow B e.symm
  rw [show X.heap[B]? = _ from hs] at ho
  cases ho
  cases hc
theorem ext_own {β : Type} (B : Nat) (w : World) (hB : w.heap.size ≤ B) : OwnFrom B (fun (_ : β) W => Ext w W) := ownFrom_below (Nat.le_refl _) hB

theorem blk_kept {W W' : World} {row : Option Nat} {B : Nat} {t : TypeId} {cs : List Value} (h : Blk W B t cs) (hg : W.grownBy W' row) (hr : ∀ r, row = some r → ∃ o : Obj, W.heap[r]? = some o ∧ o.isCells = false) : Blk W' B t cs :=
  blk_own (β := Unit) B t (fun _ => cs) () W W' row h hg hr
theorem blk_put {W : World} {B l : Nat} {t : TypeId} {cs : List Value} {o : Obj} (o' : Obj) (h : Blk W B t cs) (hl : W.heap[l]? = some o) (ho : o.isCells = false) : Blk (W.putObj l o') B t cs :=
  blk_kept h (grownBy_putObj' W l o') fun r e => by cases e; exact ⟨o, hl, ho⟩
theorem ext_put {w W : World} {l : Nat} (o' : Obj) (x : Ext w W) (hl : w.heap.size ≤ l) : Ext w (W.putObj l o') :=
  Below.grown x (grownBy_putObj' W l o') x.size fun k e => by cases e; exact hl
/-- What a function answers whose results are a step's box, and a bool's. -/
theorem results_step {fn : Func} (h : fn.results = #[.cell 6 53, .cell 7 4]) (tmps : Array Value) (W : World) (R Z : Nat) (t t' : TypeId) (v0 v1 v2 v3 e : Value) (h6 : tmps[6]? = some (.pointer (some ⟨R, 0, none⟩))) (h7 : tmps[7]? = some (.pointer (some ⟨Z, 0, none⟩)))
    (hb : Blk W R t [v0, v1, v2, v3]) (hz : Blk W Z t' [e]) : (results fn tmps).run Try.prog W = .ok (.tuple #[.agg #[v0, v1, v2, v3], e]) W := by
  have r0 : W.cell? ⟨R, 0, none⟩ = some v0 := hb.cell 0
  have r1 : W.cell? ⟨R, 1, none⟩ = some v1 := hb.cell 1
  have r2 : W.cell? ⟨R, 2, none⟩ = some v2 := hb.cell 2
  have r3 : W.cell? ⟨R, 3, none⟩ = some v3 := hb.cell 3
  have z0 : W.cell? ⟨Z, 0, none⟩ = some e := hz.cell 0
  simp only [results, h]
  simp [go_sem, loadVar, asAddr, *]
theorem ruleO_no {D : FontD} {b : Int} {y : Option Nat} (hy : ∀ k, y = some k → D.stp k 1 ≠ b) : ∀ (l : List (Option Nat)), ruleO D b l = none → ruleO D b (l ++ [y]) = none
  | [], _ => by
    cases y with
    | none => rfl
    | some k => simp [ruleO, hy k rfl]
  | none :: r, h => ruleO_no hy r h
  | some k :: r, h => by
    simp only [ruleO, List.cons_append] at h ⊢
    split at h
    · cases h
    · rw [if_neg (by assumption)]; exact ruleO_no hy r h
theorem ruleO_yes {D : FontD} {b : Int} {k : Nat} (hk : D.stp k 1 = b) : ∀ (l : List (Option Nat)), ruleO D b l = none → ruleO D b (l ++ [some k]) = some k
  | [], _ => by simp [ruleO, hk]
  | none :: r, h => ruleO_yes hk r h
  | some k' :: r, h => by
    simp only [ruleO, List.cons_append] at h ⊢
    split at h
    · cases h
    · rw [if_neg (by assumption)]; exact ruleO_yes hk r h
theorem ruleO_pre {D : FontD} {b : Int} {k : Nat} {t : List (Option Nat)} : ∀ (l : List (Option Nat)), ruleO D b l = some k → ruleO D b (l ++ t) = some k
  | [], h => by cases h
  | none :: r, h => ruleO_pre r h
  | some k' :: r, h => by
    simp only [ruleO, List.cons_append] at h ⊢
    split at h
    · rw [if_pos (by assumption)]; exact h
    · rw [if_neg (by assumption)]; exact ruleO_pre r h
theorem step_eq {D : FontD} {x : StepAt D} {b : Int} (hb : b ≠ 0) (h : sv D x 1 = b) : ∃ k, x.1 = some k ∧ D.stp k 1 = b ∧ ∀ i, sv D x i = D.stp k i := by
  obtain ⟨x, hx⟩ := x
  cases x with
  | none => exact absurd h.symm hb
  | some k => exact ⟨k, rfl, h, fun _ => rfl⟩

/-- What rule answers. -/
def ruleV (D : FontD) (a b : Int) : Value := match ruleD D a b with
  | some k => .tuple #[.agg #[.int .i64 (D.stp k 0), .int .i64 (D.stp k 1), .int .i64 (D.stp k 2), .int .i64 (D.stp k 3)], .bool true]
  | none => .tuple #[.agg #[.int .i64 0, .int .i64 0, .int .i64 0, .int .i64 0], .bool false]

set_option maxRecDepth 100000 in
set_option maxHeartbeats 4000000 in
theorem rule_any (D : FontD) (P : FontP) (a b : Int) (w : World) (_ : FontOk D P) (sn : SeenFont w D P) (ha : hasB D a = true) (hb : b ≠ 0) :
    Calls Try.prog 29 #[fontV D P, .int .i64 a, .int .i64 b] w (Ret w (ruleV D a b)) := by
  obtain ⟨hD, a1, a2, hj⟩ := has_in ha
  have I := check_in hD
  have hf := check_in hD |>.first
  have hr : ruleD D a b = ruleO D b (seqO D (D.chr (a - D.first).toNat 4) (D.chr (a - D.first).toNat 5)) := rfl
  have ht := ((check_in hD).chr _ hj).2.2.2.2
  obtain ⟨j, hja⟩ : ∃ j : Nat, a - D.first = j := ⟨(a - D.first).toNat, by omega⟩
  have hjt : (a - D.first).toNat = j := by omega
  have hnc := (check_in hD).nc
  rw [hjt] at hr ht hj
  have wa : IntKind.i64.wrap (a - D.first) = (j : Int) := by rw [hja]; exact IntWalk.i64_in _ (by omega)
  have hns := (check_in hD).ns
  have hs := Lib.hid (fun k hk => ((check_in hD).stp k hk).1)
  clear hja hjt
  have HR := Lib.hid hr
  clear hr
  clear ha hD
  refine (callsIn_wide (n := 9)).1 (callsIn_of_wp_marks Try.func29 rfl trivial ?_ rfl)
  refine wpIn_wide.2 ?_
  simp only [fontV, Try.ntmps29, List.size_toArray, List.length_cons, List.length_nil, Nat.reduceAdd, Nat.reduceSub, Array.replicate_succ, Array.replicate_zero, List.push_toArray, List.append_toArray, List.nil_append, List.cons_append]
  go_wp2_with fail
  obtain ⟨WA, hWA⟩ : ∃ WA, WA = (((w.alloc (.cells #[.int .i64 D.sum, .int .i64 D.design, .int .i64 D.first, .slice P.xc D.nc P.zc, .slice P.xw D.nw P.zw, .slice P.xh D.nh P.zh, .slice P.xd D.nd P.zd, .slice P.xi D.ni P.zi, .slice P.xs D.ns P.zs, .slice P.xk D.nk P.zk, .slice P.xp D.np P.zp] 28)).alloc (.cells #[.int .i64 b] 3)).alloc (.cells #[.int .i64 0, .int .i64 0, .int .i64 0, .int .i64 0] 53)).alloc (.cells #[.bool false] 4) := ⟨_, rfl⟩
  rw [← hWA]
  have kF : Blk WA w.heap.size 28 [.int .i64 D.sum, .int .i64 D.design, .int .i64 D.first, .slice P.xc D.nc P.zc, .slice P.xw D.nw P.zw, .slice P.xh D.nh P.zh, .slice P.xd D.nd P.zd, .slice P.xi D.ni P.zi, .slice P.xs D.ns P.zs, .slice P.xk D.nk P.zk, .slice P.xp D.np P.zp] := by rw [hWA]; exact (Blk.lit _ _ _ _ (by simp)).ext ((((Ext.refl _).alloc _).alloc _).alloc _)
  have kB : Blk WA (w.heap.size + 1) 3 [.int .i64 b] := by rw [hWA]; exact (Blk.lit _ _ _ _ (by simp)).ext (((Ext.refl _).alloc _).alloc _)
  have kR : Blk WA (w.heap.size + 1 + 1) 53 [.int .i64 0, .int .i64 0, .int .i64 0, .int .i64 0] := by rw [hWA]; exact (Blk.lit _ _ _ _ (by simp)).ext ((Ext.refl _).alloc _)
  have kZ : Blk WA (w.heap.size + 1 + 1 + 1) 4 [.bool false] := by rw [hWA]; exact Blk.lit _ _ _ _ (by simp)
  have X0 : Ext w WA := by rw [hWA]; exact ((((Ext.refl w).alloc _).alloc _).alloc _).alloc _
  have hz : WA.heap.size = w.heap.size + 1 + 1 + 1 + 1 := by rw [hWA]; simp
  clear hWA
  have SN := sn.ext X0
  obtain ⟨ad, hA, e0, e1, e2, e3, e4, e5⟩ := row6 SN.oc hj
  generalize hb1 : w.heap.size + 1 = b1 at *
  generalize hb2 : b1 + 1 = b2 at *
  generalize hb3 : b2 + 1 = b3 at *
  generalize hb0 : w.heap.size = b0 at *
  have q0 : WA.cell? ⟨b0, 0, none⟩ = some (.int .i64 D.sum) := kF.cell 0
  have q1 : WA.cell? ⟨b0, 1, none⟩ = some (.int .i64 D.design) := kF.cell 1
  have q2 : WA.cell? ⟨b0, 2, none⟩ = some (.int .i64 D.first) := kF.cell 2
  have q3 : WA.cell? ⟨b0, 3, none⟩ = some (.slice P.xc D.nc P.zc) := kF.cell 3
  have q4 : WA.cell? ⟨b0, 4, none⟩ = some (.slice P.xw D.nw P.zw) := kF.cell 4
  have q5 : WA.cell? ⟨b0, 5, none⟩ = some (.slice P.xh D.nh P.zh) := kF.cell 5
  have q6 : WA.cell? ⟨b0, 6, none⟩ = some (.slice P.xd D.nd P.zd) := kF.cell 6
  have q7 : WA.cell? ⟨b0, 7, none⟩ = some (.slice P.xi D.ni P.zi) := kF.cell 7
  have q8 : WA.cell? ⟨b0, 8, none⟩ = some (.slice P.xs D.ns P.zs) := kF.cell 8
  have q9 : WA.cell? ⟨b0, 9, none⟩ = some (.slice P.xk D.nk P.zk) := kF.cell 9
  have q10 : WA.cell? ⟨b0, 10, none⟩ = some (.slice P.xp D.np P.zp) := kF.cell 10
  rw [hA] at q3
  have HA := Lib.hid hA
  clear hA
  go_still_tail 9, (by kernel_rfl)
  change wpList _ _ _ _ _ WA.drew
  go_wp2_with fail
  rw [← HA.out]
  refine (lsteps_any D P _ _ _ _ _ _ _).mono ?_
  rintro e w1 ⟨rfl, hw1⟩
  have x1 : Ext WA w1 := by rw [hw1]; exact ((Ext.refl _).drew.alloc _).alloc _
  have hz1 : w1.heap.size = b3 + 1 + 1 + 1 := by rw [hw1]; simp; omega
  have hWs : WA.drew.heap.size = b3 + 1 := hz
  rw [hWs] at *
  have kf : Blk w1 (b3 + 1) 28 [.int .i64 D.sum, .int .i64 D.design, .int .i64 D.first, .slice P.xc D.nc P.zc, .slice P.xw D.nw P.zw, .slice P.xh D.nh P.zh, .slice P.xd D.nd P.zd, .slice P.xi D.ni P.zi, .slice P.xs D.ns P.zs, .slice P.xk D.nk P.zk, .slice P.xp D.np P.zp] := by rw [hw1]; exact ((Blk.lit _ _ _ _ hz.symm).ext ((Ext.refl _).alloc _)).ext ((Ext.refl _).drew)
  have kc : Blk w1 (b3 + 1 + 1) 44 [.int .i64 (D.chr j 0), .int .i64 (D.chr j 1), .int .i64 (D.chr j 2), .int .i64 (D.chr j 3), .int .i64 (D.chr j 4), .int .i64 (D.chr j 5)] := by rw [hw1]; exact Blk.lit _ _ _ _ (by simp; omega)
  clear hw1
  have kB := kB.ext x1
  have kR := kR.ext x1
  have kZ := kZ.ext x1
  have X1 := X0.trans x1
  have SN := SN.ext x1
  clear q0 q1 q2 q3 q4 q5 q6 q7 q8 q9 q10 e0 e1 e2 e3 e4 e5 kF x1
  go_wp2_with fail
  obtain ⟨V, hV⟩ : ∃ V, V = Value.agg #[.int .i64 D.sum, .int .i64 D.design, .int .i64 D.first, .slice P.xc D.nc P.zc, .slice P.xw D.nw P.zw, .slice P.xh D.nh P.zh, .slice P.xd D.nd P.zd, .slice P.xi D.ni P.zi, .slice P.xs D.ns P.zs, .slice P.xk D.nk P.zk, .slice P.xp D.np P.zp] := ⟨_, rfl⟩
  rw [← hV]
  clear hV
  have hxs : ∀ ad, P.xs = some ad → 0 < D.ns → ∀ o, ¬ (fun _ : Addr => False) (ad.add o) := fun _ _ _ _ h => h
  refine wpIn_wide.1 (wpIn_rangeFunc_ownH (n := 9) (F := Fence.wide) rfl (by omega) (gf := 73) (lb := #[.pointer (some ⟨b3 + 1 + 1, 0, none⟩), .pointer (some ⟨b3 + 1, 0, none⟩)]) rfl trivial (enters_of Try.func73 (by kernel_rfl) rfl)
    (steps_stops _ (b3 + 1) D P (D.chr j 4) (D.chr j 5) hns hs.out (by omega) (fun _ => False) w.heap.size (fun _ h => h.elim) hxs w1 (by omega) (kf.cell 8) (kc.cell 4) (kc.cell 5) SN.os) (fun h k => Chg.trans h k) (fun W l' o o' hl h1 h2 _ => Chg.putObj W o o' (by omega) h1 h2) (Below.refl _ _) (fun _ => rfl)
    (fun pre W => (ruleO D b (pre.map (·.1)) = none ∧ Blk W b1 3 [.int .i64 b] ∧ Blk W b2 53 [.int .i64 0, .int .i64 0, .int .i64 0, .int .i64 0] ∧ Blk W b3 4 [.bool false]) ∧ Ext w W)
    (fun c pre W => (c = .ret ∧ ∃ k, ruleO D b (pre.map (·.1)) = some k ∧ Blk W b2 53 [.int .i64 (D.stp k 0), .int .i64 (D.stp k 1), .int .i64 (D.stp k 2), .int .i64 (D.stp k 3)] ∧ Blk W b3 4 [.bool true]) ∧ Ext w W)
    (OwnFrom.and (Own.from (fun s X Y row hs hg hr => ⟨hs.1, blk_kept hs.2.1 hg hr, blk_kept hs.2.2.1 hg hr, blk_kept hs.2.2.2 hg hr⟩) _) (ext_own _ _ (by omega)))
    (fun c => OwnFrom.and (Own.from (fun s X Y row hs hg hr => ⟨hs.1, hs.2.choose, hs.2.choose_spec.1, blk_kept hs.2.choose_spec.2.1 hg hr, blk_kept hs.2.choose_spec.2.2 hg hr⟩) _) (ext_own _ _ (by omega)))
    ⟨⟨rfl, kB, kR, kZ⟩, X1⟩
    (fun x a' W => ∃ Bx, b3 < Bx ∧ Blk W Bx 53 [.int .i64 (sv D x 0), .int .i64 (sv D x 1), .int .i64 (sv D x 2), .int .i64 (sv D x 3)] ∧ a' = { tmps := #[V, .int .i64 a, .int .i64 b, .pointer (some ⟨b0, 0, none⟩), undef, .pointer (some ⟨b1, 0, none⟩), .pointer (some ⟨b2, 0, none⟩), .pointer (some ⟨b3, 0, none⟩), .pointer (some ⟨Bx, 0, none⟩), V, .pointer (some ⟨b0, 3, none⟩), .slice P.xc D.nc P.zc, .int .i64 a, .pointer (some ⟨b0, 2, none⟩), .int .i64 D.first, .int .i64 j, .pointer (some (ad.add (j * 6))), .agg #[.int .i64 (D.chr j 0), .int .i64 (D.chr j 1), .int .i64 (D.chr j 2), .int .i64 (D.chr j 3), .int .i64 (D.chr j 4), .int .i64 (D.chr j 5)], .func (.func 73) #[] #[.pointer (some ⟨b3 + 1 + 1, 0, none⟩), .pointer (some ⟨b3 + 1, 0, none⟩)], .agg #[.int .i64 (sv D x 0), .int .i64 (sv D x 1), .int .i64 (sv D x 2), .int .i64 (sv D x 3)], .bool x.1.isSome, undef, undef, undef, undef, undef, undef], defers := [] })
    (fun x a' _ X Y row hs hg hr => by obtain ⟨Bx, e1, e2, e3⟩ := hs; exact ⟨Bx, e1, blk_kept e2 hg (fun r e => (hr r e).2), e3⟩)
    ?assign ?body ?done ?stop)
  case assign =>
    rintro l' pre x W K ⟨⟨hp, kB, kR, kZ⟩, X⟩ hK
    simp only [encS]
    gi_wp2
    exact hK _ _ ((KeepsOthers.alloc _ _).from _) (Chg.of_ext ((Ext.refl _).alloc _)) ⟨⟨hp, kB.ext ((Ext.refl _).alloc _), kR.ext ((Ext.refl _).alloc _), kZ.ext ((Ext.refl _).alloc _)⟩, X.alloc _⟩ ⟨W.heap.size, kZ.lt, Blk.lit _ _ _ _ rfl, rfl⟩
  case body =>
    rintro l' pre x a' W hl _ ⟨⟨hp, kB, kR, kZ⟩, X⟩ ⟨Bx, hBx, kX, rfl⟩ hlt
    have c0 : W.cell? ⟨Bx, 0, none⟩ = some (.int .i64 (sv D x 0)) := kX.cell 0
    have c1 : W.cell? ⟨Bx, 1, none⟩ = some (.int .i64 (sv D x 1)) := kX.cell 1
    have c2 : W.cell? ⟨Bx, 2, none⟩ = some (.int .i64 (sv D x 2)) := kX.cell 2
    have c3 : W.cell? ⟨Bx, 3, none⟩ = some (.int .i64 (sv D x 3)) := kX.cell 3
    have d0 : W.cell? ⟨b1, 0, none⟩ = some (.int .i64 b) := kB.cell 0
    by_cases hm : sv D x 1 = b
    · obtain ⟨k, hx, hk, hv⟩ := step_eq hb hm
      have r0 : W.cell? ⟨b2, 0, none⟩ = some (.int .i64 0) := kR.cell 0
      have f0 := kR.free 0
      have r1 : W.cell? ⟨b2, 1, none⟩ = some (.int .i64 0) := kR.cell 1
      have f1 := kR.free 1
      have r2 : W.cell? ⟨b2, 2, none⟩ = some (.int .i64 0) := kR.cell 2
      have f2 := kR.free 2
      have r3 : W.cell? ⟨b2, 3, none⟩ = some (.int .i64 0) := kR.cell 3
      have f3 := kR.free 3
      have z0 : W.cell? ⟨b3, 0, none⟩ = some (.bool false) := kZ.cell 0
      have g0 := kZ.free 0
      have hne : b2 ≠ b3 := by omega
      have HP := Lib.hid (show ruleO D b ((pre ++ [x]).map (·.1)) = some k by rw [List.map_append, List.map_cons, List.map_nil, hx]; exact ruleO_yes hk _ hp)
      have hm0 : (sv D x 1 == b) = true := by simpa using hm
      have HV := Lib.hid hv
      clear hp hx hk hv hm
      gi_wp2
      refine ⟨?_, ⟨rfl, k, HP.out, ?_, ?_⟩, ?_⟩
      · exact KeepsOthers.from ((((((KeepsOthers.setCell _ _ _).trans (KeepsOthers.setCell _ _ _)).trans (KeepsOthers.setCell _ _ _)).trans (KeepsOthers.setCell _ _ _)).trans (KeepsOthers.setCell _ _ _))) _
      · have := ((((kR.set 0 (.int .i64 (sv D x 0))).set 1 (.int .i64 (sv D x 1))).set 2 (.int .i64 (sv D x 2))).set 3 (.int .i64 (sv D x 3))).far (p := ⟨b3, 0, none⟩) (Ne.symm hne) (.bool true)
        simpa only [List.set_cons_zero, List.set_cons_succ, HV.out] using this
      · exact (((((kZ.far (p := ⟨b2, 0, none⟩) hne _).far (p := ⟨b2, 1, none⟩) hne _).far (p := ⟨b2, 2, none⟩) hne _).far (p := ⟨b2, 3, none⟩) hne _).set 0 (.bool true))
      · exact ((((X.setCell (by show _ ≤ b2; omega) _).setCell (by show _ ≤ b2; omega) _).setCell (by show _ ≤ b2; omega) _).setCell (by show _ ≤ b2; omega) _).setCell (by show _ ≤ b3; omega) _
    · have hm0 : (sv D x 1 == b) = false := by simpa using hm
      have HP := Lib.hid (show ruleO D b ((pre ++ [x]).map (·.1)) = none by
        rw [List.map_append, List.map_cons, List.map_nil]
        exact ruleO_no (fun k e h => hm (by rw [sv, e]; exact h)) _ hp)
      clear hp hm
      gi_wp2
      exact ⟨(KeepsOthers.refl _).from _, Chg.refl _ _ _, ⟨HP.out, kB, kR, kZ⟩, X⟩
  case done =>
    rintro D0 ys W hD0 rfl ⟨⟨hp, kB, kR, kZ⟩, X⟩ hK
    have r0 : W.cell? ⟨b2, 0, none⟩ = some (.int .i64 0) := kR.cell 0
    have f0 := kR.free 0
    have r1 : W.cell? ⟨b2, 1, none⟩ = some (.int .i64 0) := kR.cell 1
    have f1 := kR.free 1
    have r2 : W.cell? ⟨b2, 2, none⟩ = some (.int .i64 0) := kR.cell 2
    have f2 := kR.free 2
    have r3 : W.cell? ⟨b2, 3, none⟩ = some (.int .i64 0) := kR.cell 3
    have f3 := kR.free 3
    have z0 : W.cell? ⟨b3, 0, none⟩ = some (.bool false) := kZ.cell 0
    have g0 := kZ.free 0
    have hne : b2 ≠ b3 := by omega
    have HP := Lib.hid hp
    have HK := Lib.hid hK
    clear hp hK
    go_wp2_with fail
    have hK5 := (((((KeepsOthers.setCell W ⟨b2, 0, none⟩ (.int .i64 0)).trans (KeepsOthers.setCell _ ⟨b2, 1, none⟩ (.int .i64 0))).trans (KeepsOthers.setCell _ ⟨b2, 2, none⟩ (.int .i64 0))).trans (KeepsOthers.setCell _ ⟨b2, 3, none⟩ (.int .i64 0))).trans (KeepsOthers.setCell _ ⟨b3, 0, none⟩ (.bool false))).same D0 _ HK.out rfl
    have kR5 : Blk _ b2 53 [.int .i64 0, .int .i64 0, .int .i64 0, .int .i64 0] := ((((kR.set 0 (.int .i64 0)).set 1 (.int .i64 0)).set 2 (.int .i64 0)).set 3 (.int .i64 0)).far (p := ⟨b3, 0, none⟩) (Ne.symm hne) (.bool false)
    have kZ5 : Blk _ b3 4 [.bool false] := (((((kZ.far (p := ⟨b2, 0, none⟩) hne (.int .i64 0)).far (p := ⟨b2, 1, none⟩) hne (.int .i64 0)).far (p := ⟨b2, 2, none⟩) hne (.int .i64 0)).far (p := ⟨b2, 3, none⟩) hne (.int .i64 0)).set 0 (.bool false))
    have X5 := ((((X.setCell (p := ⟨b2, 0, none⟩) (by show _ ≤ b2; omega) (.int .i64 0)).setCell (p := ⟨b2, 1, none⟩) (by show _ ≤ b2; omega) (.int .i64 0)).setCell (p := ⟨b2, 2, none⟩) (by show _ ≤ b2; omega) (.int .i64 0)).setCell (p := ⟨b2, 3, none⟩) (by show _ ≤ b2; omega) (.int .i64 0)).setCell (p := ⟨b3, 0, none⟩) (by show _ ≤ b3; omega) (.bool false)
    refine ⟨by simp, .inl ⟨_, _, rfl, run_takeDeferred hK5, ⟨_, results_step rfl _ _ b2 b3 _ _ _ _ _ _ _ rfl rfl (blk_put _ kR5 hK5 rfl) (blk_put _ kZ5 hK5 rfl), ?_, ext_put _ X5 (by omega)⟩⟩⟩
    rw [ruleV, HR.out]
    have := HP.out
    rw [show ruleO D b (seqO D (D.chr j 4) (D.chr j 5)) = none from this]
  case stop =>
    rintro D0 c pre W hD0 ⟨post, hS⟩ ⟨⟨rfl, k, hk, kR, kZ⟩, X⟩ hK
    have HP := Lib.hid hk
    have HK := Lib.hid hK
    have HS := Lib.hid hS
    clear hk hK hS
    gi_wp2
    refine ⟨by simp, .inl ⟨_, _, rfl, run_takeDeferred HK.out, ⟨_, results_step rfl _ _ b2 b3 _ _ _ _ _ _ _ rfl rfl (blk_put _ kR HK.out rfl) (blk_put _ kZ HK.out rfl), ?_, ext_put _ X (by omega)⟩⟩⟩
    rw [ruleV, HR.out]
    have : ruleO D b (seqO D (D.chr j 4) (D.chr j 5)) = some k := by
      rw [seqO, ← HS.out, List.map_append]
      exact ruleO_pre _ HP.out
    rw [this]
end L08
end Go.Proofs.Ytijhabhnhglhgaa

