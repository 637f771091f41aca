/- CostTells: whether any cost may be, any two's sum, whether one is less, and the least of any, are what the document says, or its error (at most a hundred costs): for every input. -/
import Derived.Test.YticnkdabaebifaaAwake05
import Derived.OpenShut
namespace Go.Proofs.Yticnkdabaebifaa
open Go.ChangeShapes Go.WideShapes Go.ChangeAt Go.RowKit Go.Joins Go.Deep
namespace CostTells
open L05

theorem many (u d u' d' : Int) (A : Option Addr) (n c : Nat) (hn : 100 < n) (hm : n ≤ 9223372036854775807) (w : World) :
    Calls Try.prog 3 #[.agg #[.int .i64 u, .int .i64 d], .agg #[.int .i64 u', .int .i64 d'], .slice A n c] w (Ret w (.bool true)) := by
  have hz : 100 < (n : Int) := by omega
  go_enter Try.func3, Try.ntmps3
  go_wp2_with fail
  refine (L05.awake_any _).mono ?_; rintro e w1 ⟨rfl, x1⟩
  go_wp2_with fail
  go_ret
  exact ⟨rfl, (((Ext.refl _).alloc _).alloc _).trans x1⟩

theorem rleast_is {A : Option Addr} {n c : Nat} {f : Nat → Int × Int} {w : World} {v : Int} (hs : SeenP w A n f) (hn : n ≤ 1000000) (h : firstF (leastB f n) n = v) :
    Calls Try.prog 17 #[.slice A n c] w (Ret w (.int .i64 v)) := h ▸ rleast_any A n c f w hs hn

set_option maxHeartbeats 1000000 in
theorem few (u d u' d' : Int) (A : Option Addr) (n c : Nat) (f : Nat → Int × Int) (hn : n ≤ 100) (w : World) (hs : SeenP w A n f) :
    Calls Try.prog 3 #[.agg #[.int .i64 u, .int .i64 d], .agg #[.int .i64 u', .int .i64 d'], .slice A n c] w (Ret w (.bool true)) := by
  have hz : ¬ (100 < (n : Int)) := by omega
  obtain ⟨x, y, e, s1⟩ := sumV_some u d u' d'
  obtain ⟨V, hV⟩ : ∃ V, firstF (leastB f n) n = V := ⟨_, rfl⟩
  have HV := Lib.hid hV
  clear hV
  cases h1 : mayB u d <;> cases h2 : lessB u d u' d'
  all_goals
    go_enter Try.func3, Try.ntmps3
    go_wp2_with fail
    refine (L05.awake_any _).mono ?_; rintro e w1 ⟨rfl, x1⟩
    obtain ⟨⟨l0_1, p0_1, q0_1⟩, ⟨l1_1, p1_1, q1_1⟩⟩ := boxes2 x1
    have Y1 : Ext w w1 := (((Ext.refl _).alloc _).alloc _).trans x1
    clear x1
    generalize w.heap.size = r0 at *
    go_wp2_with fail
    refine (add_is s1 _).mono ?_; rintro e w2 ⟨rfl, x2⟩
    have z2 : Ext w1 w2 := (Ext.refl _).trans x2
    obtain ⟨l0_2, p0_2, q0_2⟩ := Box.ext ⟨l0_1, p0_1, q0_1⟩ z2
    obtain ⟨l1_2, p1_2, q1_2⟩ := Box.ext ⟨l1_1, p1_1, q1_1⟩ z2
    have Y2 : Ext w w2 := Y1.trans z2
    clear l0_1 p0_1 q0_1 l1_1 p1_1 q1_1 z2 x2 Y1
    go_wp2_with fail
    refine (radd_is s1 _).mono ?_; rintro e w3 ⟨rfl, x3⟩
    have z3 : Ext w2 w3 := ((Ext.refl _).alloc _).trans x3
    obtain ⟨l0_3, p0_3, q0_3⟩ := Box.ext ⟨l0_2, p0_2, q0_2⟩ z3
    obtain ⟨l1_3, p1_3, q1_3⟩ := Box.ext ⟨l1_2, p1_2, q1_2⟩ z3
    obtain ⟨l2_3, p2_3, q2_3⟩ := (Box.new w2 x y 23).ext x3
    have Y3 : Ext w w3 := Y2.trans z3
    clear l0_2 p0_2 q0_2 l1_2 p1_2 q1_2 z3 x3 Y2
    generalize w2.heap.size = r3 at *
    go_wp2_with fail
    obtain ⟨l3_4, p3_4, q3_4⟩ := Box.new w3 x y 23
    have z4 : Ext w3 (w3.alloc (.cells #[.int .i64 x, .int .i64 y] 23)) := (Ext.refl _).alloc _
    generalize w3.alloc (.cells #[.int .i64 x, .int .i64 y] 23) = w4 at *
    obtain ⟨l0_4, p0_4, q0_4⟩ := Box.ext ⟨l0_3, p0_3, q0_3⟩ z4
    obtain ⟨l1_4, p1_4, q1_4⟩ := Box.ext ⟨l1_3, p1_3, q1_3⟩ z4
    obtain ⟨l2_4, p2_4, q2_4⟩ := Box.ext ⟨l2_3, p2_3, q2_3⟩ z4
    have Y4 : Ext w w4 := Y3.trans z4
    clear l0_3 p0_3 q0_3 l1_3 p1_3 q1_3 l2_3 p2_3 q2_3 z4 Y3
    generalize w3.heap.size = r4 at *
    have hs4 := hs.ext Y4
    have L1 : ∀ d os, Calls Try.prog 16 #[.slice A n c] (Sort.grow (redrawn w4 d) os) (Ret (Sort.grow (redrawn w4 d) os) (.int .i64 V)) := fun d os => least_is (hs4.ext (below_regrown _ _ _)) (by omega) HV.out
    have L2 : ∀ d os, Calls Try.prog 17 #[.slice A n c] (Sort.grow (redrawn w4 d) os) (Ret (Sort.grow (redrawn w4 d) os) (.int .i64 V)) := fun d os => rleast_is (hs4.ext (below_regrown _ _ _)) (by omega) HV.out
    clear hs4 hs
    have g0a := cell_regrown p0_4; have g0b := cell_regrown q0_4
    have g1a := cell_regrown p1_4; have g1b := cell_regrown q1_4
    have g2a := cell_regrown p2_4; have g2b := cell_regrown q2_4
    have g3a := cell_regrown p3_4; have g3b := cell_regrown q3_4
    refine wp_region_quiet_below (by kernel_rfl) (by kernel_rfl) ?_
    repeat (go_big_quiet_step (first | (with_reducible exact rg (check_is h1 _)) | (with_reducible exact rg (rcheck_is h1 _)) | (with_reducible exact rg (less_is h2 _)) | (with_reducible exact rg (rless_is h2 _)) | (with_reducible exact rg (L1 _ _)) | (with_reducible exact rg (L2 _ _))))
    refine wpQuiet_nil ?_
    intro _ hw'
    obtain ⟨⟨dq, osq⟩, hw''⟩ := hw'
    subst hw''
    have z5 : Ext w4 (Sort.grow (redrawn w4 dq) osq) := below_regrown _ _ _
    clear g0a g0b g1a g1b g2a g2b g3a g3b
    generalize Sort.grow (redrawn w4 dq) osq = w5 at *
    obtain ⟨l0_5, p0_5, q0_5⟩ := Box.ext ⟨l0_4, p0_4, q0_4⟩ z5
    obtain ⟨l1_5, p1_5, q1_5⟩ := Box.ext ⟨l1_4, p1_4, q1_4⟩ z5
    obtain ⟨l2_5, p2_5, q2_5⟩ := Box.ext ⟨l2_4, p2_4, q2_4⟩ z5
    obtain ⟨l3_5, p3_5, q3_5⟩ := Box.ext ⟨l3_4, p3_4, q3_4⟩ z5
    have Y5 : Ext w w5 := Y4.trans z5
    clear l0_4 p0_4 q0_4 l1_4 p1_4 q1_4 l2_4 p2_4 q2_4 l3_4 p3_4 q3_4 z5 Y4
    go_wp2_with fail
    go_ret
    exact ⟨rfl, Y5⟩

theorem walk (a0 b0 : Int) (_ : -9223372036854775808 ≤ a0 ∧ a0 ≤ 9223372036854775807) (_ : -9223372036854775808 ≤ b0 ∧ b0 ≤ 9223372036854775807) (a1 b1 : Int) (_ : -9223372036854775808 ≤ a1 ∧ a1 ≤ 9223372036854775807) (_ : -9223372036854775808 ≤ b1 ∧ b1 ≤ 9223372036854775807)
    (A : Option Addr) (n c : Nat) (f : Nat → Int × Int) (hc : n ≤ c) (hcm : c ≤ maxLen) (w : World) (hs : SeenP w A n f) :
    Calls Try.prog 3 #[.agg #[.int .i64 a0, .int .i64 b0], .agg #[.int .i64 a1, .int .i64 b1], .slice A n c] w (Ret w (.bool true)) := by
  unfold maxLen at hcm
  by_cases hn : n ≤ 100
  · exact few a0 b0 a1 b1 A n c f hn w hs
  · exact many a0 b0 a1 b1 A n c (by omega) (by omega) w

set_option maxRecDepth 100000 in
theorem lifted (os : Os) (started : os.Started) (H : Type) (enc : TypeId × Value → H) :
    ReturnsInHanded {} Try.checked os 3 .any (Rows.costTellsSpec.pre6 enc Try.prog Try.f3 [] false) (Rows.costTellsSpec.post enc Try.prog Try.f3 false true false false) := by
  refine law_lift (C := Try.checked) own started (by kernel_rfl) Try.func3 laidOut rfl rfl Try.underlying4 (by kernel_rfl) ?_
    (ChangeSpec.witness6 (enc := enc) (C := Try.checked) false ⟨#[], #[.agg #[.int .i64 0, .int .i64 0], .agg #[.int .i64 0, .int .i64 0], .slice none 0 0], []⟩ 8 (by kernel_rfl) (by kernel_rfl) (by kernel_rfl) (by kernel_rfl)) ?_
  · intro H ds h
    match ds, h with
    | [_, _, _], _ => rfl
  · intro W base args ds p hval hA hlt hwt hsh
    rw [Try.params3] at hA hval
    obtain ⟨v0, vs0, d0, ds0, p0, q0, hargs, rfl, rfl, h0, r0⟩ := trodAll_cons hA
    obtain ⟨v1, vs1, d1, ds1, p1, q1, rfl, rfl, rfl, h1, r1⟩ := trodAll_cons r0
    obtain ⟨v2, vs2, d2, ds2, p2, q2, rfl, rfl, rfl, h2, r2⟩ := trodAll_cons r1
    obtain ⟨rfl, rfl, rfl⟩ := trodAll_nil r2
    obtain rfl : args = #[v0, v1, v2] := by cases args; simp_all
    obtain ⟨a0, b0, rfl, wa0, wb0⟩ := arg_pair Try.underlying23 (by kernel_rfl) (by kernel_rfl) Try.underlying3 Try.underlying3 (hval 0 23 v0 rfl rfl) h0
    obtain ⟨a1, b1, rfl, wa1, wb1⟩ := arg_pair Try.underlying23 (by kernel_rfl) (by kernel_rfl) Try.underlying3 Try.underlying3 (hval 1 23 v1 rfl rfl) h1
    obtain ⟨A2, n2, c2, f2, rfl, hc2, hm2, wf2, hs2⟩ := arg_pairs Try.underlying24 Try.underlying23 (by kernel_rfl) rfl rfl (by kernel_rfl) (by kernel_rfl) Try.underlying3 Try.underlying3 (hval 2 24 v2 rfl rfl) h2
    exact walk a0 b0 (bounds_i64 wa0) (bounds_i64 wb0) a1 b1 (bounds_i64 wa1) (bounds_i64 wb1) A2 n2 c2 f2 hc2 hm2 W hs2

theorem holds : Rows.CostTellsSaid :=
  OpenClaim.holds_of_wide 3 Try.f3 rfl rfl rfl rfl rfl rfl rfl ⟨rfl, rfl, rfl, rfl, rfl⟩ rfl rfl rfl rfl rfl (by kernel_rfl) Try.func3 (by kernel_rfl)
    (of_decide_eq_true (by kernel_rfl)) (by unfold Func.isWrapper; first | (rw [if_pos (by decide +kernel)]; kernel_rfl) | (rw [if_neg (by decide +kernel)]; exact ⟨rfl, rfl⟩))
    (fun os started H enc _ => lifted os started H enc)
end CostTells
end Go.Proofs.Yticnkdabaebifaa

