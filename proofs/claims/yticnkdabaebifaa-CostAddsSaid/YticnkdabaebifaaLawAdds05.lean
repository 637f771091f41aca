/- CostAdds: it does not matter which cost is first, nor what is added to both, for which one is less: for every input. -/
import Derived.Test.YticnkdabaebifaaAwake05
import Derived.OpenShut
namespace Go.Proofs.Yticnkdabaebifaa
open Go.ChangeShapes Go.WideShapes Go.ChangeAt Go.RowKit Go.Joins Go.Deep
namespace CostAdds
open L05

set_option maxHeartbeats 1000000 in
theorem way (u d u' d' p q : Int) (w : World) : Calls Try.prog 5 #[.agg #[.int .i64 u, .int .i64 d], .agg #[.int .i64 u', .int .i64 d'], .agg #[.int .i64 p, .int .i64 q]] w (Ret w (.bool true)) := by
  obtain ⟨x, y, e, s1⟩ := sumV_some u d u' d'
  have s2 := s1
  rw [sumV_comm] at s2
  cases h3 : addB u d p q with
  | false =>
    have s3 := sumV_no h3
    obtain ⟨x4, y4, e4, s4⟩ := sumV_some u' d' p q
    go_enter Try.func5, Try.ntmps5
    go_wp2_with fail
    refine (L05.awake_any _).mono ?_; rintro e w1 ⟨rfl, x1⟩
    obtain ⟨⟨l0_1, p0_1, q0_1⟩, ⟨l1_1, p1_1, q1_1⟩, ⟨l2_1, p2_1, q2_1⟩⟩ := boxes3 x1
    have Y1 : Ext w w1 := ((((Ext.refl _).alloc _).alloc _).alloc _).trans x1
    clear x1
    generalize w.heap.size = r0 at *
    go_wp2_with fail
    refine (add_is s1 _).mono ?_; rintro e w2 ⟨rfl, x2⟩
    have z2 : Ext w1 w2 := (Ext.refl _).trans x2
    obtain ⟨l0_2, p0_2, q0_2⟩ := Box.ext ⟨l0_1, p0_1, q0_1⟩ z2
    obtain ⟨l1_2, p1_2, q1_2⟩ := Box.ext ⟨l1_1, p1_1, q1_1⟩ z2
    obtain ⟨l2_2, p2_2, q2_2⟩ := Box.ext ⟨l2_1, p2_1, q2_1⟩ z2
    have Y2 : Ext w w2 := Y1.trans z2
    clear l0_1 p0_1 q0_1 l1_1 p1_1 q1_1 l2_1 p2_1 q2_1 z2 x2 Y1
    go_wp2_with fail
    refine (add_is s2 _).mono ?_; rintro e w3 ⟨rfl, x3⟩
    have z3 : Ext w2 w3 := ((Ext.refl _).alloc _).trans x3
    obtain ⟨l0_3, p0_3, q0_3⟩ := Box.ext ⟨l0_2, p0_2, q0_2⟩ z3
    obtain ⟨l1_3, p1_3, q1_3⟩ := Box.ext ⟨l1_2, p1_2, q1_2⟩ z3
    obtain ⟨l2_3, p2_3, q2_3⟩ := Box.ext ⟨l2_2, p2_2, q2_2⟩ z3
    obtain ⟨l3_3, p3_3, q3_3⟩ := (Box.new w2 x y 23).ext x3
    have Y3 : Ext w w3 := Y2.trans z3
    clear l0_2 p0_2 q0_2 l1_2 p1_2 q1_2 l2_2 p2_2 q2_2 z3 x3 Y2
    generalize w2.heap.size = r3 at *
    go_wp2_with fail
    refine (add_is s3 _).mono ?_; rintro e w4 ⟨rfl, x4⟩
    have z4 : Ext w3 w4 := ((Ext.refl _).alloc _).trans x4
    obtain ⟨l0_4, p0_4, q0_4⟩ := Box.ext ⟨l0_3, p0_3, q0_3⟩ z4
    obtain ⟨l1_4, p1_4, q1_4⟩ := Box.ext ⟨l1_3, p1_3, q1_3⟩ z4
    obtain ⟨l2_4, p2_4, q2_4⟩ := Box.ext ⟨l2_3, p2_3, q2_3⟩ z4
    obtain ⟨l3_4, p3_4, q3_4⟩ := Box.ext ⟨l3_3, p3_3, q3_3⟩ z4
    obtain ⟨l4_4, p4_4, q4_4⟩ := (Box.new w3 x y 23).ext x4
    have Y4 : Ext w w4 := Y3.trans z4
    clear l0_3 p0_3 q0_3 l1_3 p1_3 q1_3 l2_3 p2_3 q2_3 l3_3 p3_3 q3_3 z4 x4 Y3
    generalize w3.heap.size = r4 at *
    go_wp2_with fail
    refine (add_is s4 _).mono ?_; rintro e w5 ⟨rfl, x5⟩
    have z5 : Ext w4 w5 := ((Ext.refl _).alloc _).trans x5
    obtain ⟨l0_5, p0_5, q0_5⟩ := Box.ext ⟨l0_4, p0_4, q0_4⟩ z5
    obtain ⟨l1_5, p1_5, q1_5⟩ := Box.ext ⟨l1_4, p1_4, q1_4⟩ z5
    obtain ⟨l2_5, p2_5, q2_5⟩ := Box.ext ⟨l2_4, p2_4, q2_4⟩ z5
    obtain ⟨l3_5, p3_5, q3_5⟩ := Box.ext ⟨l3_4, p3_4, q3_4⟩ z5
    obtain ⟨l4_5, p4_5, q4_5⟩ := Box.ext ⟨l4_4, p4_4, q4_4⟩ z5
    obtain ⟨l5_5, p5_5, q5_5⟩ := (Box.new w4 0 0 23).ext x5
    have Y5 : Ext w w5 := Y4.trans z5
    clear l0_4 p0_4 q0_4 l1_4 p1_4 q1_4 l2_4 p2_4 q2_4 l3_4 p3_4 q3_4 l4_4 p4_4 q4_4 z5 x5 Y4
    generalize w4.heap.size = r5 at *
    go_wp2_with fail
    obtain ⟨l6_6, p6_6, q6_6⟩ := Box.new w5 x4 y4 23
    have z6 : Ext w5 (w5.alloc (.cells #[.int .i64 x4, .int .i64 y4] 23)) := (Ext.refl _).alloc _
    generalize w5.alloc (.cells #[.int .i64 x4, .int .i64 y4] 23) = w6 at *
    obtain ⟨l0_6, p0_6, q0_6⟩ := Box.ext ⟨l0_5, p0_5, q0_5⟩ z6
    obtain ⟨l1_6, p1_6, q1_6⟩ := Box.ext ⟨l1_5, p1_5, q1_5⟩ z6
    obtain ⟨l2_6, p2_6, q2_6⟩ := Box.ext ⟨l2_5, p2_5, q2_5⟩ z6
    obtain ⟨l3_6, p3_6, q3_6⟩ := Box.ext ⟨l3_5, p3_5, q3_5⟩ z6
    obtain ⟨l4_6, p4_6, q4_6⟩ := Box.ext ⟨l4_5, p4_5, q4_5⟩ z6
    obtain ⟨l5_6, p5_6, q5_6⟩ := Box.ext ⟨l5_5, p5_5, q5_5⟩ z6
    have Y6 : Ext w w6 := Y5.trans z6
    clear l0_5 p0_5 q0_5 l1_5 p1_5 q1_5 l2_5 p2_5 q2_5 l3_5 p3_5 q3_5 l4_5 p4_5 q4_5 l5_5 p5_5 q5_5 z6 Y5
    generalize w5.heap.size = r6 at *
    have g0a := cell_regrown p0_6; have g0b := cell_regrown q0_6
    have g1a := cell_regrown p1_6; have g1b := cell_regrown q1_6
    have g2a := cell_regrown p2_6; have g2b := cell_regrown q2_6
    have g3a := cell_regrown p3_6; have g3b := cell_regrown q3_6
    have g4a := cell_regrown p4_6; have g4b := cell_regrown q4_6
    have g5a := cell_regrown p5_6; have g5b := cell_regrown q5_6
    have g6a := cell_regrown p6_6; have g6b := cell_regrown q6_6
    refine wp_region_quiet_below (by kernel_rfl) (by kernel_rfl) ?_
    repeat (go_big_quiet_step (first | (with_reducible exact rg (less_is s3 _))))
    refine wpQuiet_nil ?_
    intro _ hw'
    obtain ⟨⟨dq, osq⟩, hw''⟩ := hw'
    subst hw''
    have z7 : Ext w6 (Sort.grow (redrawn w6 dq) osq) := below_regrown _ _ _
    clear g0a g0b g1a g1b g2a g2b g3a g3b g4a g4b g5a g5b g6a g6b
    generalize Sort.grow (redrawn w6 dq) osq = w7 at *
    obtain ⟨l0_7, p0_7, q0_7⟩ := Box.ext ⟨l0_6, p0_6, q0_6⟩ z7
    obtain ⟨l1_7, p1_7, q1_7⟩ := Box.ext ⟨l1_6, p1_6, q1_6⟩ z7
    obtain ⟨l2_7, p2_7, q2_7⟩ := Box.ext ⟨l2_6, p2_6, q2_6⟩ z7
    obtain ⟨l3_7, p3_7, q3_7⟩ := Box.ext ⟨l3_6, p3_6, q3_6⟩ z7
    obtain ⟨l4_7, p4_7, q4_7⟩ := Box.ext ⟨l4_6, p4_6, q4_6⟩ z7
    obtain ⟨l5_7, p5_7, q5_7⟩ := Box.ext ⟨l5_6, p5_6, q5_6⟩ z7
    obtain ⟨l6_7, p6_7, q6_7⟩ := Box.ext ⟨l6_6, p6_6, q6_6⟩ z7
    have Y7 : Ext w w7 := Y6.trans z7
    clear l0_6 p0_6 q0_6 l1_6 p1_6 q1_6 l2_6 p2_6 q2_6 l3_6 p3_6 q3_6 l4_6 p4_6 q4_6 l5_6 p5_6 q5_6 l6_6 p6_6 q6_6 z7 Y6
    go_wp2_with fail
    go_ret
    exact ⟨rfl, Y7⟩
  | true =>
    have s3 := sumV_yes h3
    cases h4 : addB u' d' p q with
    | false =>
      have s4 := sumV_no h4
      go_enter Try.func5, Try.ntmps5
      go_wp2_with fail
      refine (L05.awake_any _).mono ?_; rintro e w1 ⟨rfl, x1⟩
      obtain ⟨⟨l0_1, p0_1, q0_1⟩, ⟨l1_1, p1_1, q1_1⟩, ⟨l2_1, p2_1, q2_1⟩⟩ := boxes3 x1
      have Y1 : Ext w w1 := ((((Ext.refl _).alloc _).alloc _).alloc _).trans x1
      clear x1
      generalize w.heap.size = r0 at *
      go_wp2_with fail
      refine (add_is s1 _).mono ?_; rintro e w2 ⟨rfl, x2⟩
      have z2 : Ext w1 w2 := (Ext.refl _).trans x2
      obtain ⟨l0_2, p0_2, q0_2⟩ := Box.ext ⟨l0_1, p0_1, q0_1⟩ z2
      obtain ⟨l1_2, p1_2, q1_2⟩ := Box.ext ⟨l1_1, p1_1, q1_1⟩ z2
      obtain ⟨l2_2, p2_2, q2_2⟩ := Box.ext ⟨l2_1, p2_1, q2_1⟩ z2
      have Y2 : Ext w w2 := Y1.trans z2
      clear l0_1 p0_1 q0_1 l1_1 p1_1 q1_1 l2_1 p2_1 q2_1 z2 x2 Y1
      go_wp2_with fail
      refine (add_is s2 _).mono ?_; rintro e w3 ⟨rfl, x3⟩
      have z3 : Ext w2 w3 := ((Ext.refl _).alloc _).trans x3
      obtain ⟨l0_3, p0_3, q0_3⟩ := Box.ext ⟨l0_2, p0_2, q0_2⟩ z3
      obtain ⟨l1_3, p1_3, q1_3⟩ := Box.ext ⟨l1_2, p1_2, q1_2⟩ z3
      obtain ⟨l2_3, p2_3, q2_3⟩ := Box.ext ⟨l2_2, p2_2, q2_2⟩ z3
      obtain ⟨l3_3, p3_3, q3_3⟩ := (Box.new w2 x y 23).ext x3
      have Y3 : Ext w w3 := Y2.trans z3
      clear l0_2 p0_2 q0_2 l1_2 p1_2 q1_2 l2_2 p2_2 q2_2 z3 x3 Y2
      generalize w2.heap.size = r3 at *
      go_wp2_with fail
      refine (add_is s3 _).mono ?_; rintro e w4 ⟨rfl, x4⟩
      have z4 : Ext w3 w4 := ((Ext.refl _).alloc _).trans x4
      obtain ⟨l0_4, p0_4, q0_4⟩ := Box.ext ⟨l0_3, p0_3, q0_3⟩ z4
      obtain ⟨l1_4, p1_4, q1_4⟩ := Box.ext ⟨l1_3, p1_3, q1_3⟩ z4
      obtain ⟨l2_4, p2_4, q2_4⟩ := Box.ext ⟨l2_3, p2_3, q2_3⟩ z4
      obtain ⟨l3_4, p3_4, q3_4⟩ := Box.ext ⟨l3_3, p3_3, q3_3⟩ z4
      obtain ⟨l4_4, p4_4, q4_4⟩ := (Box.new w3 x y 23).ext x4
      have Y4 : Ext w w4 := Y3.trans z4
      clear l0_3 p0_3 q0_3 l1_3 p1_3 q1_3 l2_3 p2_3 q2_3 l3_3 p3_3 q3_3 z4 x4 Y3
      generalize w3.heap.size = r4 at *
      go_wp2_with fail
      refine (add_is s4 _).mono ?_; rintro e w5 ⟨rfl, x5⟩
      have z5 : Ext w4 w5 := ((Ext.refl _).alloc _).trans x5
      obtain ⟨l0_5, p0_5, q0_5⟩ := Box.ext ⟨l0_4, p0_4, q0_4⟩ z5
      obtain ⟨l1_5, p1_5, q1_5⟩ := Box.ext ⟨l1_4, p1_4, q1_4⟩ z5
      obtain ⟨l2_5, p2_5, q2_5⟩ := Box.ext ⟨l2_4, p2_4, q2_4⟩ z5
      obtain ⟨l3_5, p3_5, q3_5⟩ := Box.ext ⟨l3_4, p3_4, q3_4⟩ z5
      obtain ⟨l4_5, p4_5, q4_5⟩ := Box.ext ⟨l4_4, p4_4, q4_4⟩ z5
      obtain ⟨l5_5, p5_5, q5_5⟩ := (Box.new w4 (u + p) (d + q) 23).ext x5
      have Y5 : Ext w w5 := Y4.trans z5
      clear l0_4 p0_4 q0_4 l1_4 p1_4 q1_4 l2_4 p2_4 q2_4 l3_4 p3_4 q3_4 l4_4 p4_4 q4_4 z5 x5 Y4
      generalize w4.heap.size = r5 at *
      go_wp2_with fail
      obtain ⟨l6_6, p6_6, q6_6⟩ := Box.new w5 0 0 23
      have z6 : Ext w5 (w5.alloc (.cells #[.int .i64 0, .int .i64 0] 23)) := (Ext.refl _).alloc _
      generalize w5.alloc (.cells #[.int .i64 0, .int .i64 0] 23) = w6 at *
      obtain ⟨l0_6, p0_6, q0_6⟩ := Box.ext ⟨l0_5, p0_5, q0_5⟩ z6
      obtain ⟨l1_6, p1_6, q1_6⟩ := Box.ext ⟨l1_5, p1_5, q1_5⟩ z6
      obtain ⟨l2_6, p2_6, q2_6⟩ := Box.ext ⟨l2_5, p2_5, q2_5⟩ z6
      obtain ⟨l3_6, p3_6, q3_6⟩ := Box.ext ⟨l3_5, p3_5, q3_5⟩ z6
      obtain ⟨l4_6, p4_6, q4_6⟩ := Box.ext ⟨l4_5, p4_5, q4_5⟩ z6
      obtain ⟨l5_6, p5_6, q5_6⟩ := Box.ext ⟨l5_5, p5_5, q5_5⟩ z6
      have Y6 : Ext w w6 := Y5.trans z6
      clear l0_5 p0_5 q0_5 l1_5 p1_5 q1_5 l2_5 p2_5 q2_5 l3_5 p3_5 q3_5 l4_5 p4_5 q4_5 l5_5 p5_5 q5_5 z6 Y5
      generalize w5.heap.size = r6 at *
      have g0a := cell_regrown p0_6; have g0b := cell_regrown q0_6
      have g1a := cell_regrown p1_6; have g1b := cell_regrown q1_6
      have g2a := cell_regrown p2_6; have g2b := cell_regrown q2_6
      have g3a := cell_regrown p3_6; have g3b := cell_regrown q3_6
      have g4a := cell_regrown p4_6; have g4b := cell_regrown q4_6
      have g5a := cell_regrown p5_6; have g5b := cell_regrown q5_6
      have g6a := cell_regrown p6_6; have g6b := cell_regrown q6_6
      refine wp_region_quiet_below (by kernel_rfl) (by kernel_rfl) ?_
      repeat (go_big_quiet_step (first | (with_reducible exact rg (less_is s3 _))))
      refine wpQuiet_nil ?_
      intro _ hw'
      obtain ⟨⟨dq, osq⟩, hw''⟩ := hw'
      subst hw''
      have z7 : Ext w6 (Sort.grow (redrawn w6 dq) osq) := below_regrown _ _ _
      clear g0a g0b g1a g1b g2a g2b g3a g3b g4a g4b g5a g5b g6a g6b
      generalize Sort.grow (redrawn w6 dq) osq = w7 at *
      obtain ⟨l0_7, p0_7, q0_7⟩ := Box.ext ⟨l0_6, p0_6, q0_6⟩ z7
      obtain ⟨l1_7, p1_7, q1_7⟩ := Box.ext ⟨l1_6, p1_6, q1_6⟩ z7
      obtain ⟨l2_7, p2_7, q2_7⟩ := Box.ext ⟨l2_6, p2_6, q2_6⟩ z7
      obtain ⟨l3_7, p3_7, q3_7⟩ := Box.ext ⟨l3_6, p3_6, q3_6⟩ z7
      obtain ⟨l4_7, p4_7, q4_7⟩ := Box.ext ⟨l4_6, p4_6, q4_6⟩ z7
      obtain ⟨l5_7, p5_7, q5_7⟩ := Box.ext ⟨l5_6, p5_6, q5_6⟩ z7
      obtain ⟨l6_7, p6_7, q6_7⟩ := Box.ext ⟨l6_6, p6_6, q6_6⟩ z7
      have Y7 : Ext w w7 := Y6.trans z7
      clear l0_6 p0_6 q0_6 l1_6 p1_6 q1_6 l2_6 p2_6 q2_6 l3_6 p3_6 q3_6 l4_6 p4_6 q4_6 l5_6 p5_6 q5_6 l6_6 p6_6 q6_6 z7 Y6
      go_wp2_with fail
      go_ret
      exact ⟨rfl, Y7⟩
    | true =>
      have s4 := sumV_yes h4
      cases h5 : lessB u d u' d'
      all_goals
        have h6 := less_plus u d u' d' p q
        rw [h5] at h6
        go_enter Try.func5, Try.ntmps5
        go_wp2_with fail
        refine (L05.awake_any _).mono ?_; rintro e w1 ⟨rfl, x1⟩
        obtain ⟨⟨l0_1, p0_1, q0_1⟩, ⟨l1_1, p1_1, q1_1⟩, ⟨l2_1, p2_1, q2_1⟩⟩ := boxes3 x1
        have Y1 : Ext w w1 := ((((Ext.refl _).alloc _).alloc _).alloc _).trans x1
        clear x1
        generalize w.heap.size = r0 at *
        go_wp2_with fail
        refine (add_is s1 _).mono ?_; rintro e w2 ⟨rfl, x2⟩
        have z2 : Ext w1 w2 := (Ext.refl _).trans x2
        obtain ⟨l0_2, p0_2, q0_2⟩ := Box.ext ⟨l0_1, p0_1, q0_1⟩ z2
        obtain ⟨l1_2, p1_2, q1_2⟩ := Box.ext ⟨l1_1, p1_1, q1_1⟩ z2
        obtain ⟨l2_2, p2_2, q2_2⟩ := Box.ext ⟨l2_1, p2_1, q2_1⟩ z2
        have Y2 : Ext w w2 := Y1.trans z2
        clear l0_1 p0_1 q0_1 l1_1 p1_1 q1_1 l2_1 p2_1 q2_1 z2 x2 Y1
        go_wp2_with fail
        refine (add_is s2 _).mono ?_; rintro e w3 ⟨rfl, x3⟩
        have z3 : Ext w2 w3 := ((Ext.refl _).alloc _).trans x3
        obtain ⟨l0_3, p0_3, q0_3⟩ := Box.ext ⟨l0_2, p0_2, q0_2⟩ z3
        obtain ⟨l1_3, p1_3, q1_3⟩ := Box.ext ⟨l1_2, p1_2, q1_2⟩ z3
        obtain ⟨l2_3, p2_3, q2_3⟩ := Box.ext ⟨l2_2, p2_2, q2_2⟩ z3
        obtain ⟨l3_3, p3_3, q3_3⟩ := (Box.new w2 x y 23).ext x3
        have Y3 : Ext w w3 := Y2.trans z3
        clear l0_2 p0_2 q0_2 l1_2 p1_2 q1_2 l2_2 p2_2 q2_2 z3 x3 Y2
        generalize w2.heap.size = r3 at *
        go_wp2_with fail
        refine (add_is s3 _).mono ?_; rintro e w4 ⟨rfl, x4⟩
        have z4 : Ext w3 w4 := ((Ext.refl _).alloc _).trans x4
        obtain ⟨l0_4, p0_4, q0_4⟩ := Box.ext ⟨l0_3, p0_3, q0_3⟩ z4
        obtain ⟨l1_4, p1_4, q1_4⟩ := Box.ext ⟨l1_3, p1_3, q1_3⟩ z4
        obtain ⟨l2_4, p2_4, q2_4⟩ := Box.ext ⟨l2_3, p2_3, q2_3⟩ z4
        obtain ⟨l3_4, p3_4, q3_4⟩ := Box.ext ⟨l3_3, p3_3, q3_3⟩ z4
        obtain ⟨l4_4, p4_4, q4_4⟩ := (Box.new w3 x y 23).ext x4
        have Y4 : Ext w w4 := Y3.trans z4
        clear l0_3 p0_3 q0_3 l1_3 p1_3 q1_3 l2_3 p2_3 q2_3 l3_3 p3_3 q3_3 z4 x4 Y3
        generalize w3.heap.size = r4 at *
        go_wp2_with fail
        refine (add_is s4 _).mono ?_; rintro e w5 ⟨rfl, x5⟩
        have z5 : Ext w4 w5 := ((Ext.refl _).alloc _).trans x5
        obtain ⟨l0_5, p0_5, q0_5⟩ := Box.ext ⟨l0_4, p0_4, q0_4⟩ z5
        obtain ⟨l1_5, p1_5, q1_5⟩ := Box.ext ⟨l1_4, p1_4, q1_4⟩ z5
        obtain ⟨l2_5, p2_5, q2_5⟩ := Box.ext ⟨l2_4, p2_4, q2_4⟩ z5
        obtain ⟨l3_5, p3_5, q3_5⟩ := Box.ext ⟨l3_4, p3_4, q3_4⟩ z5
        obtain ⟨l4_5, p4_5, q4_5⟩ := Box.ext ⟨l4_4, p4_4, q4_4⟩ z5
        obtain ⟨l5_5, p5_5, q5_5⟩ := (Box.new w4 (u + p) (d + q) 23).ext x5
        have Y5 : Ext w w5 := Y4.trans z5
        clear l0_4 p0_4 q0_4 l1_4 p1_4 q1_4 l2_4 p2_4 q2_4 l3_4 p3_4 q3_4 l4_4 p4_4 q4_4 z5 x5 Y4
        generalize w4.heap.size = r5 at *
        go_wp2_with fail
        obtain ⟨l6_6, p6_6, q6_6⟩ := Box.new w5 (u' + p) (d' + q) 23
        have z6 : Ext w5 (w5.alloc (.cells #[.int .i64 (u' + p), .int .i64 (d' + q)] 23)) := (Ext.refl _).alloc _
        generalize w5.alloc (.cells #[.int .i64 (u' + p), .int .i64 (d' + q)] 23) = w6 at *
        obtain ⟨l0_6, p0_6, q0_6⟩ := Box.ext ⟨l0_5, p0_5, q0_5⟩ z6
        obtain ⟨l1_6, p1_6, q1_6⟩ := Box.ext ⟨l1_5, p1_5, q1_5⟩ z6
        obtain ⟨l2_6, p2_6, q2_6⟩ := Box.ext ⟨l2_5, p2_5, q2_5⟩ z6
        obtain ⟨l3_6, p3_6, q3_6⟩ := Box.ext ⟨l3_5, p3_5, q3_5⟩ z6
        obtain ⟨l4_6, p4_6, q4_6⟩ := Box.ext ⟨l4_5, p4_5, q4_5⟩ z6
        obtain ⟨l5_6, p5_6, q5_6⟩ := Box.ext ⟨l5_5, p5_5, q5_5⟩ z6
        have Y6 : Ext w w6 := Y5.trans z6
        clear l0_5 p0_5 q0_5 l1_5 p1_5 q1_5 l2_5 p2_5 q2_5 l3_5 p3_5 q3_5 l4_5 p4_5 q4_5 l5_5 p5_5 q5_5 z6 Y5
        generalize w5.heap.size = r6 at *
        have g0a := cell_regrown p0_6; have g0b := cell_regrown q0_6
        have g1a := cell_regrown p1_6; have g1b := cell_regrown q1_6
        have g2a := cell_regrown p2_6; have g2b := cell_regrown q2_6
        have g3a := cell_regrown p3_6; have g3b := cell_regrown q3_6
        have g4a := cell_regrown p4_6; have g4b := cell_regrown q4_6
        have g5a := cell_regrown p5_6; have g5b := cell_regrown q5_6
        have g6a := cell_regrown p6_6; have g6b := cell_regrown q6_6
        refine wp_region_quiet_below (by kernel_rfl) (by kernel_rfl) ?_
        repeat (go_big_quiet_step (first | (with_reducible exact rg (less_is h6 _)) | (with_reducible exact rg (less_is h5 _))))
        refine wpQuiet_nil ?_
        intro _ hw'
        obtain ⟨⟨dq, osq⟩, hw''⟩ := hw'
        subst hw''
        have z7 : Ext w6 (Sort.grow (redrawn w6 dq) osq) := below_regrown _ _ _
        clear g0a g0b g1a g1b g2a g2b g3a g3b g4a g4b g5a g5b g6a g6b
        generalize Sort.grow (redrawn w6 dq) osq = w7 at *
        obtain ⟨l0_7, p0_7, q0_7⟩ := Box.ext ⟨l0_6, p0_6, q0_6⟩ z7
        obtain ⟨l1_7, p1_7, q1_7⟩ := Box.ext ⟨l1_6, p1_6, q1_6⟩ z7
        obtain ⟨l2_7, p2_7, q2_7⟩ := Box.ext ⟨l2_6, p2_6, q2_6⟩ z7
        obtain ⟨l3_7, p3_7, q3_7⟩ := Box.ext ⟨l3_6, p3_6, q3_6⟩ z7
        obtain ⟨l4_7, p4_7, q4_7⟩ := Box.ext ⟨l4_6, p4_6, q4_6⟩ z7
        obtain ⟨l5_7, p5_7, q5_7⟩ := Box.ext ⟨l5_6, p5_6, q5_6⟩ z7
        obtain ⟨l6_7, p6_7, q6_7⟩ := Box.ext ⟨l6_6, p6_6, q6_6⟩ z7
        have Y7 : Ext w w7 := Y6.trans z7
        clear l0_6 p0_6 q0_6 l1_6 p1_6 q1_6 l2_6 p2_6 q2_6 l3_6 p3_6 q3_6 l4_6 p4_6 q4_6 l5_6 p5_6 q5_6 l6_6 p6_6 q6_6 z7 Y6
        go_wp2_with fail
        go_ret
        exact ⟨rfl, Y7⟩

theorem walk (a0 b0 : Int) (_ : -9223372036854775808 ≤ a0 ∧ a0 ≤ 9223372036854775807) (_ : -9223372036854775808 ≤ b0 ∧ b0 ≤ 9223372036854775807) (a1 b1 : Int) (_ : -9223372036854775808 ≤ a1 ∧ a1 ≤ 9223372036854775807) (_ : -9223372036854775808 ≤ b1 ∧ b1 ≤ 9223372036854775807) (a2 b2 : Int) (_ : -9223372036854775808 ≤ a2 ∧ a2 ≤ 9223372036854775807) (_ : -9223372036854775808 ≤ b2 ∧ b2 ≤ 9223372036854775807) (w : World) :
    Calls Try.prog 5 #[.agg #[.int .i64 a0, .int .i64 b0], .agg #[.int .i64 a1, .int .i64 b1], .agg #[.int .i64 a2, .int .i64 b2]] w (Ret w (.bool true)) := way a0 b0 a1 b1 a2 b2 w

set_option maxRecDepth 100000 in
theorem lifted (os : Os) (started : os.Started) (H : Type) (enc : TypeId × Value → H) :
    ReturnsInHanded {} Try.checked os 5 .any (Rows.costAddsSpec.pre6 enc Try.prog Try.f5 [] false) (Rows.costAddsSpec.post enc Try.prog Try.f5 false true false false) := by
  refine law_lift (C := Try.checked) own started (by kernel_rfl) Try.func5 laidOut rfl rfl Try.underlying4 (by kernel_rfl) ?_
    (ChangeSpec.witness6 (enc := enc) (C := Try.checked) false ⟨#[], #[.agg #[.int .i64 0, .int .i64 0], .agg #[.int .i64 0, .int .i64 0], .agg #[.int .i64 0, .int .i64 0]], []⟩ 8 (by kernel_rfl) (by kernel_rfl) (by kernel_rfl) (by kernel_rfl)) ?_
  · intro H ds h
    match ds, h with
    | [_, _, _], _ => rfl
  · intro W base args ds p hval hA hlt hwt hsh
    rw [Try.params5] at hA hval
    obtain ⟨v0, vs0, d0, ds0, p0, q0, hargs, rfl, rfl, h0, r0⟩ := trodAll_cons hA
    obtain ⟨v1, vs1, d1, ds1, p1, q1, rfl, rfl, rfl, h1, r1⟩ := trodAll_cons r0
    obtain ⟨v2, vs2, d2, ds2, p2, q2, rfl, rfl, rfl, h2, r2⟩ := trodAll_cons r1
    obtain ⟨rfl, rfl, rfl⟩ := trodAll_nil r2
    obtain rfl : args = #[v0, v1, v2] := by cases args; simp_all
    obtain ⟨a0, b0, rfl, wa0, wb0⟩ := arg_pair Try.underlying23 (by kernel_rfl) (by kernel_rfl) Try.underlying3 Try.underlying3 (hval 0 23 v0 rfl rfl) h0
    obtain ⟨a1, b1, rfl, wa1, wb1⟩ := arg_pair Try.underlying23 (by kernel_rfl) (by kernel_rfl) Try.underlying3 Try.underlying3 (hval 1 23 v1 rfl rfl) h1
    obtain ⟨a2, b2, rfl, wa2, wb2⟩ := arg_pair Try.underlying23 (by kernel_rfl) (by kernel_rfl) Try.underlying3 Try.underlying3 (hval 2 23 v2 rfl rfl) h2
    exact walk a0 b0 (bounds_i64 wa0) (bounds_i64 wb0) a1 b1 (bounds_i64 wa1) (bounds_i64 wb1) a2 b2 (bounds_i64 wa2) (bounds_i64 wb2) W 

theorem holds : Rows.CostAddsSaid :=
  OpenClaim.holds_of_wide 5 Try.f5 rfl rfl rfl rfl rfl rfl rfl ⟨rfl, rfl, rfl, rfl, rfl⟩ rfl rfl rfl rfl rfl (by kernel_rfl) Try.func5 (by kernel_rfl)
    (of_decide_eq_true (by kernel_rfl)) (by unfold Func.isWrapper; first | (rw [if_pos (by decide +kernel)]; kernel_rfl) | (rw [if_neg (by decide +kernel)]; exact ⟨rfl, rfl⟩))
    (fun os started H enc _ => lifted os started H enc)
end CostAdds
end Go.Proofs.Yticnkdabaebifaa

