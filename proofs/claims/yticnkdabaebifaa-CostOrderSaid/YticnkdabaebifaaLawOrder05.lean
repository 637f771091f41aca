/- CostOrder: of any two costs just one is less, or they are one, and being less goes on: for every input. -/
import Derived.Test.YticnkdabaebifaaAwake05
import Derived.OpenShut
namespace Go.Proofs.Yticnkdabaebifaa
open Go.ChangeShapes Go.WideShapes Go.ChangeAt Go.RowKit Go.Joins Go.Deep
namespace CostOrder
open L05

set_option maxHeartbeats 1000000 in
theorem way (u d u' d' p q : Int) (w : World) : Calls Try.prog 4 #[.agg #[.int .i64 u, .int .i64 d], .agg #[.int .i64 u', .int .i64 d'], .agg #[.int .i64 p, .int .i64 q]] w (Ret w (.bool true)) := by
  cases hab : lessB u d u' d' with
  | true =>
    have hba : lessB u' d' u d = false := less_not hab
    cases hbc : lessB u' d' p q with
    | true =>
      have hac : lessB u d p q = true := less_trans hab hbc
      by_cases h1 : u = u'
      · subst h1
        have h2 : ¬ d = d' := fun e => by rw [e, less_self] at hab; cases hab
        go_enter Try.func4, Try.ntmps4
        go_wp2_with fail
        refine (L05.awake_any _).mono ?_; rintro e w1 ⟨rfl, x1⟩
        obtain ⟨⟨l0_1, p0_1, q0_1⟩, ⟨l1_1, p1_1, q1_1⟩, ⟨l2_1, p2_1, q2_1⟩⟩ := boxes3 x1
        have Y1 : Ext w w1 := ((((Ext.refl _).alloc _).alloc _).alloc _).trans x1
        clear x1
        generalize w.heap.size = r0 at *
        go_wp2_with fail
        have g0a := cell_regrown p0_1; have g0b := cell_regrown q0_1
        have g1a := cell_regrown p1_1; have g1b := cell_regrown q1_1
        have g2a := cell_regrown p2_1; have g2b := cell_regrown q2_1
        refine wp_region_quiet_below (by kernel_rfl) (by kernel_rfl) ?_
        repeat (go_big_quiet_step (first | (with_reducible exact rg (less_is hab _)) | (with_reducible exact rg (less_is hba _))))
        refine wpQuiet_nil ?_
        intro _ hw'
        obtain ⟨⟨dq, osq⟩, hw''⟩ := hw'
        subst hw''
        have z2 : Ext w1 (Sort.grow (redrawn w1 dq) osq) := below_regrown _ _ _
        clear g0a g0b g1a g1b g2a g2b
        generalize Sort.grow (redrawn w1 dq) osq = w2 at *
        obtain ⟨l0_2, p0_2, q0_2⟩ := Box.ext ⟨l0_1, p0_1, q0_1⟩ z2
        obtain ⟨l1_2, p1_2, q1_2⟩ := Box.ext ⟨l1_1, p1_1, q1_1⟩ z2
        obtain ⟨l2_2, p2_2, q2_2⟩ := Box.ext ⟨l2_1, p2_1, q2_1⟩ z2
        have Y2 : Ext w w2 := Y1.trans z2
        clear l0_1 p0_1 q0_1 l1_1 p1_1 q1_1 l2_1 p2_1 q2_1 z2 Y1
        go_wp2_with fail
        refine (less_is hab _).mono ?_; rintro e w3 ⟨rfl, x3⟩
        have z3 : Ext w2 w3 := (Ext.refl _).trans x3
        obtain ⟨l0_3, p0_3, q0_3⟩ := Box.ext ⟨l0_2, p0_2, q0_2⟩ z3
        obtain ⟨l1_3, p1_3, q1_3⟩ := Box.ext ⟨l1_2, p1_2, q1_2⟩ z3
        obtain ⟨l2_3, p2_3, q2_3⟩ := Box.ext ⟨l2_2, p2_2, q2_2⟩ z3
        have Y3 : Ext w w3 := Y2.trans z3
        clear l0_2 p0_2 q0_2 l1_2 p1_2 q1_2 l2_2 p2_2 q2_2 z3 x3 Y2
        go_wp2_with fail
        refine (less_is hbc _).mono ?_; rintro e w4 ⟨rfl, x4⟩
        have z4 : Ext w3 w4 := (Ext.refl _).trans x4
        obtain ⟨l0_4, p0_4, q0_4⟩ := Box.ext ⟨l0_3, p0_3, q0_3⟩ z4
        obtain ⟨l1_4, p1_4, q1_4⟩ := Box.ext ⟨l1_3, p1_3, q1_3⟩ z4
        obtain ⟨l2_4, p2_4, q2_4⟩ := Box.ext ⟨l2_3, p2_3, q2_3⟩ z4
        have Y4 : Ext w w4 := Y3.trans z4
        clear l0_3 p0_3 q0_3 l1_3 p1_3 q1_3 l2_3 p2_3 q2_3 z4 x4 Y3
        go_wp2_with fail
        refine (less_is hac _).mono ?_; rintro e w5 ⟨rfl, x5⟩
        have z5 : Ext w4 w5 := (Ext.refl _).trans x5
        obtain ⟨l0_5, p0_5, q0_5⟩ := Box.ext ⟨l0_4, p0_4, q0_4⟩ z5
        obtain ⟨l1_5, p1_5, q1_5⟩ := Box.ext ⟨l1_4, p1_4, q1_4⟩ z5
        obtain ⟨l2_5, p2_5, q2_5⟩ := Box.ext ⟨l2_4, p2_4, q2_4⟩ z5
        have Y5 : Ext w w5 := Y4.trans z5
        clear l0_4 p0_4 q0_4 l1_4 p1_4 q1_4 l2_4 p2_4 q2_4 z5 x5 Y4
        go_wp2_with fail
        go_ret
        exact ⟨rfl, Y5⟩
      · skip
        go_enter Try.func4, Try.ntmps4
        go_wp2_with fail
        refine (L05.awake_any _).mono ?_; rintro e w1 ⟨rfl, x1⟩
        obtain ⟨⟨l0_1, p0_1, q0_1⟩, ⟨l1_1, p1_1, q1_1⟩, ⟨l2_1, p2_1, q2_1⟩⟩ := boxes3 x1
        have Y1 : Ext w w1 := ((((Ext.refl _).alloc _).alloc _).alloc _).trans x1
        clear x1
        generalize w.heap.size = r0 at *
        go_wp2_with fail
        have g0a := cell_regrown p0_1; have g0b := cell_regrown q0_1
        have g1a := cell_regrown p1_1; have g1b := cell_regrown q1_1
        have g2a := cell_regrown p2_1; have g2b := cell_regrown q2_1
        refine wp_region_quiet_below (by kernel_rfl) (by kernel_rfl) ?_
        repeat (go_big_quiet_step (first | (with_reducible exact rg (less_is hab _)) | (with_reducible exact rg (less_is hba _))))
        refine wpQuiet_nil ?_
        intro _ hw'
        obtain ⟨⟨dq, osq⟩, hw''⟩ := hw'
        subst hw''
        have z2 : Ext w1 (Sort.grow (redrawn w1 dq) osq) := below_regrown _ _ _
        clear g0a g0b g1a g1b g2a g2b
        generalize Sort.grow (redrawn w1 dq) osq = w2 at *
        obtain ⟨l0_2, p0_2, q0_2⟩ := Box.ext ⟨l0_1, p0_1, q0_1⟩ z2
        obtain ⟨l1_2, p1_2, q1_2⟩ := Box.ext ⟨l1_1, p1_1, q1_1⟩ z2
        obtain ⟨l2_2, p2_2, q2_2⟩ := Box.ext ⟨l2_1, p2_1, q2_1⟩ z2
        have Y2 : Ext w w2 := Y1.trans z2
        clear l0_1 p0_1 q0_1 l1_1 p1_1 q1_1 l2_1 p2_1 q2_1 z2 Y1
        go_wp2_with fail
        refine (less_is hab _).mono ?_; rintro e w3 ⟨rfl, x3⟩
        have z3 : Ext w2 w3 := (Ext.refl _).trans x3
        obtain ⟨l0_3, p0_3, q0_3⟩ := Box.ext ⟨l0_2, p0_2, q0_2⟩ z3
        obtain ⟨l1_3, p1_3, q1_3⟩ := Box.ext ⟨l1_2, p1_2, q1_2⟩ z3
        obtain ⟨l2_3, p2_3, q2_3⟩ := Box.ext ⟨l2_2, p2_2, q2_2⟩ z3
        have Y3 : Ext w w3 := Y2.trans z3
        clear l0_2 p0_2 q0_2 l1_2 p1_2 q1_2 l2_2 p2_2 q2_2 z3 x3 Y2
        go_wp2_with fail
        refine (less_is hbc _).mono ?_; rintro e w4 ⟨rfl, x4⟩
        have z4 : Ext w3 w4 := (Ext.refl _).trans x4
        obtain ⟨l0_4, p0_4, q0_4⟩ := Box.ext ⟨l0_3, p0_3, q0_3⟩ z4
        obtain ⟨l1_4, p1_4, q1_4⟩ := Box.ext ⟨l1_3, p1_3, q1_3⟩ z4
        obtain ⟨l2_4, p2_4, q2_4⟩ := Box.ext ⟨l2_3, p2_3, q2_3⟩ z4
        have Y4 : Ext w w4 := Y3.trans z4
        clear l0_3 p0_3 q0_3 l1_3 p1_3 q1_3 l2_3 p2_3 q2_3 z4 x4 Y3
        go_wp2_with fail
        refine (less_is hac _).mono ?_; rintro e w5 ⟨rfl, x5⟩
        have z5 : Ext w4 w5 := (Ext.refl _).trans x5
        obtain ⟨l0_5, p0_5, q0_5⟩ := Box.ext ⟨l0_4, p0_4, q0_4⟩ z5
        obtain ⟨l1_5, p1_5, q1_5⟩ := Box.ext ⟨l1_4, p1_4, q1_4⟩ z5
        obtain ⟨l2_5, p2_5, q2_5⟩ := Box.ext ⟨l2_4, p2_4, q2_4⟩ z5
        have Y5 : Ext w w5 := Y4.trans z5
        clear l0_4 p0_4 q0_4 l1_4 p1_4 q1_4 l2_4 p2_4 q2_4 z5 x5 Y4
        go_wp2_with fail
        go_ret
        exact ⟨rfl, Y5⟩
    | false =>
      by_cases h1 : u = u'
      · subst h1
        have h2 : ¬ d = d' := fun e => by rw [e, less_self] at hab; cases hab
        go_enter Try.func4, Try.ntmps4
        go_wp2_with fail
        refine (L05.awake_any _).mono ?_; rintro e w1 ⟨rfl, x1⟩
        obtain ⟨⟨l0_1, p0_1, q0_1⟩, ⟨l1_1, p1_1, q1_1⟩, ⟨l2_1, p2_1, q2_1⟩⟩ := boxes3 x1
        have Y1 : Ext w w1 := ((((Ext.refl _).alloc _).alloc _).alloc _).trans x1
        clear x1
        generalize w.heap.size = r0 at *
        go_wp2_with fail
        have g0a := cell_regrown p0_1; have g0b := cell_regrown q0_1
        have g1a := cell_regrown p1_1; have g1b := cell_regrown q1_1
        have g2a := cell_regrown p2_1; have g2b := cell_regrown q2_1
        refine wp_region_quiet_below (by kernel_rfl) (by kernel_rfl) ?_
        repeat (go_big_quiet_step (first | (with_reducible exact rg (less_is hab _)) | (with_reducible exact rg (less_is hba _))))
        refine wpQuiet_nil ?_
        intro _ hw'
        obtain ⟨⟨dq, osq⟩, hw''⟩ := hw'
        subst hw''
        have z2 : Ext w1 (Sort.grow (redrawn w1 dq) osq) := below_regrown _ _ _
        clear g0a g0b g1a g1b g2a g2b
        generalize Sort.grow (redrawn w1 dq) osq = w2 at *
        obtain ⟨l0_2, p0_2, q0_2⟩ := Box.ext ⟨l0_1, p0_1, q0_1⟩ z2
        obtain ⟨l1_2, p1_2, q1_2⟩ := Box.ext ⟨l1_1, p1_1, q1_1⟩ z2
        obtain ⟨l2_2, p2_2, q2_2⟩ := Box.ext ⟨l2_1, p2_1, q2_1⟩ z2
        have Y2 : Ext w w2 := Y1.trans z2
        clear l0_1 p0_1 q0_1 l1_1 p1_1 q1_1 l2_1 p2_1 q2_1 z2 Y1
        go_wp2_with fail
        refine (less_is hab _).mono ?_; rintro e w3 ⟨rfl, x3⟩
        have z3 : Ext w2 w3 := (Ext.refl _).trans x3
        obtain ⟨l0_3, p0_3, q0_3⟩ := Box.ext ⟨l0_2, p0_2, q0_2⟩ z3
        obtain ⟨l1_3, p1_3, q1_3⟩ := Box.ext ⟨l1_2, p1_2, q1_2⟩ z3
        obtain ⟨l2_3, p2_3, q2_3⟩ := Box.ext ⟨l2_2, p2_2, q2_2⟩ z3
        have Y3 : Ext w w3 := Y2.trans z3
        clear l0_2 p0_2 q0_2 l1_2 p1_2 q1_2 l2_2 p2_2 q2_2 z3 x3 Y2
        go_wp2_with fail
        refine (less_is hbc _).mono ?_; rintro e w4 ⟨rfl, x4⟩
        have z4 : Ext w3 w4 := (Ext.refl _).trans x4
        obtain ⟨l0_4, p0_4, q0_4⟩ := Box.ext ⟨l0_3, p0_3, q0_3⟩ z4
        obtain ⟨l1_4, p1_4, q1_4⟩ := Box.ext ⟨l1_3, p1_3, q1_3⟩ z4
        obtain ⟨l2_4, p2_4, q2_4⟩ := Box.ext ⟨l2_3, p2_3, q2_3⟩ z4
        have Y4 : Ext w w4 := Y3.trans z4
        clear l0_3 p0_3 q0_3 l1_3 p1_3 q1_3 l2_3 p2_3 q2_3 z4 x4 Y3
        go_wp2_with fail
        go_ret
        exact ⟨rfl, Y4⟩
      · skip
        go_enter Try.func4, Try.ntmps4
        go_wp2_with fail
        refine (L05.awake_any _).mono ?_; rintro e w1 ⟨rfl, x1⟩
        obtain ⟨⟨l0_1, p0_1, q0_1⟩, ⟨l1_1, p1_1, q1_1⟩, ⟨l2_1, p2_1, q2_1⟩⟩ := boxes3 x1
        have Y1 : Ext w w1 := ((((Ext.refl _).alloc _).alloc _).alloc _).trans x1
        clear x1
        generalize w.heap.size = r0 at *
        go_wp2_with fail
        have g0a := cell_regrown p0_1; have g0b := cell_regrown q0_1
        have g1a := cell_regrown p1_1; have g1b := cell_regrown q1_1
        have g2a := cell_regrown p2_1; have g2b := cell_regrown q2_1
        refine wp_region_quiet_below (by kernel_rfl) (by kernel_rfl) ?_
        repeat (go_big_quiet_step (first | (with_reducible exact rg (less_is hab _)) | (with_reducible exact rg (less_is hba _))))
        refine wpQuiet_nil ?_
        intro _ hw'
        obtain ⟨⟨dq, osq⟩, hw''⟩ := hw'
        subst hw''
        have z2 : Ext w1 (Sort.grow (redrawn w1 dq) osq) := below_regrown _ _ _
        clear g0a g0b g1a g1b g2a g2b
        generalize Sort.grow (redrawn w1 dq) osq = w2 at *
        obtain ⟨l0_2, p0_2, q0_2⟩ := Box.ext ⟨l0_1, p0_1, q0_1⟩ z2
        obtain ⟨l1_2, p1_2, q1_2⟩ := Box.ext ⟨l1_1, p1_1, q1_1⟩ z2
        obtain ⟨l2_2, p2_2, q2_2⟩ := Box.ext ⟨l2_1, p2_1, q2_1⟩ z2
        have Y2 : Ext w w2 := Y1.trans z2
        clear l0_1 p0_1 q0_1 l1_1 p1_1 q1_1 l2_1 p2_1 q2_1 z2 Y1
        go_wp2_with fail
        refine (less_is hab _).mono ?_; rintro e w3 ⟨rfl, x3⟩
        have z3 : Ext w2 w3 := (Ext.refl _).trans x3
        obtain ⟨l0_3, p0_3, q0_3⟩ := Box.ext ⟨l0_2, p0_2, q0_2⟩ z3
        obtain ⟨l1_3, p1_3, q1_3⟩ := Box.ext ⟨l1_2, p1_2, q1_2⟩ z3
        obtain ⟨l2_3, p2_3, q2_3⟩ := Box.ext ⟨l2_2, p2_2, q2_2⟩ z3
        have Y3 : Ext w w3 := Y2.trans z3
        clear l0_2 p0_2 q0_2 l1_2 p1_2 q1_2 l2_2 p2_2 q2_2 z3 x3 Y2
        go_wp2_with fail
        refine (less_is hbc _).mono ?_; rintro e w4 ⟨rfl, x4⟩
        have z4 : Ext w3 w4 := (Ext.refl _).trans x4
        obtain ⟨l0_4, p0_4, q0_4⟩ := Box.ext ⟨l0_3, p0_3, q0_3⟩ z4
        obtain ⟨l1_4, p1_4, q1_4⟩ := Box.ext ⟨l1_3, p1_3, q1_3⟩ z4
        obtain ⟨l2_4, p2_4, q2_4⟩ := Box.ext ⟨l2_3, p2_3, q2_3⟩ z4
        have Y4 : Ext w w4 := Y3.trans z4
        clear l0_3 p0_3 q0_3 l1_3 p1_3 q1_3 l2_3 p2_3 q2_3 z4 x4 Y3
        go_wp2_with fail
        go_ret
        exact ⟨rfl, Y4⟩
  | false =>
    by_cases h1 : u = u'
    · subst h1
      by_cases h2 : d = d'
      · subst h2
        have hba := hab
        go_enter Try.func4, Try.ntmps4
        go_wp2_with fail
        refine (L05.awake_any _).mono ?_; rintro e w1 ⟨rfl, x1⟩
        obtain ⟨⟨l0_1, p0_1, q0_1⟩, ⟨l1_1, p1_1, q1_1⟩, ⟨l2_1, p2_1, q2_1⟩⟩ := boxes3 x1
        have Y1 : Ext w w1 := ((((Ext.refl _).alloc _).alloc _).alloc _).trans x1
        clear x1
        generalize w.heap.size = r0 at *
        go_wp2_with fail
        have g0a := cell_regrown p0_1; have g0b := cell_regrown q0_1
        have g1a := cell_regrown p1_1; have g1b := cell_regrown q1_1
        have g2a := cell_regrown p2_1; have g2b := cell_regrown q2_1
        refine wp_region_quiet_below (by kernel_rfl) (by kernel_rfl) ?_
        repeat (go_big_quiet_step (first | (with_reducible exact rg (less_is hab _)) | (with_reducible exact rg (less_is hba _))))
        refine wpQuiet_nil ?_
        intro _ hw'
        obtain ⟨⟨dq, osq⟩, hw''⟩ := hw'
        subst hw''
        have z2 : Ext w1 (Sort.grow (redrawn w1 dq) osq) := below_regrown _ _ _
        clear g0a g0b g1a g1b g2a g2b
        generalize Sort.grow (redrawn w1 dq) osq = w2 at *
        obtain ⟨l0_2, p0_2, q0_2⟩ := Box.ext ⟨l0_1, p0_1, q0_1⟩ z2
        obtain ⟨l1_2, p1_2, q1_2⟩ := Box.ext ⟨l1_1, p1_1, q1_1⟩ z2
        obtain ⟨l2_2, p2_2, q2_2⟩ := Box.ext ⟨l2_1, p2_1, q2_1⟩ z2
        have Y2 : Ext w w2 := Y1.trans z2
        clear l0_1 p0_1 q0_1 l1_1 p1_1 q1_1 l2_1 p2_1 q2_1 z2 Y1
        go_wp2_with fail
        refine (less_is hab _).mono ?_; rintro e w3 ⟨rfl, x3⟩
        have z3 : Ext w2 w3 := (Ext.refl _).trans x3
        obtain ⟨l0_3, p0_3, q0_3⟩ := Box.ext ⟨l0_2, p0_2, q0_2⟩ z3
        obtain ⟨l1_3, p1_3, q1_3⟩ := Box.ext ⟨l1_2, p1_2, q1_2⟩ z3
        obtain ⟨l2_3, p2_3, q2_3⟩ := Box.ext ⟨l2_2, p2_2, q2_2⟩ z3
        have Y3 : Ext w w3 := Y2.trans z3
        clear l0_2 p0_2 q0_2 l1_2 p1_2 q1_2 l2_2 p2_2 q2_2 z3 x3 Y2
        go_wp2_with fail
        go_ret
        exact ⟨rfl, Y3⟩
      · have hba : lessB u d' u d = true := less_other hab (.inr h2)
        go_enter Try.func4, Try.ntmps4
        go_wp2_with fail
        refine (L05.awake_any _).mono ?_; rintro e w1 ⟨rfl, x1⟩
        obtain ⟨⟨l0_1, p0_1, q0_1⟩, ⟨l1_1, p1_1, q1_1⟩, ⟨l2_1, p2_1, q2_1⟩⟩ := boxes3 x1
        have Y1 : Ext w w1 := ((((Ext.refl _).alloc _).alloc _).alloc _).trans x1
        clear x1
        generalize w.heap.size = r0 at *
        go_wp2_with fail
        have g0a := cell_regrown p0_1; have g0b := cell_regrown q0_1
        have g1a := cell_regrown p1_1; have g1b := cell_regrown q1_1
        have g2a := cell_regrown p2_1; have g2b := cell_regrown q2_1
        refine wp_region_quiet_below (by kernel_rfl) (by kernel_rfl) ?_
        repeat (go_big_quiet_step (first | (with_reducible exact rg (less_is hab _)) | (with_reducible exact rg (less_is hba _))))
        refine wpQuiet_nil ?_
        intro _ hw'
        obtain ⟨⟨dq, osq⟩, hw''⟩ := hw'
        subst hw''
        have z2 : Ext w1 (Sort.grow (redrawn w1 dq) osq) := below_regrown _ _ _
        clear g0a g0b g1a g1b g2a g2b
        generalize Sort.grow (redrawn w1 dq) osq = w2 at *
        obtain ⟨l0_2, p0_2, q0_2⟩ := Box.ext ⟨l0_1, p0_1, q0_1⟩ z2
        obtain ⟨l1_2, p1_2, q1_2⟩ := Box.ext ⟨l1_1, p1_1, q1_1⟩ z2
        obtain ⟨l2_2, p2_2, q2_2⟩ := Box.ext ⟨l2_1, p2_1, q2_1⟩ z2
        have Y2 : Ext w w2 := Y1.trans z2
        clear l0_1 p0_1 q0_1 l1_1 p1_1 q1_1 l2_1 p2_1 q2_1 z2 Y1
        go_wp2_with fail
        refine (less_is hab _).mono ?_; rintro e w3 ⟨rfl, x3⟩
        have z3 : Ext w2 w3 := (Ext.refl _).trans x3
        obtain ⟨l0_3, p0_3, q0_3⟩ := Box.ext ⟨l0_2, p0_2, q0_2⟩ z3
        obtain ⟨l1_3, p1_3, q1_3⟩ := Box.ext ⟨l1_2, p1_2, q1_2⟩ z3
        obtain ⟨l2_3, p2_3, q2_3⟩ := Box.ext ⟨l2_2, p2_2, q2_2⟩ z3
        have Y3 : Ext w w3 := Y2.trans z3
        clear l0_2 p0_2 q0_2 l1_2 p1_2 q1_2 l2_2 p2_2 q2_2 z3 x3 Y2
        go_wp2_with fail
        go_ret
        exact ⟨rfl, Y3⟩
    · have hba : lessB u' d' u d = true := less_other hab (.inl h1)
      go_enter Try.func4, Try.ntmps4
      go_wp2_with fail
      refine (L05.awake_any _).mono ?_; rintro e w1 ⟨rfl, x1⟩
      obtain ⟨⟨l0_1, p0_1, q0_1⟩, ⟨l1_1, p1_1, q1_1⟩, ⟨l2_1, p2_1, q2_1⟩⟩ := boxes3 x1
      have Y1 : Ext w w1 := ((((Ext.refl _).alloc _).alloc _).alloc _).trans x1
      clear x1
      generalize w.heap.size = r0 at *
      go_wp2_with fail
      have g0a := cell_regrown p0_1; have g0b := cell_regrown q0_1
      have g1a := cell_regrown p1_1; have g1b := cell_regrown q1_1
      have g2a := cell_regrown p2_1; have g2b := cell_regrown q2_1
      refine wp_region_quiet_below (by kernel_rfl) (by kernel_rfl) ?_
      repeat (go_big_quiet_step (first | (with_reducible exact rg (less_is hab _)) | (with_reducible exact rg (less_is hba _))))
      refine wpQuiet_nil ?_
      intro _ hw'
      obtain ⟨⟨dq, osq⟩, hw''⟩ := hw'
      subst hw''
      have z2 : Ext w1 (Sort.grow (redrawn w1 dq) osq) := below_regrown _ _ _
      clear g0a g0b g1a g1b g2a g2b
      generalize Sort.grow (redrawn w1 dq) osq = w2 at *
      obtain ⟨l0_2, p0_2, q0_2⟩ := Box.ext ⟨l0_1, p0_1, q0_1⟩ z2
      obtain ⟨l1_2, p1_2, q1_2⟩ := Box.ext ⟨l1_1, p1_1, q1_1⟩ z2
      obtain ⟨l2_2, p2_2, q2_2⟩ := Box.ext ⟨l2_1, p2_1, q2_1⟩ z2
      have Y2 : Ext w w2 := Y1.trans z2
      clear l0_1 p0_1 q0_1 l1_1 p1_1 q1_1 l2_1 p2_1 q2_1 z2 Y1
      go_wp2_with fail
      refine (less_is hab _).mono ?_; rintro e w3 ⟨rfl, x3⟩
      have z3 : Ext w2 w3 := (Ext.refl _).trans x3
      obtain ⟨l0_3, p0_3, q0_3⟩ := Box.ext ⟨l0_2, p0_2, q0_2⟩ z3
      obtain ⟨l1_3, p1_3, q1_3⟩ := Box.ext ⟨l1_2, p1_2, q1_2⟩ z3
      obtain ⟨l2_3, p2_3, q2_3⟩ := Box.ext ⟨l2_2, p2_2, q2_2⟩ z3
      have Y3 : Ext w w3 := Y2.trans z3
      clear l0_2 p0_2 q0_2 l1_2 p1_2 q1_2 l2_2 p2_2 q2_2 z3 x3 Y2
      go_wp2_with fail
      go_ret
      exact ⟨rfl, Y3⟩

theorem walk (a0 b0 : Int) (_ : -9223372036854775808 ≤ a0 ∧ a0 ≤ 9223372036854775807) (_ : -9223372036854775808 ≤ b0 ∧ b0 ≤ 9223372036854775807) (a1 b1 : Int) (_ : -9223372036854775808 ≤ a1 ∧ a1 ≤ 9223372036854775807) (_ : -9223372036854775808 ≤ b1 ∧ b1 ≤ 9223372036854775807) (a2 b2 : Int) (_ : -9223372036854775808 ≤ a2 ∧ a2 ≤ 9223372036854775807) (_ : -9223372036854775808 ≤ b2 ∧ b2 ≤ 9223372036854775807) (w : World) :
    Calls Try.prog 4 #[.agg #[.int .i64 a0, .int .i64 b0], .agg #[.int .i64 a1, .int .i64 b1], .agg #[.int .i64 a2, .int .i64 b2]] w (Ret w (.bool true)) := way a0 b0 a1 b1 a2 b2 w

set_option maxRecDepth 100000 in
theorem lifted (os : Os) (started : os.Started) (H : Type) (enc : TypeId × Value → H) :
    ReturnsInHanded {} Try.checked os 4 .any (Rows.costOrderSpec.pre6 enc Try.prog Try.f4 [] false) (Rows.costOrderSpec.post enc Try.prog Try.f4 false true false false) := by
  refine law_lift (C := Try.checked) own started (by kernel_rfl) Try.func4 laidOut rfl rfl Try.underlying4 (by kernel_rfl) ?_
    (ChangeSpec.witness6 (enc := enc) (C := Try.checked) false ⟨#[], #[.agg #[.int .i64 0, .int .i64 0], .agg #[.int .i64 0, .int .i64 0], .agg #[.int .i64 0, .int .i64 0]], []⟩ 8 (by kernel_rfl) (by kernel_rfl) (by kernel_rfl) (by kernel_rfl)) ?_
  · intro H ds h
    match ds, h with
    | [_, _, _], _ => rfl
  · intro W base args ds p hval hA hlt hwt hsh
    rw [Try.params4] at hA hval
    obtain ⟨v0, vs0, d0, ds0, p0, q0, hargs, rfl, rfl, h0, r0⟩ := trodAll_cons hA
    obtain ⟨v1, vs1, d1, ds1, p1, q1, rfl, rfl, rfl, h1, r1⟩ := trodAll_cons r0
    obtain ⟨v2, vs2, d2, ds2, p2, q2, rfl, rfl, rfl, h2, r2⟩ := trodAll_cons r1
    obtain ⟨rfl, rfl, rfl⟩ := trodAll_nil r2
    obtain rfl : args = #[v0, v1, v2] := by cases args; simp_all
    obtain ⟨a0, b0, rfl, wa0, wb0⟩ := arg_pair Try.underlying23 (by kernel_rfl) (by kernel_rfl) Try.underlying3 Try.underlying3 (hval 0 23 v0 rfl rfl) h0
    obtain ⟨a1, b1, rfl, wa1, wb1⟩ := arg_pair Try.underlying23 (by kernel_rfl) (by kernel_rfl) Try.underlying3 Try.underlying3 (hval 1 23 v1 rfl rfl) h1
    obtain ⟨a2, b2, rfl, wa2, wb2⟩ := arg_pair Try.underlying23 (by kernel_rfl) (by kernel_rfl) Try.underlying3 Try.underlying3 (hval 2 23 v2 rfl rfl) h2
    exact walk a0 b0 (bounds_i64 wa0) (bounds_i64 wb0) a1 b1 (bounds_i64 wa1) (bounds_i64 wb1) a2 b2 (bounds_i64 wa2) (bounds_i64 wb2) W 

theorem holds : Rows.CostOrderSaid :=
  OpenClaim.holds_of_wide 4 Try.f4 rfl rfl rfl rfl rfl rfl rfl ⟨rfl, rfl, rfl, rfl, rfl⟩ rfl rfl rfl rfl rfl (by kernel_rfl) Try.func4 (by kernel_rfl)
    (of_decide_eq_true (by kernel_rfl)) (by unfold Func.isWrapper; first | (rw [if_pos (by decide +kernel)]; kernel_rfl) | (rw [if_neg (by decide +kernel)]; exact ⟨rfl, rfl⟩))
    (fun os started H enc _ => lifted os started H enc)
end CostOrder
end Go.Proofs.Yticnkdabaebifaa

