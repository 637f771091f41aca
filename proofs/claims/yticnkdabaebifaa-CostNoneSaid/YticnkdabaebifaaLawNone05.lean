/- CostNone: an empty cost adds nothing, and two together are no less than one, if the other one is not below an empty one: for every input. -/
import Derived.Test.YticnkdabaebifaaAwake05
import Derived.OpenShut
namespace Go.Proofs.Yticnkdabaebifaa
open Go.ChangeShapes Go.WideShapes Go.ChangeAt Go.RowKit Go.Joins Go.Deep
namespace CostNone
open L05

set_option maxHeartbeats 1000000 in
theorem way (u d u' d' : Int) (w : World) : Calls Try.prog 7 #[.agg #[.int .i64 u, .int .i64 d], .agg #[.int .i64 u', .int .i64 d']] w (Ret w (.bool true)) := by
  cases h1 : mayB u d with
  | false =>
    have s1 := sumV_no (u := u) (d := d) (u' := 0) (d' := 0) (by rw [addB_zero]; exact h1)
    have s2 := sumV_no (u := u) (d := d) (u' := u') (d' := d') (by unfold addB; rw [h1]; rfl)
    go_enter Try.func7, Try.ntmps7
    go_wp2_with fail
    refine (L05.awake_any _).mono ?_; rintro e w1 ⟨rfl, x1⟩
    obtain ⟨⟨l0_1, p0_1, q0_1⟩, ⟨l1_1, p1_1, q1_1⟩⟩ := boxes2 x1
    have Y1 : Ext w w1 := (((Ext.refl _).alloc _).alloc _).trans x1
    clear x1
    generalize w.heap.size = r0 at *
    go_wp2_with fail
    refine (add_is s1 _).mono ?_; rintro e w2 ⟨rfl, x2⟩
    have z2 : Ext w1 w2 := (Ext.refl _).trans x2
    obtain ⟨l0_2, p0_2, q0_2⟩ := Box.ext ⟨l0_1, p0_1, q0_1⟩ z2
    obtain ⟨l1_2, p1_2, q1_2⟩ := Box.ext ⟨l1_1, p1_1, q1_1⟩ z2
    have Y2 : Ext w w2 := Y1.trans z2
    clear l0_1 p0_1 q0_1 l1_1 p1_1 q1_1 z2 x2 Y1
    go_wp2_with fail
    refine (add_is s2 _).mono ?_; rintro e w3 ⟨rfl, x3⟩
    have z3 : Ext w2 w3 := ((Ext.refl _).alloc _).trans x3
    obtain ⟨l0_3, p0_3, q0_3⟩ := Box.ext ⟨l0_2, p0_2, q0_2⟩ z3
    obtain ⟨l1_3, p1_3, q1_3⟩ := Box.ext ⟨l1_2, p1_2, q1_2⟩ z3
    obtain ⟨l2_3, p2_3, q2_3⟩ := (Box.new w2 0 0 23).ext x3
    have Y3 : Ext w w3 := Y2.trans z3
    clear l0_2 p0_2 q0_2 l1_2 p1_2 q1_2 z3 x3 Y2
    generalize w2.heap.size = r3 at *
    go_wp2_with fail
    obtain ⟨l3_4, p3_4, q3_4⟩ := Box.new w3 0 0 23
    have z4 : Ext w3 (w3.alloc (.cells #[.int .i64 0, .int .i64 0] 23)) := (Ext.refl _).alloc _
    generalize w3.alloc (.cells #[.int .i64 0, .int .i64 0] 23) = w4 at *
    obtain ⟨l0_4, p0_4, q0_4⟩ := Box.ext ⟨l0_3, p0_3, q0_3⟩ z4
    obtain ⟨l1_4, p1_4, q1_4⟩ := Box.ext ⟨l1_3, p1_3, q1_3⟩ z4
    obtain ⟨l2_4, p2_4, q2_4⟩ := Box.ext ⟨l2_3, p2_3, q2_3⟩ z4
    have Y4 : Ext w w4 := Y3.trans z4
    clear l0_3 p0_3 q0_3 l1_3 p1_3 q1_3 l2_3 p2_3 q2_3 z4 Y3
    generalize w3.heap.size = r4 at *
    refine (check_is h1 _).mono ?_; rintro e w5 ⟨rfl, x5⟩
    have z5 : Ext w4 w5 := (Ext.refl _).trans x5
    obtain ⟨l0_5, p0_5, q0_5⟩ := Box.ext ⟨l0_4, p0_4, q0_4⟩ z5
    obtain ⟨l1_5, p1_5, q1_5⟩ := Box.ext ⟨l1_4, p1_4, q1_4⟩ z5
    obtain ⟨l2_5, p2_5, q2_5⟩ := Box.ext ⟨l2_4, p2_4, q2_4⟩ z5
    obtain ⟨l3_5, p3_5, q3_5⟩ := Box.ext ⟨l3_4, p3_4, q3_4⟩ z5
    have Y5 : Ext w w5 := Y4.trans z5
    clear l0_4 p0_4 q0_4 l1_4 p1_4 q1_4 l2_4 p2_4 q2_4 l3_4 p3_4 q3_4 z5 x5 Y4
    go_wp2_with fail
    go_ret
    exact ⟨rfl, Y5⟩
  | true =>
    have s1 := sumV_zero h1
    cases h2 : addB u d u' d' with
    | false =>
      have s2 := sumV_no h2
      go_enter Try.func7, Try.ntmps7
      go_wp2_with fail
      refine (L05.awake_any _).mono ?_; rintro e w1 ⟨rfl, x1⟩
      obtain ⟨⟨l0_1, p0_1, q0_1⟩, ⟨l1_1, p1_1, q1_1⟩⟩ := boxes2 x1
      have Y1 : Ext w w1 := (((Ext.refl _).alloc _).alloc _).trans x1
      clear x1
      generalize w.heap.size = r0 at *
      go_wp2_with fail
      refine (add_is s1 _).mono ?_; rintro e w2 ⟨rfl, x2⟩
      have z2 : Ext w1 w2 := (Ext.refl _).trans x2
      obtain ⟨l0_2, p0_2, q0_2⟩ := Box.ext ⟨l0_1, p0_1, q0_1⟩ z2
      obtain ⟨l1_2, p1_2, q1_2⟩ := Box.ext ⟨l1_1, p1_1, q1_1⟩ z2
      have Y2 : Ext w w2 := Y1.trans z2
      clear l0_1 p0_1 q0_1 l1_1 p1_1 q1_1 z2 x2 Y1
      go_wp2_with fail
      refine (add_is s2 _).mono ?_; rintro e w3 ⟨rfl, x3⟩
      have z3 : Ext w2 w3 := ((Ext.refl _).alloc _).trans x3
      obtain ⟨l0_3, p0_3, q0_3⟩ := Box.ext ⟨l0_2, p0_2, q0_2⟩ z3
      obtain ⟨l1_3, p1_3, q1_3⟩ := Box.ext ⟨l1_2, p1_2, q1_2⟩ z3
      obtain ⟨l2_3, p2_3, q2_3⟩ := (Box.new w2 u d 23).ext x3
      have Y3 : Ext w w3 := Y2.trans z3
      clear l0_2 p0_2 q0_2 l1_2 p1_2 q1_2 z3 x3 Y2
      generalize w2.heap.size = r3 at *
      go_wp2_with fail
      obtain ⟨l3_4, p3_4, q3_4⟩ := Box.new w3 0 0 23
      have z4 : Ext w3 (w3.alloc (.cells #[.int .i64 0, .int .i64 0] 23)) := (Ext.refl _).alloc _
      generalize w3.alloc (.cells #[.int .i64 0, .int .i64 0] 23) = w4 at *
      obtain ⟨l0_4, p0_4, q0_4⟩ := Box.ext ⟨l0_3, p0_3, q0_3⟩ z4
      obtain ⟨l1_4, p1_4, q1_4⟩ := Box.ext ⟨l1_3, p1_3, q1_3⟩ z4
      obtain ⟨l2_4, p2_4, q2_4⟩ := Box.ext ⟨l2_3, p2_3, q2_3⟩ z4
      have Y4 : Ext w w4 := Y3.trans z4
      clear l0_3 p0_3 q0_3 l1_3 p1_3 q1_3 l2_3 p2_3 q2_3 z4 Y3
      generalize w3.heap.size = r4 at *
      refine (check_is h1 _).mono ?_; rintro e w5 ⟨rfl, x5⟩
      have z5 : Ext w4 w5 := (Ext.refl _).trans x5
      obtain ⟨l0_5, p0_5, q0_5⟩ := Box.ext ⟨l0_4, p0_4, q0_4⟩ z5
      obtain ⟨l1_5, p1_5, q1_5⟩ := Box.ext ⟨l1_4, p1_4, q1_4⟩ z5
      obtain ⟨l2_5, p2_5, q2_5⟩ := Box.ext ⟨l2_4, p2_4, q2_4⟩ z5
      obtain ⟨l3_5, p3_5, q3_5⟩ := Box.ext ⟨l3_4, p3_4, q3_4⟩ z5
      have Y5 : Ext w w5 := Y4.trans z5
      clear l0_4 p0_4 q0_4 l1_4 p1_4 q1_4 l2_4 p2_4 q2_4 l3_4 p3_4 q3_4 z5 x5 Y4
      go_wp2_with fail
      go_ret
      exact ⟨rfl, Y5⟩
    | true =>
      have s2 := sumV_yes h2
      cases h3 : lessB u' d' 0 0 with
      | true =>
        go_enter Try.func7, Try.ntmps7
        go_wp2_with fail
        refine (L05.awake_any _).mono ?_; rintro e w1 ⟨rfl, x1⟩
        obtain ⟨⟨l0_1, p0_1, q0_1⟩, ⟨l1_1, p1_1, q1_1⟩⟩ := boxes2 x1
        have Y1 : Ext w w1 := (((Ext.refl _).alloc _).alloc _).trans x1
        clear x1
        generalize w.heap.size = r0 at *
        go_wp2_with fail
        refine (add_is s1 _).mono ?_; rintro e w2 ⟨rfl, x2⟩
        have z2 : Ext w1 w2 := (Ext.refl _).trans x2
        obtain ⟨l0_2, p0_2, q0_2⟩ := Box.ext ⟨l0_1, p0_1, q0_1⟩ z2
        obtain ⟨l1_2, p1_2, q1_2⟩ := Box.ext ⟨l1_1, p1_1, q1_1⟩ z2
        have Y2 : Ext w w2 := Y1.trans z2
        clear l0_1 p0_1 q0_1 l1_1 p1_1 q1_1 z2 x2 Y1
        go_wp2_with fail
        refine (add_is s2 _).mono ?_; rintro e w3 ⟨rfl, x3⟩
        have z3 : Ext w2 w3 := ((Ext.refl _).alloc _).trans x3
        obtain ⟨l0_3, p0_3, q0_3⟩ := Box.ext ⟨l0_2, p0_2, q0_2⟩ z3
        obtain ⟨l1_3, p1_3, q1_3⟩ := Box.ext ⟨l1_2, p1_2, q1_2⟩ z3
        obtain ⟨l2_3, p2_3, q2_3⟩ := (Box.new w2 u d 23).ext x3
        have Y3 : Ext w w3 := Y2.trans z3
        clear l0_2 p0_2 q0_2 l1_2 p1_2 q1_2 z3 x3 Y2
        generalize w2.heap.size = r3 at *
        go_wp2_with fail
        obtain ⟨l3_4, p3_4, q3_4⟩ := Box.new w3 (u + u') (d + d') 23
        have z4 : Ext w3 (w3.alloc (.cells #[.int .i64 (u + u'), .int .i64 (d + d')] 23)) := (Ext.refl _).alloc _
        generalize w3.alloc (.cells #[.int .i64 (u + u'), .int .i64 (d + d')] 23) = w4 at *
        obtain ⟨l0_4, p0_4, q0_4⟩ := Box.ext ⟨l0_3, p0_3, q0_3⟩ z4
        obtain ⟨l1_4, p1_4, q1_4⟩ := Box.ext ⟨l1_3, p1_3, q1_3⟩ z4
        obtain ⟨l2_4, p2_4, q2_4⟩ := Box.ext ⟨l2_3, p2_3, q2_3⟩ z4
        have Y4 : Ext w w4 := Y3.trans z4
        clear l0_3 p0_3 q0_3 l1_3 p1_3 q1_3 l2_3 p2_3 q2_3 z4 Y3
        generalize w3.heap.size = r4 at *
        refine (less_is h3 _).mono ?_; rintro e w5 ⟨rfl, x5⟩
        have z5 : Ext w4 w5 := (Ext.refl _).trans x5
        obtain ⟨l0_5, p0_5, q0_5⟩ := Box.ext ⟨l0_4, p0_4, q0_4⟩ z5
        obtain ⟨l1_5, p1_5, q1_5⟩ := Box.ext ⟨l1_4, p1_4, q1_4⟩ z5
        obtain ⟨l2_5, p2_5, q2_5⟩ := Box.ext ⟨l2_4, p2_4, q2_4⟩ z5
        obtain ⟨l3_5, p3_5, q3_5⟩ := Box.ext ⟨l3_4, p3_4, q3_4⟩ z5
        have Y5 : Ext w w5 := Y4.trans z5
        clear l0_4 p0_4 q0_4 l1_4 p1_4 q1_4 l2_4 p2_4 q2_4 l3_4 p3_4 q3_4 z5 x5 Y4
        go_wp2_with fail
        refine (check_is h1 _).mono ?_; rintro e w6 ⟨rfl, x6⟩
        have z6 : Ext w5 w6 := (Ext.refl _).trans x6
        obtain ⟨l0_6, p0_6, q0_6⟩ := Box.ext ⟨l0_5, p0_5, q0_5⟩ z6
        obtain ⟨l1_6, p1_6, q1_6⟩ := Box.ext ⟨l1_5, p1_5, q1_5⟩ z6
        obtain ⟨l2_6, p2_6, q2_6⟩ := Box.ext ⟨l2_5, p2_5, q2_5⟩ z6
        obtain ⟨l3_6, p3_6, q3_6⟩ := Box.ext ⟨l3_5, p3_5, q3_5⟩ z6
        have Y6 : Ext w w6 := Y5.trans z6
        clear l0_5 p0_5 q0_5 l1_5 p1_5 q1_5 l2_5 p2_5 q2_5 l3_5 p3_5 q3_5 z6 x6 Y5
        go_wp2_with fail
        go_ret
        exact ⟨rfl, Y6⟩
      | false =>
        have h4 : lessB (u + u') (d + d') u d = false := by
          rw [lessB_no] at h3 ⊢; omega
        go_enter Try.func7, Try.ntmps7
        go_wp2_with fail
        refine (L05.awake_any _).mono ?_; rintro e w1 ⟨rfl, x1⟩
        obtain ⟨⟨l0_1, p0_1, q0_1⟩, ⟨l1_1, p1_1, q1_1⟩⟩ := boxes2 x1
        have Y1 : Ext w w1 := (((Ext.refl _).alloc _).alloc _).trans x1
        clear x1
        generalize w.heap.size = r0 at *
        go_wp2_with fail
        refine (add_is s1 _).mono ?_; rintro e w2 ⟨rfl, x2⟩
        have z2 : Ext w1 w2 := (Ext.refl _).trans x2
        obtain ⟨l0_2, p0_2, q0_2⟩ := Box.ext ⟨l0_1, p0_1, q0_1⟩ z2
        obtain ⟨l1_2, p1_2, q1_2⟩ := Box.ext ⟨l1_1, p1_1, q1_1⟩ z2
        have Y2 : Ext w w2 := Y1.trans z2
        clear l0_1 p0_1 q0_1 l1_1 p1_1 q1_1 z2 x2 Y1
        go_wp2_with fail
        refine (add_is s2 _).mono ?_; rintro e w3 ⟨rfl, x3⟩
        have z3 : Ext w2 w3 := ((Ext.refl _).alloc _).trans x3
        obtain ⟨l0_3, p0_3, q0_3⟩ := Box.ext ⟨l0_2, p0_2, q0_2⟩ z3
        obtain ⟨l1_3, p1_3, q1_3⟩ := Box.ext ⟨l1_2, p1_2, q1_2⟩ z3
        obtain ⟨l2_3, p2_3, q2_3⟩ := (Box.new w2 u d 23).ext x3
        have Y3 : Ext w w3 := Y2.trans z3
        clear l0_2 p0_2 q0_2 l1_2 p1_2 q1_2 z3 x3 Y2
        generalize w2.heap.size = r3 at *
        go_wp2_with fail
        obtain ⟨l3_4, p3_4, q3_4⟩ := Box.new w3 (u + u') (d + d') 23
        have z4 : Ext w3 (w3.alloc (.cells #[.int .i64 (u + u'), .int .i64 (d + d')] 23)) := (Ext.refl _).alloc _
        generalize w3.alloc (.cells #[.int .i64 (u + u'), .int .i64 (d + d')] 23) = w4 at *
        obtain ⟨l0_4, p0_4, q0_4⟩ := Box.ext ⟨l0_3, p0_3, q0_3⟩ z4
        obtain ⟨l1_4, p1_4, q1_4⟩ := Box.ext ⟨l1_3, p1_3, q1_3⟩ z4
        obtain ⟨l2_4, p2_4, q2_4⟩ := Box.ext ⟨l2_3, p2_3, q2_3⟩ z4
        have Y4 : Ext w w4 := Y3.trans z4
        clear l0_3 p0_3 q0_3 l1_3 p1_3 q1_3 l2_3 p2_3 q2_3 z4 Y3
        generalize w3.heap.size = r4 at *
        refine (less_is h3 _).mono ?_; rintro e w5 ⟨rfl, x5⟩
        have z5 : Ext w4 w5 := (Ext.refl _).trans x5
        obtain ⟨l0_5, p0_5, q0_5⟩ := Box.ext ⟨l0_4, p0_4, q0_4⟩ z5
        obtain ⟨l1_5, p1_5, q1_5⟩ := Box.ext ⟨l1_4, p1_4, q1_4⟩ z5
        obtain ⟨l2_5, p2_5, q2_5⟩ := Box.ext ⟨l2_4, p2_4, q2_4⟩ z5
        obtain ⟨l3_5, p3_5, q3_5⟩ := Box.ext ⟨l3_4, p3_4, q3_4⟩ z5
        have Y5 : Ext w w5 := Y4.trans z5
        clear l0_4 p0_4 q0_4 l1_4 p1_4 q1_4 l2_4 p2_4 q2_4 l3_4 p3_4 q3_4 z5 x5 Y4
        go_wp2_with fail
        refine (less_is h4 _).mono ?_; rintro e w6 ⟨rfl, x6⟩
        have z6 : Ext w5 w6 := (Ext.refl _).trans x6
        obtain ⟨l0_6, p0_6, q0_6⟩ := Box.ext ⟨l0_5, p0_5, q0_5⟩ z6
        obtain ⟨l1_6, p1_6, q1_6⟩ := Box.ext ⟨l1_5, p1_5, q1_5⟩ z6
        obtain ⟨l2_6, p2_6, q2_6⟩ := Box.ext ⟨l2_5, p2_5, q2_5⟩ z6
        obtain ⟨l3_6, p3_6, q3_6⟩ := Box.ext ⟨l3_5, p3_5, q3_5⟩ z6
        have Y6 : Ext w w6 := Y5.trans z6
        clear l0_5 p0_5 q0_5 l1_5 p1_5 q1_5 l2_5 p2_5 q2_5 l3_5 p3_5 q3_5 z6 x6 Y5
        go_wp2_with fail
        refine (check_is h1 _).mono ?_; rintro e w7 ⟨rfl, x7⟩
        have z7 : Ext w6 w7 := (Ext.refl _).trans x7
        obtain ⟨l0_7, p0_7, q0_7⟩ := Box.ext ⟨l0_6, p0_6, q0_6⟩ z7
        obtain ⟨l1_7, p1_7, q1_7⟩ := Box.ext ⟨l1_6, p1_6, q1_6⟩ z7
        obtain ⟨l2_7, p2_7, q2_7⟩ := Box.ext ⟨l2_6, p2_6, q2_6⟩ z7
        obtain ⟨l3_7, p3_7, q3_7⟩ := Box.ext ⟨l3_6, p3_6, q3_6⟩ z7
        have Y7 : Ext w w7 := Y6.trans z7
        clear l0_6 p0_6 q0_6 l1_6 p1_6 q1_6 l2_6 p2_6 q2_6 l3_6 p3_6 q3_6 z7 x7 Y6
        go_wp2_with fail
        go_ret
        exact ⟨rfl, Y7⟩

theorem walk (a0 b0 : Int) (_ : -9223372036854775808 ≤ a0 ∧ a0 ≤ 9223372036854775807) (_ : -9223372036854775808 ≤ b0 ∧ b0 ≤ 9223372036854775807) (a1 b1 : Int) (_ : -9223372036854775808 ≤ a1 ∧ a1 ≤ 9223372036854775807) (_ : -9223372036854775808 ≤ b1 ∧ b1 ≤ 9223372036854775807) (w : World) :
    Calls Try.prog 7 #[.agg #[.int .i64 a0, .int .i64 b0], .agg #[.int .i64 a1, .int .i64 b1]] w (Ret w (.bool true)) := way a0 b0 a1 b1 w

set_option maxRecDepth 100000 in
theorem lifted (os : Os) (started : os.Started) (H : Type) (enc : TypeId × Value → H) :
    ReturnsInHanded {} Try.checked os 7 .any (Rows.costNoneSpec.pre6 enc Try.prog Try.f7 [] false) (Rows.costNoneSpec.post enc Try.prog Try.f7 false true false false) := by
  refine law_lift (C := Try.checked) own started (by kernel_rfl) Try.func7 laidOut rfl rfl Try.underlying4 (by kernel_rfl) ?_
    (ChangeSpec.witness6 (enc := enc) (C := Try.checked) false ⟨#[], #[.agg #[.int .i64 0, .int .i64 0], .agg #[.int .i64 0, .int .i64 0]], []⟩ 8 (by kernel_rfl) (by kernel_rfl) (by kernel_rfl) (by kernel_rfl)) ?_
  · intro H ds h
    match ds, h with
    | [_, _], _ => rfl
  · intro W base args ds p hval hA hlt hwt hsh
    rw [Try.params7] at hA hval
    obtain ⟨v0, vs0, d0, ds0, p0, q0, hargs, rfl, rfl, h0, r0⟩ := trodAll_cons hA
    obtain ⟨v1, vs1, d1, ds1, p1, q1, rfl, rfl, rfl, h1, r1⟩ := trodAll_cons r0
    obtain ⟨rfl, rfl, rfl⟩ := trodAll_nil r1
    obtain rfl : args = #[v0, v1] := by cases args; simp_all
    obtain ⟨a0, b0, rfl, wa0, wb0⟩ := arg_pair Try.underlying23 (by kernel_rfl) (by kernel_rfl) Try.underlying3 Try.underlying3 (hval 0 23 v0 rfl rfl) h0
    obtain ⟨a1, b1, rfl, wa1, wb1⟩ := arg_pair Try.underlying23 (by kernel_rfl) (by kernel_rfl) Try.underlying3 Try.underlying3 (hval 1 23 v1 rfl rfl) h1
    exact walk a0 b0 (bounds_i64 wa0) (bounds_i64 wb0) a1 b1 (bounds_i64 wa1) (bounds_i64 wb1) W 

theorem holds : Rows.CostNoneSaid :=
  OpenClaim.holds_of_wide 7 Try.f7 rfl rfl rfl rfl rfl rfl rfl ⟨rfl, rfl, rfl, rfl, rfl⟩ rfl rfl rfl rfl rfl (by kernel_rfl) Try.func7 (by kernel_rfl)
    (of_decide_eq_true (by kernel_rfl)) (by unfold Func.isWrapper; first | (rw [if_pos (by decide +kernel)]; kernel_rfl) | (rw [if_neg (by decide +kernel)]; exact ⟨rfl, rfl⟩))
    (fun os started H enc _ => lifted os started H enc)
end CostNone
end Go.Proofs.Yticnkdabaebifaa

