/- CostRises: what costs less than what costs less than another one costs less than that; and sums do not hang on their order, nor on how they are grouped, if all may be: for every input. -/
import Derived.Test.YticnkdabaebifaaAwake05
import Derived.OpenShut
namespace Go.Proofs.Yticnkdabaebifaa
open Go.ChangeShapes Go.WideShapes Go.ChangeAt Go.RowKit Go.Joins Go.Deep
namespace CostRises
open L05

theorem group {u d u' d' p q : Int} (h1 : addB u d u' d' = true) (h3 : addB u' d' p q = true) (h4 : addB (u + u') (d + d') p q = true) : addB u d (u' + p) (d' + q) = true := by
  unfold addB at *
  simp only [Bool.and_eq_true] at *
  rw [← Int.add_assoc, ← Int.add_assoc]
  exact ⟨⟨h1.1.1, h3.2⟩, h4.2⟩

set_option maxHeartbeats 2000000 in
theorem wayA (u d u' d' p q : Int) (w : World) (hab : lessB u d u' d' = true) (hbc : lessB u' d' p q = true) : Calls Try.prog 8 #[.agg #[.int .i64 u, .int .i64 d], .agg #[.int .i64 u', .int .i64 d'], .agg #[.int .i64 p, .int .i64 q]] w (Ret w (.bool true)) := by
  have haa := less_self u d
  have hba : lessB u' d' u d = false := less_not hab
  have hac : lessB u d p q = true := less_trans hab hbc
  cases h1 : addB u d u' d' with
  | false =>
    have s1 := sumV_no h1
    have s2 := s1
    rw [sumV_comm] at s2
    obtain ⟨x3, y3, e3, s3⟩ := sumV_some u' d' p q
    obtain ⟨x4, y4, e4, s4⟩ := sumV_some 0 0 p q
    obtain ⟨x5, y5, e5, s5⟩ := sumV_some u d x3 y3
    go_enter Try.func8, Try.ntmps8
    go_wp2_with fail
    refine (L05.awake_any _).mono ?_; rintro e w1 ⟨rfl, x1⟩
    obtain ⟨⟨l0_1, p0_1, q0_1⟩, ⟨l1_1, p1_1, q1_1⟩, ⟨l2_1, p2_1, q2_1⟩⟩ := boxes3 x1
    have Y1 : Ext w w1 := ((((Ext.refl _).alloc _).alloc _).alloc _).trans x1
    clear x1
    generalize w.heap.size = r0 at *
    go_wp2_with fail
    refine (less_is hab _).mono ?_; rintro e w2 ⟨rfl, x2⟩
    have z2 : Ext w1 w2 := (Ext.refl _).trans x2
    obtain ⟨l0_2, p0_2, q0_2⟩ := Box.ext ⟨l0_1, p0_1, q0_1⟩ z2
    obtain ⟨l1_2, p1_2, q1_2⟩ := Box.ext ⟨l1_1, p1_1, q1_1⟩ z2
    obtain ⟨l2_2, p2_2, q2_2⟩ := Box.ext ⟨l2_1, p2_1, q2_1⟩ z2
    have Y2 : Ext w w2 := Y1.trans z2
    clear l0_1 p0_1 q0_1 l1_1 p1_1 q1_1 l2_1 p2_1 q2_1 z2 x2 Y1
    go_wp2_with fail
    refine (less_is hbc _).mono ?_; rintro e w3 ⟨rfl, x3⟩
    have z3 : Ext w2 w3 := (Ext.refl _).trans x3
    obtain ⟨l0_3, p0_3, q0_3⟩ := Box.ext ⟨l0_2, p0_2, q0_2⟩ z3
    obtain ⟨l1_3, p1_3, q1_3⟩ := Box.ext ⟨l1_2, p1_2, q1_2⟩ z3
    obtain ⟨l2_3, p2_3, q2_3⟩ := Box.ext ⟨l2_2, p2_2, q2_2⟩ z3
    have Y3 : Ext w w3 := Y2.trans z3
    clear l0_2 p0_2 q0_2 l1_2 p1_2 q1_2 l2_2 p2_2 q2_2 z3 x3 Y2
    go_wp2_with fail
    refine (less_is hac _).mono ?_; rintro e w4 ⟨rfl, x4⟩
    have z4 : Ext w3 w4 := (Ext.refl _).trans x4
    obtain ⟨l0_4, p0_4, q0_4⟩ := Box.ext ⟨l0_3, p0_3, q0_3⟩ z4
    obtain ⟨l1_4, p1_4, q1_4⟩ := Box.ext ⟨l1_3, p1_3, q1_3⟩ z4
    obtain ⟨l2_4, p2_4, q2_4⟩ := Box.ext ⟨l2_3, p2_3, q2_3⟩ z4
    have Y4 : Ext w w4 := Y3.trans z4
    clear l0_3 p0_3 q0_3 l1_3 p1_3 q1_3 l2_3 p2_3 q2_3 z4 x4 Y3
    go_wp2_with fail
    refine (less_is haa _).mono ?_; rintro e w5 ⟨rfl, x5⟩
    have z5 : Ext w4 w5 := (Ext.refl _).trans x5
    obtain ⟨l0_5, p0_5, q0_5⟩ := Box.ext ⟨l0_4, p0_4, q0_4⟩ z5
    obtain ⟨l1_5, p1_5, q1_5⟩ := Box.ext ⟨l1_4, p1_4, q1_4⟩ z5
    obtain ⟨l2_5, p2_5, q2_5⟩ := Box.ext ⟨l2_4, p2_4, q2_4⟩ z5
    have Y5 : Ext w w5 := Y4.trans z5
    clear l0_4 p0_4 q0_4 l1_4 p1_4 q1_4 l2_4 p2_4 q2_4 z5 x5 Y4
    go_wp2_with fail
    refine (less_is hab _).mono ?_; rintro e w6 ⟨rfl, x6⟩
    have z6 : Ext w5 w6 := (Ext.refl _).trans x6
    obtain ⟨l0_6, p0_6, q0_6⟩ := Box.ext ⟨l0_5, p0_5, q0_5⟩ z6
    obtain ⟨l1_6, p1_6, q1_6⟩ := Box.ext ⟨l1_5, p1_5, q1_5⟩ z6
    obtain ⟨l2_6, p2_6, q2_6⟩ := Box.ext ⟨l2_5, p2_5, q2_5⟩ z6
    have Y6 : Ext w w6 := Y5.trans z6
    clear l0_5 p0_5 q0_5 l1_5 p1_5 q1_5 l2_5 p2_5 q2_5 z6 x6 Y5
    go_wp2_with fail
    refine (less_is hba _).mono ?_; rintro e w7 ⟨rfl, x7⟩
    have z7 : Ext w6 w7 := (Ext.refl _).trans x7
    obtain ⟨l0_7, p0_7, q0_7⟩ := Box.ext ⟨l0_6, p0_6, q0_6⟩ z7
    obtain ⟨l1_7, p1_7, q1_7⟩ := Box.ext ⟨l1_6, p1_6, q1_6⟩ z7
    obtain ⟨l2_7, p2_7, q2_7⟩ := Box.ext ⟨l2_6, p2_6, q2_6⟩ z7
    have Y7 : Ext w w7 := Y6.trans z7
    clear l0_6 p0_6 q0_6 l1_6 p1_6 q1_6 l2_6 p2_6 q2_6 z7 x7 Y6
    go_wp2_with fail
    refine (add_is s1 _).mono ?_; rintro e w8 ⟨rfl, x8⟩
    have z8 : Ext w7 w8 := (Ext.refl _).trans x8
    obtain ⟨l0_8, p0_8, q0_8⟩ := Box.ext ⟨l0_7, p0_7, q0_7⟩ z8
    obtain ⟨l1_8, p1_8, q1_8⟩ := Box.ext ⟨l1_7, p1_7, q1_7⟩ z8
    obtain ⟨l2_8, p2_8, q2_8⟩ := Box.ext ⟨l2_7, p2_7, q2_7⟩ z8
    have Y8 : Ext w w8 := Y7.trans z8
    clear l0_7 p0_7 q0_7 l1_7 p1_7 q1_7 l2_7 p2_7 q2_7 z8 x8 Y7
    go_wp2_with fail
    refine (add_is s2 _).mono ?_; rintro e w9 ⟨rfl, x9⟩
    have z9 : Ext w8 w9 := ((Ext.refl _).alloc _).trans x9
    obtain ⟨l0_9, p0_9, q0_9⟩ := Box.ext ⟨l0_8, p0_8, q0_8⟩ z9
    obtain ⟨l1_9, p1_9, q1_9⟩ := Box.ext ⟨l1_8, p1_8, q1_8⟩ z9
    obtain ⟨l2_9, p2_9, q2_9⟩ := Box.ext ⟨l2_8, p2_8, q2_8⟩ z9
    obtain ⟨l3_9, p3_9, q3_9⟩ := (Box.new w8 0 0 23).ext x9
    have Y9 : Ext w w9 := Y8.trans z9
    clear l0_8 p0_8 q0_8 l1_8 p1_8 q1_8 l2_8 p2_8 q2_8 z9 x9 Y8
    generalize w8.heap.size = r9 at *
    go_wp2_with fail
    refine (add_is s3 _).mono ?_; rintro e w10 ⟨rfl, x10⟩
    have z10 : Ext w9 w10 := ((Ext.refl _).alloc _).trans x10
    obtain ⟨l0_10, p0_10, q0_10⟩ := Box.ext ⟨l0_9, p0_9, q0_9⟩ z10
    obtain ⟨l1_10, p1_10, q1_10⟩ := Box.ext ⟨l1_9, p1_9, q1_9⟩ z10
    obtain ⟨l2_10, p2_10, q2_10⟩ := Box.ext ⟨l2_9, p2_9, q2_9⟩ z10
    obtain ⟨l3_10, p3_10, q3_10⟩ := Box.ext ⟨l3_9, p3_9, q3_9⟩ z10
    obtain ⟨l4_10, p4_10, q4_10⟩ := (Box.new w9 0 0 23).ext x10
    have Y10 : Ext w w10 := Y9.trans z10
    clear l0_9 p0_9 q0_9 l1_9 p1_9 q1_9 l2_9 p2_9 q2_9 l3_9 p3_9 q3_9 z10 x10 Y9
    generalize w9.heap.size = r10 at *
    go_wp2_with fail
    refine (add_is s4 _).mono ?_; rintro e w11 ⟨rfl, x11⟩
    have z11 : Ext w10 w11 := ((Ext.refl _).alloc _).trans x11
    obtain ⟨l0_11, p0_11, q0_11⟩ := Box.ext ⟨l0_10, p0_10, q0_10⟩ z11
    obtain ⟨l1_11, p1_11, q1_11⟩ := Box.ext ⟨l1_10, p1_10, q1_10⟩ z11
    obtain ⟨l2_11, p2_11, q2_11⟩ := Box.ext ⟨l2_10, p2_10, q2_10⟩ z11
    obtain ⟨l3_11, p3_11, q3_11⟩ := Box.ext ⟨l3_10, p3_10, q3_10⟩ z11
    obtain ⟨l4_11, p4_11, q4_11⟩ := Box.ext ⟨l4_10, p4_10, q4_10⟩ z11
    obtain ⟨l5_11, p5_11, q5_11⟩ := (Box.new w10 x3 y3 23).ext x11
    have Y11 : Ext w w11 := Y10.trans z11
    clear l0_10 p0_10 q0_10 l1_10 p1_10 q1_10 l2_10 p2_10 q2_10 l3_10 p3_10 q3_10 l4_10 p4_10 q4_10 z11 x11 Y10
    generalize w10.heap.size = r11 at *
    go_wp2_with fail
    refine (add_is s5 _).mono ?_; rintro e w12 ⟨rfl, x12⟩
    have z12 : Ext w11 w12 := ((Ext.refl _).alloc _).trans x12
    obtain ⟨l0_12, p0_12, q0_12⟩ := Box.ext ⟨l0_11, p0_11, q0_11⟩ z12
    obtain ⟨l1_12, p1_12, q1_12⟩ := Box.ext ⟨l1_11, p1_11, q1_11⟩ z12
    obtain ⟨l2_12, p2_12, q2_12⟩ := Box.ext ⟨l2_11, p2_11, q2_11⟩ z12
    obtain ⟨l3_12, p3_12, q3_12⟩ := Box.ext ⟨l3_11, p3_11, q3_11⟩ z12
    obtain ⟨l4_12, p4_12, q4_12⟩ := Box.ext ⟨l4_11, p4_11, q4_11⟩ z12
    obtain ⟨l5_12, p5_12, q5_12⟩ := Box.ext ⟨l5_11, p5_11, q5_11⟩ z12
    obtain ⟨l6_12, p6_12, q6_12⟩ := (Box.new w11 x4 y4 23).ext x12
    have Y12 : Ext w w12 := Y11.trans z12
    clear l0_11 p0_11 q0_11 l1_11 p1_11 q1_11 l2_11 p2_11 q2_11 l3_11 p3_11 q3_11 l4_11 p4_11 q4_11 l5_11 p5_11 q5_11 z12 x12 Y11
    generalize w11.heap.size = r12 at *
    go_wp2_with fail
    go_ret
    exact ⟨rfl, Y12.alloc _⟩
  | true =>
    have s1 := sumV_yes h1
    have s2 := s1
    rw [sumV_comm] at s2
    cases h3 : addB u' d' p q with
    | false =>
      have s3 := sumV_no h3
      obtain ⟨x4, y4, e4, s4⟩ := sumV_some (u + u') (d + d') p q
      obtain ⟨x5, y5, e5, s5⟩ := sumV_some u d 0 0
      go_enter Try.func8, Try.ntmps8
      go_wp2_with fail
      refine (L05.awake_any _).mono ?_; rintro e w1 ⟨rfl, x1⟩
      obtain ⟨⟨l0_1, p0_1, q0_1⟩, ⟨l1_1, p1_1, q1_1⟩, ⟨l2_1, p2_1, q2_1⟩⟩ := boxes3 x1
      have Y1 : Ext w w1 := ((((Ext.refl _).alloc _).alloc _).alloc _).trans x1
      clear x1
      generalize w.heap.size = r0 at *
      go_wp2_with fail
      refine (less_is hab _).mono ?_; rintro e w2 ⟨rfl, x2⟩
      have z2 : Ext w1 w2 := (Ext.refl _).trans x2
      obtain ⟨l0_2, p0_2, q0_2⟩ := Box.ext ⟨l0_1, p0_1, q0_1⟩ z2
      obtain ⟨l1_2, p1_2, q1_2⟩ := Box.ext ⟨l1_1, p1_1, q1_1⟩ z2
      obtain ⟨l2_2, p2_2, q2_2⟩ := Box.ext ⟨l2_1, p2_1, q2_1⟩ z2
      have Y2 : Ext w w2 := Y1.trans z2
      clear l0_1 p0_1 q0_1 l1_1 p1_1 q1_1 l2_1 p2_1 q2_1 z2 x2 Y1
      go_wp2_with fail
      refine (less_is hbc _).mono ?_; rintro e w3 ⟨rfl, x3⟩
      have z3 : Ext w2 w3 := (Ext.refl _).trans x3
      obtain ⟨l0_3, p0_3, q0_3⟩ := Box.ext ⟨l0_2, p0_2, q0_2⟩ z3
      obtain ⟨l1_3, p1_3, q1_3⟩ := Box.ext ⟨l1_2, p1_2, q1_2⟩ z3
      obtain ⟨l2_3, p2_3, q2_3⟩ := Box.ext ⟨l2_2, p2_2, q2_2⟩ z3
      have Y3 : Ext w w3 := Y2.trans z3
      clear l0_2 p0_2 q0_2 l1_2 p1_2 q1_2 l2_2 p2_2 q2_2 z3 x3 Y2
      go_wp2_with fail
      refine (less_is hac _).mono ?_; rintro e w4 ⟨rfl, x4⟩
      have z4 : Ext w3 w4 := (Ext.refl _).trans x4
      obtain ⟨l0_4, p0_4, q0_4⟩ := Box.ext ⟨l0_3, p0_3, q0_3⟩ z4
      obtain ⟨l1_4, p1_4, q1_4⟩ := Box.ext ⟨l1_3, p1_3, q1_3⟩ z4
      obtain ⟨l2_4, p2_4, q2_4⟩ := Box.ext ⟨l2_3, p2_3, q2_3⟩ z4
      have Y4 : Ext w w4 := Y3.trans z4
      clear l0_3 p0_3 q0_3 l1_3 p1_3 q1_3 l2_3 p2_3 q2_3 z4 x4 Y3
      go_wp2_with fail
      refine (less_is haa _).mono ?_; rintro e w5 ⟨rfl, x5⟩
      have z5 : Ext w4 w5 := (Ext.refl _).trans x5
      obtain ⟨l0_5, p0_5, q0_5⟩ := Box.ext ⟨l0_4, p0_4, q0_4⟩ z5
      obtain ⟨l1_5, p1_5, q1_5⟩ := Box.ext ⟨l1_4, p1_4, q1_4⟩ z5
      obtain ⟨l2_5, p2_5, q2_5⟩ := Box.ext ⟨l2_4, p2_4, q2_4⟩ z5
      have Y5 : Ext w w5 := Y4.trans z5
      clear l0_4 p0_4 q0_4 l1_4 p1_4 q1_4 l2_4 p2_4 q2_4 z5 x5 Y4
      go_wp2_with fail
      refine (less_is hab _).mono ?_; rintro e w6 ⟨rfl, x6⟩
      have z6 : Ext w5 w6 := (Ext.refl _).trans x6
      obtain ⟨l0_6, p0_6, q0_6⟩ := Box.ext ⟨l0_5, p0_5, q0_5⟩ z6
      obtain ⟨l1_6, p1_6, q1_6⟩ := Box.ext ⟨l1_5, p1_5, q1_5⟩ z6
      obtain ⟨l2_6, p2_6, q2_6⟩ := Box.ext ⟨l2_5, p2_5, q2_5⟩ z6
      have Y6 : Ext w w6 := Y5.trans z6
      clear l0_5 p0_5 q0_5 l1_5 p1_5 q1_5 l2_5 p2_5 q2_5 z6 x6 Y5
      go_wp2_with fail
      refine (less_is hba _).mono ?_; rintro e w7 ⟨rfl, x7⟩
      have z7 : Ext w6 w7 := (Ext.refl _).trans x7
      obtain ⟨l0_7, p0_7, q0_7⟩ := Box.ext ⟨l0_6, p0_6, q0_6⟩ z7
      obtain ⟨l1_7, p1_7, q1_7⟩ := Box.ext ⟨l1_6, p1_6, q1_6⟩ z7
      obtain ⟨l2_7, p2_7, q2_7⟩ := Box.ext ⟨l2_6, p2_6, q2_6⟩ z7
      have Y7 : Ext w w7 := Y6.trans z7
      clear l0_6 p0_6 q0_6 l1_6 p1_6 q1_6 l2_6 p2_6 q2_6 z7 x7 Y6
      go_wp2_with fail
      refine (add_is s1 _).mono ?_; rintro e w8 ⟨rfl, x8⟩
      have z8 : Ext w7 w8 := (Ext.refl _).trans x8
      obtain ⟨l0_8, p0_8, q0_8⟩ := Box.ext ⟨l0_7, p0_7, q0_7⟩ z8
      obtain ⟨l1_8, p1_8, q1_8⟩ := Box.ext ⟨l1_7, p1_7, q1_7⟩ z8
      obtain ⟨l2_8, p2_8, q2_8⟩ := Box.ext ⟨l2_7, p2_7, q2_7⟩ z8
      have Y8 : Ext w w8 := Y7.trans z8
      clear l0_7 p0_7 q0_7 l1_7 p1_7 q1_7 l2_7 p2_7 q2_7 z8 x8 Y7
      go_wp2_with fail
      refine (add_is s2 _).mono ?_; rintro e w9 ⟨rfl, x9⟩
      have z9 : Ext w8 w9 := ((Ext.refl _).alloc _).trans x9
      obtain ⟨l0_9, p0_9, q0_9⟩ := Box.ext ⟨l0_8, p0_8, q0_8⟩ z9
      obtain ⟨l1_9, p1_9, q1_9⟩ := Box.ext ⟨l1_8, p1_8, q1_8⟩ z9
      obtain ⟨l2_9, p2_9, q2_9⟩ := Box.ext ⟨l2_8, p2_8, q2_8⟩ z9
      obtain ⟨l3_9, p3_9, q3_9⟩ := (Box.new w8 (u + u') (d + d') 23).ext x9
      have Y9 : Ext w w9 := Y8.trans z9
      clear l0_8 p0_8 q0_8 l1_8 p1_8 q1_8 l2_8 p2_8 q2_8 z9 x9 Y8
      generalize w8.heap.size = r9 at *
      go_wp2_with fail
      refine (add_is s3 _).mono ?_; rintro e w10 ⟨rfl, x10⟩
      have z10 : Ext w9 w10 := ((Ext.refl _).alloc _).trans x10
      obtain ⟨l0_10, p0_10, q0_10⟩ := Box.ext ⟨l0_9, p0_9, q0_9⟩ z10
      obtain ⟨l1_10, p1_10, q1_10⟩ := Box.ext ⟨l1_9, p1_9, q1_9⟩ z10
      obtain ⟨l2_10, p2_10, q2_10⟩ := Box.ext ⟨l2_9, p2_9, q2_9⟩ z10
      obtain ⟨l3_10, p3_10, q3_10⟩ := Box.ext ⟨l3_9, p3_9, q3_9⟩ z10
      obtain ⟨l4_10, p4_10, q4_10⟩ := (Box.new w9 (u + u') (d + d') 23).ext x10
      have Y10 : Ext w w10 := Y9.trans z10
      clear l0_9 p0_9 q0_9 l1_9 p1_9 q1_9 l2_9 p2_9 q2_9 l3_9 p3_9 q3_9 z10 x10 Y9
      generalize w9.heap.size = r10 at *
      go_wp2_with fail
      refine (add_is s4 _).mono ?_; rintro e w11 ⟨rfl, x11⟩
      have z11 : Ext w10 w11 := ((Ext.refl _).alloc _).trans x11
      obtain ⟨l0_11, p0_11, q0_11⟩ := Box.ext ⟨l0_10, p0_10, q0_10⟩ z11
      obtain ⟨l1_11, p1_11, q1_11⟩ := Box.ext ⟨l1_10, p1_10, q1_10⟩ z11
      obtain ⟨l2_11, p2_11, q2_11⟩ := Box.ext ⟨l2_10, p2_10, q2_10⟩ z11
      obtain ⟨l3_11, p3_11, q3_11⟩ := Box.ext ⟨l3_10, p3_10, q3_10⟩ z11
      obtain ⟨l4_11, p4_11, q4_11⟩ := Box.ext ⟨l4_10, p4_10, q4_10⟩ z11
      obtain ⟨l5_11, p5_11, q5_11⟩ := (Box.new w10 0 0 23).ext x11
      have Y11 : Ext w w11 := Y10.trans z11
      clear l0_10 p0_10 q0_10 l1_10 p1_10 q1_10 l2_10 p2_10 q2_10 l3_10 p3_10 q3_10 l4_10 p4_10 q4_10 z11 x11 Y10
      generalize w10.heap.size = r11 at *
      go_wp2_with fail
      refine (add_is s5 _).mono ?_; rintro e w12 ⟨rfl, x12⟩
      have z12 : Ext w11 w12 := ((Ext.refl _).alloc _).trans x12
      obtain ⟨l0_12, p0_12, q0_12⟩ := Box.ext ⟨l0_11, p0_11, q0_11⟩ z12
      obtain ⟨l1_12, p1_12, q1_12⟩ := Box.ext ⟨l1_11, p1_11, q1_11⟩ z12
      obtain ⟨l2_12, p2_12, q2_12⟩ := Box.ext ⟨l2_11, p2_11, q2_11⟩ z12
      obtain ⟨l3_12, p3_12, q3_12⟩ := Box.ext ⟨l3_11, p3_11, q3_11⟩ z12
      obtain ⟨l4_12, p4_12, q4_12⟩ := Box.ext ⟨l4_11, p4_11, q4_11⟩ z12
      obtain ⟨l5_12, p5_12, q5_12⟩ := Box.ext ⟨l5_11, p5_11, q5_11⟩ z12
      obtain ⟨l6_12, p6_12, q6_12⟩ := (Box.new w11 x4 y4 23).ext x12
      have Y12 : Ext w w12 := Y11.trans z12
      clear l0_11 p0_11 q0_11 l1_11 p1_11 q1_11 l2_11 p2_11 q2_11 l3_11 p3_11 q3_11 l4_11 p4_11 q4_11 l5_11 p5_11 q5_11 z12 x12 Y11
      generalize w11.heap.size = r12 at *
      go_wp2_with fail
      go_ret
      exact ⟨rfl, Y12.alloc _⟩
    | true =>
      have s3 := sumV_yes h3
      cases h4 : addB (u + u') (d + d') p q with
      | false =>
        have s4 := sumV_no h4
        obtain ⟨x5, y5, e5, s5⟩ := sumV_some u d (u' + p) (d' + q)
        go_enter Try.func8, Try.ntmps8
        go_wp2_with fail
        refine (L05.awake_any _).mono ?_; rintro e w1 ⟨rfl, x1⟩
        obtain ⟨⟨l0_1, p0_1, q0_1⟩, ⟨l1_1, p1_1, q1_1⟩, ⟨l2_1, p2_1, q2_1⟩⟩ := boxes3 x1
        have Y1 : Ext w w1 := ((((Ext.refl _).alloc _).alloc _).alloc _).trans x1
        clear x1
        generalize w.heap.size = r0 at *
        go_wp2_with fail
        refine (less_is hab _).mono ?_; rintro e w2 ⟨rfl, x2⟩
        have z2 : Ext w1 w2 := (Ext.refl _).trans x2
        obtain ⟨l0_2, p0_2, q0_2⟩ := Box.ext ⟨l0_1, p0_1, q0_1⟩ z2
        obtain ⟨l1_2, p1_2, q1_2⟩ := Box.ext ⟨l1_1, p1_1, q1_1⟩ z2
        obtain ⟨l2_2, p2_2, q2_2⟩ := Box.ext ⟨l2_1, p2_1, q2_1⟩ z2
        have Y2 : Ext w w2 := Y1.trans z2
        clear l0_1 p0_1 q0_1 l1_1 p1_1 q1_1 l2_1 p2_1 q2_1 z2 x2 Y1
        go_wp2_with fail
        refine (less_is hbc _).mono ?_; rintro e w3 ⟨rfl, x3⟩
        have z3 : Ext w2 w3 := (Ext.refl _).trans x3
        obtain ⟨l0_3, p0_3, q0_3⟩ := Box.ext ⟨l0_2, p0_2, q0_2⟩ z3
        obtain ⟨l1_3, p1_3, q1_3⟩ := Box.ext ⟨l1_2, p1_2, q1_2⟩ z3
        obtain ⟨l2_3, p2_3, q2_3⟩ := Box.ext ⟨l2_2, p2_2, q2_2⟩ z3
        have Y3 : Ext w w3 := Y2.trans z3
        clear l0_2 p0_2 q0_2 l1_2 p1_2 q1_2 l2_2 p2_2 q2_2 z3 x3 Y2
        go_wp2_with fail
        refine (less_is hac _).mono ?_; rintro e w4 ⟨rfl, x4⟩
        have z4 : Ext w3 w4 := (Ext.refl _).trans x4
        obtain ⟨l0_4, p0_4, q0_4⟩ := Box.ext ⟨l0_3, p0_3, q0_3⟩ z4
        obtain ⟨l1_4, p1_4, q1_4⟩ := Box.ext ⟨l1_3, p1_3, q1_3⟩ z4
        obtain ⟨l2_4, p2_4, q2_4⟩ := Box.ext ⟨l2_3, p2_3, q2_3⟩ z4
        have Y4 : Ext w w4 := Y3.trans z4
        clear l0_3 p0_3 q0_3 l1_3 p1_3 q1_3 l2_3 p2_3 q2_3 z4 x4 Y3
        go_wp2_with fail
        refine (less_is haa _).mono ?_; rintro e w5 ⟨rfl, x5⟩
        have z5 : Ext w4 w5 := (Ext.refl _).trans x5
        obtain ⟨l0_5, p0_5, q0_5⟩ := Box.ext ⟨l0_4, p0_4, q0_4⟩ z5
        obtain ⟨l1_5, p1_5, q1_5⟩ := Box.ext ⟨l1_4, p1_4, q1_4⟩ z5
        obtain ⟨l2_5, p2_5, q2_5⟩ := Box.ext ⟨l2_4, p2_4, q2_4⟩ z5
        have Y5 : Ext w w5 := Y4.trans z5
        clear l0_4 p0_4 q0_4 l1_4 p1_4 q1_4 l2_4 p2_4 q2_4 z5 x5 Y4
        go_wp2_with fail
        refine (less_is hab _).mono ?_; rintro e w6 ⟨rfl, x6⟩
        have z6 : Ext w5 w6 := (Ext.refl _).trans x6
        obtain ⟨l0_6, p0_6, q0_6⟩ := Box.ext ⟨l0_5, p0_5, q0_5⟩ z6
        obtain ⟨l1_6, p1_6, q1_6⟩ := Box.ext ⟨l1_5, p1_5, q1_5⟩ z6
        obtain ⟨l2_6, p2_6, q2_6⟩ := Box.ext ⟨l2_5, p2_5, q2_5⟩ z6
        have Y6 : Ext w w6 := Y5.trans z6
        clear l0_5 p0_5 q0_5 l1_5 p1_5 q1_5 l2_5 p2_5 q2_5 z6 x6 Y5
        go_wp2_with fail
        refine (less_is hba _).mono ?_; rintro e w7 ⟨rfl, x7⟩
        have z7 : Ext w6 w7 := (Ext.refl _).trans x7
        obtain ⟨l0_7, p0_7, q0_7⟩ := Box.ext ⟨l0_6, p0_6, q0_6⟩ z7
        obtain ⟨l1_7, p1_7, q1_7⟩ := Box.ext ⟨l1_6, p1_6, q1_6⟩ z7
        obtain ⟨l2_7, p2_7, q2_7⟩ := Box.ext ⟨l2_6, p2_6, q2_6⟩ z7
        have Y7 : Ext w w7 := Y6.trans z7
        clear l0_6 p0_6 q0_6 l1_6 p1_6 q1_6 l2_6 p2_6 q2_6 z7 x7 Y6
        go_wp2_with fail
        refine (add_is s1 _).mono ?_; rintro e w8 ⟨rfl, x8⟩
        have z8 : Ext w7 w8 := (Ext.refl _).trans x8
        obtain ⟨l0_8, p0_8, q0_8⟩ := Box.ext ⟨l0_7, p0_7, q0_7⟩ z8
        obtain ⟨l1_8, p1_8, q1_8⟩ := Box.ext ⟨l1_7, p1_7, q1_7⟩ z8
        obtain ⟨l2_8, p2_8, q2_8⟩ := Box.ext ⟨l2_7, p2_7, q2_7⟩ z8
        have Y8 : Ext w w8 := Y7.trans z8
        clear l0_7 p0_7 q0_7 l1_7 p1_7 q1_7 l2_7 p2_7 q2_7 z8 x8 Y7
        go_wp2_with fail
        refine (add_is s2 _).mono ?_; rintro e w9 ⟨rfl, x9⟩
        have z9 : Ext w8 w9 := ((Ext.refl _).alloc _).trans x9
        obtain ⟨l0_9, p0_9, q0_9⟩ := Box.ext ⟨l0_8, p0_8, q0_8⟩ z9
        obtain ⟨l1_9, p1_9, q1_9⟩ := Box.ext ⟨l1_8, p1_8, q1_8⟩ z9
        obtain ⟨l2_9, p2_9, q2_9⟩ := Box.ext ⟨l2_8, p2_8, q2_8⟩ z9
        obtain ⟨l3_9, p3_9, q3_9⟩ := (Box.new w8 (u + u') (d + d') 23).ext x9
        have Y9 : Ext w w9 := Y8.trans z9
        clear l0_8 p0_8 q0_8 l1_8 p1_8 q1_8 l2_8 p2_8 q2_8 z9 x9 Y8
        generalize w8.heap.size = r9 at *
        go_wp2_with fail
        refine (add_is s3 _).mono ?_; rintro e w10 ⟨rfl, x10⟩
        have z10 : Ext w9 w10 := ((Ext.refl _).alloc _).trans x10
        obtain ⟨l0_10, p0_10, q0_10⟩ := Box.ext ⟨l0_9, p0_9, q0_9⟩ z10
        obtain ⟨l1_10, p1_10, q1_10⟩ := Box.ext ⟨l1_9, p1_9, q1_9⟩ z10
        obtain ⟨l2_10, p2_10, q2_10⟩ := Box.ext ⟨l2_9, p2_9, q2_9⟩ z10
        obtain ⟨l3_10, p3_10, q3_10⟩ := Box.ext ⟨l3_9, p3_9, q3_9⟩ z10
        obtain ⟨l4_10, p4_10, q4_10⟩ := (Box.new w9 (u + u') (d + d') 23).ext x10
        have Y10 : Ext w w10 := Y9.trans z10
        clear l0_9 p0_9 q0_9 l1_9 p1_9 q1_9 l2_9 p2_9 q2_9 l3_9 p3_9 q3_9 z10 x10 Y9
        generalize w9.heap.size = r10 at *
        go_wp2_with fail
        refine (add_is s4 _).mono ?_; rintro e w11 ⟨rfl, x11⟩
        have z11 : Ext w10 w11 := ((Ext.refl _).alloc _).trans x11
        obtain ⟨l0_11, p0_11, q0_11⟩ := Box.ext ⟨l0_10, p0_10, q0_10⟩ z11
        obtain ⟨l1_11, p1_11, q1_11⟩ := Box.ext ⟨l1_10, p1_10, q1_10⟩ z11
        obtain ⟨l2_11, p2_11, q2_11⟩ := Box.ext ⟨l2_10, p2_10, q2_10⟩ z11
        obtain ⟨l3_11, p3_11, q3_11⟩ := Box.ext ⟨l3_10, p3_10, q3_10⟩ z11
        obtain ⟨l4_11, p4_11, q4_11⟩ := Box.ext ⟨l4_10, p4_10, q4_10⟩ z11
        obtain ⟨l5_11, p5_11, q5_11⟩ := (Box.new w10 (u' + p) (d' + q) 23).ext x11
        have Y11 : Ext w w11 := Y10.trans z11
        clear l0_10 p0_10 q0_10 l1_10 p1_10 q1_10 l2_10 p2_10 q2_10 l3_10 p3_10 q3_10 l4_10 p4_10 q4_10 z11 x11 Y10
        generalize w10.heap.size = r11 at *
        go_wp2_with fail
        refine (add_is s5 _).mono ?_; rintro e w12 ⟨rfl, x12⟩
        have z12 : Ext w11 w12 := ((Ext.refl _).alloc _).trans x12
        obtain ⟨l0_12, p0_12, q0_12⟩ := Box.ext ⟨l0_11, p0_11, q0_11⟩ z12
        obtain ⟨l1_12, p1_12, q1_12⟩ := Box.ext ⟨l1_11, p1_11, q1_11⟩ z12
        obtain ⟨l2_12, p2_12, q2_12⟩ := Box.ext ⟨l2_11, p2_11, q2_11⟩ z12
        obtain ⟨l3_12, p3_12, q3_12⟩ := Box.ext ⟨l3_11, p3_11, q3_11⟩ z12
        obtain ⟨l4_12, p4_12, q4_12⟩ := Box.ext ⟨l4_11, p4_11, q4_11⟩ z12
        obtain ⟨l5_12, p5_12, q5_12⟩ := Box.ext ⟨l5_11, p5_11, q5_11⟩ z12
        obtain ⟨l6_12, p6_12, q6_12⟩ := (Box.new w11 0 0 23).ext x12
        have Y12 : Ext w w12 := Y11.trans z12
        clear l0_11 p0_11 q0_11 l1_11 p1_11 q1_11 l2_11 p2_11 q2_11 l3_11 p3_11 q3_11 l4_11 p4_11 q4_11 l5_11 p5_11 q5_11 z12 x12 Y11
        generalize w11.heap.size = r12 at *
        go_wp2_with fail
        go_ret
        exact ⟨rfl, Y12.alloc _⟩
      | true =>
        have s4 := sumV_yes h4
        have s5 := sumV_yes (group h1 h3 h4)
        rw [← Int.add_assoc, ← Int.add_assoc] at s5
        go_enter Try.func8, Try.ntmps8
        go_wp2_with fail
        refine (L05.awake_any _).mono ?_; rintro e w1 ⟨rfl, x1⟩
        obtain ⟨⟨l0_1, p0_1, q0_1⟩, ⟨l1_1, p1_1, q1_1⟩, ⟨l2_1, p2_1, q2_1⟩⟩ := boxes3 x1
        have Y1 : Ext w w1 := ((((Ext.refl _).alloc _).alloc _).alloc _).trans x1
        clear x1
        generalize w.heap.size = r0 at *
        go_wp2_with fail
        refine (less_is hab _).mono ?_; rintro e w2 ⟨rfl, x2⟩
        have z2 : Ext w1 w2 := (Ext.refl _).trans x2
        obtain ⟨l0_2, p0_2, q0_2⟩ := Box.ext ⟨l0_1, p0_1, q0_1⟩ z2
        obtain ⟨l1_2, p1_2, q1_2⟩ := Box.ext ⟨l1_1, p1_1, q1_1⟩ z2
        obtain ⟨l2_2, p2_2, q2_2⟩ := Box.ext ⟨l2_1, p2_1, q2_1⟩ z2
        have Y2 : Ext w w2 := Y1.trans z2
        clear l0_1 p0_1 q0_1 l1_1 p1_1 q1_1 l2_1 p2_1 q2_1 z2 x2 Y1
        go_wp2_with fail
        refine (less_is hbc _).mono ?_; rintro e w3 ⟨rfl, x3⟩
        have z3 : Ext w2 w3 := (Ext.refl _).trans x3
        obtain ⟨l0_3, p0_3, q0_3⟩ := Box.ext ⟨l0_2, p0_2, q0_2⟩ z3
        obtain ⟨l1_3, p1_3, q1_3⟩ := Box.ext ⟨l1_2, p1_2, q1_2⟩ z3
        obtain ⟨l2_3, p2_3, q2_3⟩ := Box.ext ⟨l2_2, p2_2, q2_2⟩ z3
        have Y3 : Ext w w3 := Y2.trans z3
        clear l0_2 p0_2 q0_2 l1_2 p1_2 q1_2 l2_2 p2_2 q2_2 z3 x3 Y2
        go_wp2_with fail
        refine (less_is hac _).mono ?_; rintro e w4 ⟨rfl, x4⟩
        have z4 : Ext w3 w4 := (Ext.refl _).trans x4
        obtain ⟨l0_4, p0_4, q0_4⟩ := Box.ext ⟨l0_3, p0_3, q0_3⟩ z4
        obtain ⟨l1_4, p1_4, q1_4⟩ := Box.ext ⟨l1_3, p1_3, q1_3⟩ z4
        obtain ⟨l2_4, p2_4, q2_4⟩ := Box.ext ⟨l2_3, p2_3, q2_3⟩ z4
        have Y4 : Ext w w4 := Y3.trans z4
        clear l0_3 p0_3 q0_3 l1_3 p1_3 q1_3 l2_3 p2_3 q2_3 z4 x4 Y3
        go_wp2_with fail
        refine (less_is haa _).mono ?_; rintro e w5 ⟨rfl, x5⟩
        have z5 : Ext w4 w5 := (Ext.refl _).trans x5
        obtain ⟨l0_5, p0_5, q0_5⟩ := Box.ext ⟨l0_4, p0_4, q0_4⟩ z5
        obtain ⟨l1_5, p1_5, q1_5⟩ := Box.ext ⟨l1_4, p1_4, q1_4⟩ z5
        obtain ⟨l2_5, p2_5, q2_5⟩ := Box.ext ⟨l2_4, p2_4, q2_4⟩ z5
        have Y5 : Ext w w5 := Y4.trans z5
        clear l0_4 p0_4 q0_4 l1_4 p1_4 q1_4 l2_4 p2_4 q2_4 z5 x5 Y4
        go_wp2_with fail
        refine (less_is hab _).mono ?_; rintro e w6 ⟨rfl, x6⟩
        have z6 : Ext w5 w6 := (Ext.refl _).trans x6
        obtain ⟨l0_6, p0_6, q0_6⟩ := Box.ext ⟨l0_5, p0_5, q0_5⟩ z6
        obtain ⟨l1_6, p1_6, q1_6⟩ := Box.ext ⟨l1_5, p1_5, q1_5⟩ z6
        obtain ⟨l2_6, p2_6, q2_6⟩ := Box.ext ⟨l2_5, p2_5, q2_5⟩ z6
        have Y6 : Ext w w6 := Y5.trans z6
        clear l0_5 p0_5 q0_5 l1_5 p1_5 q1_5 l2_5 p2_5 q2_5 z6 x6 Y5
        go_wp2_with fail
        refine (less_is hba _).mono ?_; rintro e w7 ⟨rfl, x7⟩
        have z7 : Ext w6 w7 := (Ext.refl _).trans x7
        obtain ⟨l0_7, p0_7, q0_7⟩ := Box.ext ⟨l0_6, p0_6, q0_6⟩ z7
        obtain ⟨l1_7, p1_7, q1_7⟩ := Box.ext ⟨l1_6, p1_6, q1_6⟩ z7
        obtain ⟨l2_7, p2_7, q2_7⟩ := Box.ext ⟨l2_6, p2_6, q2_6⟩ z7
        have Y7 : Ext w w7 := Y6.trans z7
        clear l0_6 p0_6 q0_6 l1_6 p1_6 q1_6 l2_6 p2_6 q2_6 z7 x7 Y6
        go_wp2_with fail
        refine (add_is s1 _).mono ?_; rintro e w8 ⟨rfl, x8⟩
        have z8 : Ext w7 w8 := (Ext.refl _).trans x8
        obtain ⟨l0_8, p0_8, q0_8⟩ := Box.ext ⟨l0_7, p0_7, q0_7⟩ z8
        obtain ⟨l1_8, p1_8, q1_8⟩ := Box.ext ⟨l1_7, p1_7, q1_7⟩ z8
        obtain ⟨l2_8, p2_8, q2_8⟩ := Box.ext ⟨l2_7, p2_7, q2_7⟩ z8
        have Y8 : Ext w w8 := Y7.trans z8
        clear l0_7 p0_7 q0_7 l1_7 p1_7 q1_7 l2_7 p2_7 q2_7 z8 x8 Y7
        go_wp2_with fail
        refine (add_is s2 _).mono ?_; rintro e w9 ⟨rfl, x9⟩
        have z9 : Ext w8 w9 := ((Ext.refl _).alloc _).trans x9
        obtain ⟨l0_9, p0_9, q0_9⟩ := Box.ext ⟨l0_8, p0_8, q0_8⟩ z9
        obtain ⟨l1_9, p1_9, q1_9⟩ := Box.ext ⟨l1_8, p1_8, q1_8⟩ z9
        obtain ⟨l2_9, p2_9, q2_9⟩ := Box.ext ⟨l2_8, p2_8, q2_8⟩ z9
        obtain ⟨l3_9, p3_9, q3_9⟩ := (Box.new w8 (u + u') (d + d') 23).ext x9
        have Y9 : Ext w w9 := Y8.trans z9
        clear l0_8 p0_8 q0_8 l1_8 p1_8 q1_8 l2_8 p2_8 q2_8 z9 x9 Y8
        generalize w8.heap.size = r9 at *
        go_wp2_with fail
        refine (add_is s3 _).mono ?_; rintro e w10 ⟨rfl, x10⟩
        have z10 : Ext w9 w10 := ((Ext.refl _).alloc _).trans x10
        obtain ⟨l0_10, p0_10, q0_10⟩ := Box.ext ⟨l0_9, p0_9, q0_9⟩ z10
        obtain ⟨l1_10, p1_10, q1_10⟩ := Box.ext ⟨l1_9, p1_9, q1_9⟩ z10
        obtain ⟨l2_10, p2_10, q2_10⟩ := Box.ext ⟨l2_9, p2_9, q2_9⟩ z10
        obtain ⟨l3_10, p3_10, q3_10⟩ := Box.ext ⟨l3_9, p3_9, q3_9⟩ z10
        obtain ⟨l4_10, p4_10, q4_10⟩ := (Box.new w9 (u + u') (d + d') 23).ext x10
        have Y10 : Ext w w10 := Y9.trans z10
        clear l0_9 p0_9 q0_9 l1_9 p1_9 q1_9 l2_9 p2_9 q2_9 l3_9 p3_9 q3_9 z10 x10 Y9
        generalize w9.heap.size = r10 at *
        go_wp2_with fail
        refine (add_is s4 _).mono ?_; rintro e w11 ⟨rfl, x11⟩
        have z11 : Ext w10 w11 := ((Ext.refl _).alloc _).trans x11
        obtain ⟨l0_11, p0_11, q0_11⟩ := Box.ext ⟨l0_10, p0_10, q0_10⟩ z11
        obtain ⟨l1_11, p1_11, q1_11⟩ := Box.ext ⟨l1_10, p1_10, q1_10⟩ z11
        obtain ⟨l2_11, p2_11, q2_11⟩ := Box.ext ⟨l2_10, p2_10, q2_10⟩ z11
        obtain ⟨l3_11, p3_11, q3_11⟩ := Box.ext ⟨l3_10, p3_10, q3_10⟩ z11
        obtain ⟨l4_11, p4_11, q4_11⟩ := Box.ext ⟨l4_10, p4_10, q4_10⟩ z11
        obtain ⟨l5_11, p5_11, q5_11⟩ := (Box.new w10 (u' + p) (d' + q) 23).ext x11
        have Y11 : Ext w w11 := Y10.trans z11
        clear l0_10 p0_10 q0_10 l1_10 p1_10 q1_10 l2_10 p2_10 q2_10 l3_10 p3_10 q3_10 l4_10 p4_10 q4_10 z11 x11 Y10
        generalize w10.heap.size = r11 at *
        go_wp2_with fail
        refine (add_is s5 _).mono ?_; rintro e w12 ⟨rfl, x12⟩
        have z12 : Ext w11 w12 := ((Ext.refl _).alloc _).trans x12
        obtain ⟨l0_12, p0_12, q0_12⟩ := Box.ext ⟨l0_11, p0_11, q0_11⟩ z12
        obtain ⟨l1_12, p1_12, q1_12⟩ := Box.ext ⟨l1_11, p1_11, q1_11⟩ z12
        obtain ⟨l2_12, p2_12, q2_12⟩ := Box.ext ⟨l2_11, p2_11, q2_11⟩ z12
        obtain ⟨l3_12, p3_12, q3_12⟩ := Box.ext ⟨l3_11, p3_11, q3_11⟩ z12
        obtain ⟨l4_12, p4_12, q4_12⟩ := Box.ext ⟨l4_11, p4_11, q4_11⟩ z12
        obtain ⟨l5_12, p5_12, q5_12⟩ := Box.ext ⟨l5_11, p5_11, q5_11⟩ z12
        obtain ⟨l6_12, p6_12, q6_12⟩ := (Box.new w11 (u + u' + p) (d + d' + q) 23).ext x12
        have Y12 : Ext w w12 := Y11.trans z12
        clear l0_11 p0_11 q0_11 l1_11 p1_11 q1_11 l2_11 p2_11 q2_11 l3_11 p3_11 q3_11 l4_11 p4_11 q4_11 l5_11 p5_11 q5_11 z12 x12 Y11
        generalize w11.heap.size = r12 at *
        go_wp2_with fail
        go_ret
        exact ⟨rfl, Y12.alloc _⟩

set_option maxHeartbeats 2000000 in
theorem wayB (u d u' d' p q : Int) (w : World) (hab : lessB u d u' d' = true) (hbc : lessB u' d' p q = false) : Calls Try.prog 8 #[.agg #[.int .i64 u, .int .i64 d], .agg #[.int .i64 u', .int .i64 d'], .agg #[.int .i64 p, .int .i64 q]] w (Ret w (.bool true)) := by
  have haa := less_self u d
  have hba : lessB u' d' u d = false := less_not hab
  cases h1 : addB u d u' d' with
  | false =>
    have s1 := sumV_no h1
    have s2 := s1
    rw [sumV_comm] at s2
    obtain ⟨x3, y3, e3, s3⟩ := sumV_some u' d' p q
    obtain ⟨x4, y4, e4, s4⟩ := sumV_some 0 0 p q
    obtain ⟨x5, y5, e5, s5⟩ := sumV_some u d x3 y3
    go_enter Try.func8, Try.ntmps8
    go_wp2_with fail
    refine (L05.awake_any _).mono ?_; rintro e w1 ⟨rfl, x1⟩
    obtain ⟨⟨l0_1, p0_1, q0_1⟩, ⟨l1_1, p1_1, q1_1⟩, ⟨l2_1, p2_1, q2_1⟩⟩ := boxes3 x1
    have Y1 : Ext w w1 := ((((Ext.refl _).alloc _).alloc _).alloc _).trans x1
    clear x1
    generalize w.heap.size = r0 at *
    go_wp2_with fail
    refine (less_is hab _).mono ?_; rintro e w2 ⟨rfl, x2⟩
    have z2 : Ext w1 w2 := (Ext.refl _).trans x2
    obtain ⟨l0_2, p0_2, q0_2⟩ := Box.ext ⟨l0_1, p0_1, q0_1⟩ z2
    obtain ⟨l1_2, p1_2, q1_2⟩ := Box.ext ⟨l1_1, p1_1, q1_1⟩ z2
    obtain ⟨l2_2, p2_2, q2_2⟩ := Box.ext ⟨l2_1, p2_1, q2_1⟩ z2
    have Y2 : Ext w w2 := Y1.trans z2
    clear l0_1 p0_1 q0_1 l1_1 p1_1 q1_1 l2_1 p2_1 q2_1 z2 x2 Y1
    go_wp2_with fail
    refine (less_is hbc _).mono ?_; rintro e w3 ⟨rfl, x3⟩
    have z3 : Ext w2 w3 := (Ext.refl _).trans x3
    obtain ⟨l0_3, p0_3, q0_3⟩ := Box.ext ⟨l0_2, p0_2, q0_2⟩ z3
    obtain ⟨l1_3, p1_3, q1_3⟩ := Box.ext ⟨l1_2, p1_2, q1_2⟩ z3
    obtain ⟨l2_3, p2_3, q2_3⟩ := Box.ext ⟨l2_2, p2_2, q2_2⟩ z3
    have Y3 : Ext w w3 := Y2.trans z3
    clear l0_2 p0_2 q0_2 l1_2 p1_2 q1_2 l2_2 p2_2 q2_2 z3 x3 Y2
    go_wp2_with fail
    refine (less_is haa _).mono ?_; rintro e w4 ⟨rfl, x4⟩
    have z4 : Ext w3 w4 := (Ext.refl _).trans x4
    obtain ⟨l0_4, p0_4, q0_4⟩ := Box.ext ⟨l0_3, p0_3, q0_3⟩ z4
    obtain ⟨l1_4, p1_4, q1_4⟩ := Box.ext ⟨l1_3, p1_3, q1_3⟩ z4
    obtain ⟨l2_4, p2_4, q2_4⟩ := Box.ext ⟨l2_3, p2_3, q2_3⟩ z4
    have Y4 : Ext w w4 := Y3.trans z4
    clear l0_3 p0_3 q0_3 l1_3 p1_3 q1_3 l2_3 p2_3 q2_3 z4 x4 Y3
    go_wp2_with fail
    refine (less_is hab _).mono ?_; rintro e w5 ⟨rfl, x5⟩
    have z5 : Ext w4 w5 := (Ext.refl _).trans x5
    obtain ⟨l0_5, p0_5, q0_5⟩ := Box.ext ⟨l0_4, p0_4, q0_4⟩ z5
    obtain ⟨l1_5, p1_5, q1_5⟩ := Box.ext ⟨l1_4, p1_4, q1_4⟩ z5
    obtain ⟨l2_5, p2_5, q2_5⟩ := Box.ext ⟨l2_4, p2_4, q2_4⟩ z5
    have Y5 : Ext w w5 := Y4.trans z5
    clear l0_4 p0_4 q0_4 l1_4 p1_4 q1_4 l2_4 p2_4 q2_4 z5 x5 Y4
    go_wp2_with fail
    refine (less_is hba _).mono ?_; rintro e w6 ⟨rfl, x6⟩
    have z6 : Ext w5 w6 := (Ext.refl _).trans x6
    obtain ⟨l0_6, p0_6, q0_6⟩ := Box.ext ⟨l0_5, p0_5, q0_5⟩ z6
    obtain ⟨l1_6, p1_6, q1_6⟩ := Box.ext ⟨l1_5, p1_5, q1_5⟩ z6
    obtain ⟨l2_6, p2_6, q2_6⟩ := Box.ext ⟨l2_5, p2_5, q2_5⟩ z6
    have Y6 : Ext w w6 := Y5.trans z6
    clear l0_5 p0_5 q0_5 l1_5 p1_5 q1_5 l2_5 p2_5 q2_5 z6 x6 Y5
    go_wp2_with fail
    refine (add_is s1 _).mono ?_; rintro e w7 ⟨rfl, x7⟩
    have z7 : Ext w6 w7 := (Ext.refl _).trans x7
    obtain ⟨l0_7, p0_7, q0_7⟩ := Box.ext ⟨l0_6, p0_6, q0_6⟩ z7
    obtain ⟨l1_7, p1_7, q1_7⟩ := Box.ext ⟨l1_6, p1_6, q1_6⟩ z7
    obtain ⟨l2_7, p2_7, q2_7⟩ := Box.ext ⟨l2_6, p2_6, q2_6⟩ z7
    have Y7 : Ext w w7 := Y6.trans z7
    clear l0_6 p0_6 q0_6 l1_6 p1_6 q1_6 l2_6 p2_6 q2_6 z7 x7 Y6
    go_wp2_with fail
    refine (add_is s2 _).mono ?_; rintro e w8 ⟨rfl, x8⟩
    have z8 : Ext w7 w8 := ((Ext.refl _).alloc _).trans x8
    obtain ⟨l0_8, p0_8, q0_8⟩ := Box.ext ⟨l0_7, p0_7, q0_7⟩ z8
    obtain ⟨l1_8, p1_8, q1_8⟩ := Box.ext ⟨l1_7, p1_7, q1_7⟩ z8
    obtain ⟨l2_8, p2_8, q2_8⟩ := Box.ext ⟨l2_7, p2_7, q2_7⟩ z8
    obtain ⟨l3_8, p3_8, q3_8⟩ := (Box.new w7 0 0 23).ext x8
    have Y8 : Ext w w8 := Y7.trans z8
    clear l0_7 p0_7 q0_7 l1_7 p1_7 q1_7 l2_7 p2_7 q2_7 z8 x8 Y7
    generalize w7.heap.size = r8 at *
    go_wp2_with fail
    refine (add_is s3 _).mono ?_; rintro e w9 ⟨rfl, x9⟩
    have z9 : Ext w8 w9 := ((Ext.refl _).alloc _).trans x9
    obtain ⟨l0_9, p0_9, q0_9⟩ := Box.ext ⟨l0_8, p0_8, q0_8⟩ z9
    obtain ⟨l1_9, p1_9, q1_9⟩ := Box.ext ⟨l1_8, p1_8, q1_8⟩ z9
    obtain ⟨l2_9, p2_9, q2_9⟩ := Box.ext ⟨l2_8, p2_8, q2_8⟩ z9
    obtain ⟨l3_9, p3_9, q3_9⟩ := Box.ext ⟨l3_8, p3_8, q3_8⟩ z9
    obtain ⟨l4_9, p4_9, q4_9⟩ := (Box.new w8 0 0 23).ext x9
    have Y9 : Ext w w9 := Y8.trans z9
    clear l0_8 p0_8 q0_8 l1_8 p1_8 q1_8 l2_8 p2_8 q2_8 l3_8 p3_8 q3_8 z9 x9 Y8
    generalize w8.heap.size = r9 at *
    go_wp2_with fail
    refine (add_is s4 _).mono ?_; rintro e w10 ⟨rfl, x10⟩
    have z10 : Ext w9 w10 := ((Ext.refl _).alloc _).trans x10
    obtain ⟨l0_10, p0_10, q0_10⟩ := Box.ext ⟨l0_9, p0_9, q0_9⟩ z10
    obtain ⟨l1_10, p1_10, q1_10⟩ := Box.ext ⟨l1_9, p1_9, q1_9⟩ z10
    obtain ⟨l2_10, p2_10, q2_10⟩ := Box.ext ⟨l2_9, p2_9, q2_9⟩ z10
    obtain ⟨l3_10, p3_10, q3_10⟩ := Box.ext ⟨l3_9, p3_9, q3_9⟩ z10
    obtain ⟨l4_10, p4_10, q4_10⟩ := Box.ext ⟨l4_9, p4_9, q4_9⟩ z10
    obtain ⟨l5_10, p5_10, q5_10⟩ := (Box.new w9 x3 y3 23).ext x10
    have Y10 : Ext w w10 := Y9.trans z10
    clear l0_9 p0_9 q0_9 l1_9 p1_9 q1_9 l2_9 p2_9 q2_9 l3_9 p3_9 q3_9 l4_9 p4_9 q4_9 z10 x10 Y9
    generalize w9.heap.size = r10 at *
    go_wp2_with fail
    refine (add_is s5 _).mono ?_; rintro e w11 ⟨rfl, x11⟩
    have z11 : Ext w10 w11 := ((Ext.refl _).alloc _).trans x11
    obtain ⟨l0_11, p0_11, q0_11⟩ := Box.ext ⟨l0_10, p0_10, q0_10⟩ z11
    obtain ⟨l1_11, p1_11, q1_11⟩ := Box.ext ⟨l1_10, p1_10, q1_10⟩ z11
    obtain ⟨l2_11, p2_11, q2_11⟩ := Box.ext ⟨l2_10, p2_10, q2_10⟩ z11
    obtain ⟨l3_11, p3_11, q3_11⟩ := Box.ext ⟨l3_10, p3_10, q3_10⟩ z11
    obtain ⟨l4_11, p4_11, q4_11⟩ := Box.ext ⟨l4_10, p4_10, q4_10⟩ z11
    obtain ⟨l5_11, p5_11, q5_11⟩ := Box.ext ⟨l5_10, p5_10, q5_10⟩ z11
    obtain ⟨l6_11, p6_11, q6_11⟩ := (Box.new w10 x4 y4 23).ext x11
    have Y11 : Ext w w11 := Y10.trans z11
    clear l0_10 p0_10 q0_10 l1_10 p1_10 q1_10 l2_10 p2_10 q2_10 l3_10 p3_10 q3_10 l4_10 p4_10 q4_10 l5_10 p5_10 q5_10 z11 x11 Y10
    generalize w10.heap.size = r11 at *
    go_wp2_with fail
    go_ret
    exact ⟨rfl, Y11.alloc _⟩
  | true =>
    have s1 := sumV_yes h1
    have s2 := s1
    rw [sumV_comm] at s2
    cases h3 : addB u' d' p q with
    | false =>
      have s3 := sumV_no h3
      obtain ⟨x4, y4, e4, s4⟩ := sumV_some (u + u') (d + d') p q
      obtain ⟨x5, y5, e5, s5⟩ := sumV_some u d 0 0
      go_enter Try.func8, Try.ntmps8
      go_wp2_with fail
      refine (L05.awake_any _).mono ?_; rintro e w1 ⟨rfl, x1⟩
      obtain ⟨⟨l0_1, p0_1, q0_1⟩, ⟨l1_1, p1_1, q1_1⟩, ⟨l2_1, p2_1, q2_1⟩⟩ := boxes3 x1
      have Y1 : Ext w w1 := ((((Ext.refl _).alloc _).alloc _).alloc _).trans x1
      clear x1
      generalize w.heap.size = r0 at *
      go_wp2_with fail
      refine (less_is hab _).mono ?_; rintro e w2 ⟨rfl, x2⟩
      have z2 : Ext w1 w2 := (Ext.refl _).trans x2
      obtain ⟨l0_2, p0_2, q0_2⟩ := Box.ext ⟨l0_1, p0_1, q0_1⟩ z2
      obtain ⟨l1_2, p1_2, q1_2⟩ := Box.ext ⟨l1_1, p1_1, q1_1⟩ z2
      obtain ⟨l2_2, p2_2, q2_2⟩ := Box.ext ⟨l2_1, p2_1, q2_1⟩ z2
      have Y2 : Ext w w2 := Y1.trans z2
      clear l0_1 p0_1 q0_1 l1_1 p1_1 q1_1 l2_1 p2_1 q2_1 z2 x2 Y1
      go_wp2_with fail
      refine (less_is hbc _).mono ?_; rintro e w3 ⟨rfl, x3⟩
      have z3 : Ext w2 w3 := (Ext.refl _).trans x3
      obtain ⟨l0_3, p0_3, q0_3⟩ := Box.ext ⟨l0_2, p0_2, q0_2⟩ z3
      obtain ⟨l1_3, p1_3, q1_3⟩ := Box.ext ⟨l1_2, p1_2, q1_2⟩ z3
      obtain ⟨l2_3, p2_3, q2_3⟩ := Box.ext ⟨l2_2, p2_2, q2_2⟩ z3
      have Y3 : Ext w w3 := Y2.trans z3
      clear l0_2 p0_2 q0_2 l1_2 p1_2 q1_2 l2_2 p2_2 q2_2 z3 x3 Y2
      go_wp2_with fail
      refine (less_is haa _).mono ?_; rintro e w4 ⟨rfl, x4⟩
      have z4 : Ext w3 w4 := (Ext.refl _).trans x4
      obtain ⟨l0_4, p0_4, q0_4⟩ := Box.ext ⟨l0_3, p0_3, q0_3⟩ z4
      obtain ⟨l1_4, p1_4, q1_4⟩ := Box.ext ⟨l1_3, p1_3, q1_3⟩ z4
      obtain ⟨l2_4, p2_4, q2_4⟩ := Box.ext ⟨l2_3, p2_3, q2_3⟩ z4
      have Y4 : Ext w w4 := Y3.trans z4
      clear l0_3 p0_3 q0_3 l1_3 p1_3 q1_3 l2_3 p2_3 q2_3 z4 x4 Y3
      go_wp2_with fail
      refine (less_is hab _).mono ?_; rintro e w5 ⟨rfl, x5⟩
      have z5 : Ext w4 w5 := (Ext.refl _).trans x5
      obtain ⟨l0_5, p0_5, q0_5⟩ := Box.ext ⟨l0_4, p0_4, q0_4⟩ z5
      obtain ⟨l1_5, p1_5, q1_5⟩ := Box.ext ⟨l1_4, p1_4, q1_4⟩ z5
      obtain ⟨l2_5, p2_5, q2_5⟩ := Box.ext ⟨l2_4, p2_4, q2_4⟩ z5
      have Y5 : Ext w w5 := Y4.trans z5
      clear l0_4 p0_4 q0_4 l1_4 p1_4 q1_4 l2_4 p2_4 q2_4 z5 x5 Y4
      go_wp2_with fail
      refine (less_is hba _).mono ?_; rintro e w6 ⟨rfl, x6⟩
      have z6 : Ext w5 w6 := (Ext.refl _).trans x6
      obtain ⟨l0_6, p0_6, q0_6⟩ := Box.ext ⟨l0_5, p0_5, q0_5⟩ z6
      obtain ⟨l1_6, p1_6, q1_6⟩ := Box.ext ⟨l1_5, p1_5, q1_5⟩ z6
      obtain ⟨l2_6, p2_6, q2_6⟩ := Box.ext ⟨l2_5, p2_5, q2_5⟩ z6
      have Y6 : Ext w w6 := Y5.trans z6
      clear l0_5 p0_5 q0_5 l1_5 p1_5 q1_5 l2_5 p2_5 q2_5 z6 x6 Y5
      go_wp2_with fail
      refine (add_is s1 _).mono ?_; rintro e w7 ⟨rfl, x7⟩
      have z7 : Ext w6 w7 := (Ext.refl _).trans x7
      obtain ⟨l0_7, p0_7, q0_7⟩ := Box.ext ⟨l0_6, p0_6, q0_6⟩ z7
      obtain ⟨l1_7, p1_7, q1_7⟩ := Box.ext ⟨l1_6, p1_6, q1_6⟩ z7
      obtain ⟨l2_7, p2_7, q2_7⟩ := Box.ext ⟨l2_6, p2_6, q2_6⟩ z7
      have Y7 : Ext w w7 := Y6.trans z7
      clear l0_6 p0_6 q0_6 l1_6 p1_6 q1_6 l2_6 p2_6 q2_6 z7 x7 Y6
      go_wp2_with fail
      refine (add_is s2 _).mono ?_; rintro e w8 ⟨rfl, x8⟩
      have z8 : Ext w7 w8 := ((Ext.refl _).alloc _).trans x8
      obtain ⟨l0_8, p0_8, q0_8⟩ := Box.ext ⟨l0_7, p0_7, q0_7⟩ z8
      obtain ⟨l1_8, p1_8, q1_8⟩ := Box.ext ⟨l1_7, p1_7, q1_7⟩ z8
      obtain ⟨l2_8, p2_8, q2_8⟩ := Box.ext ⟨l2_7, p2_7, q2_7⟩ z8
      obtain ⟨l3_8, p3_8, q3_8⟩ := (Box.new w7 (u + u') (d + d') 23).ext x8
      have Y8 : Ext w w8 := Y7.trans z8
      clear l0_7 p0_7 q0_7 l1_7 p1_7 q1_7 l2_7 p2_7 q2_7 z8 x8 Y7
      generalize w7.heap.size = r8 at *
      go_wp2_with fail
      refine (add_is s3 _).mono ?_; rintro e w9 ⟨rfl, x9⟩
      have z9 : Ext w8 w9 := ((Ext.refl _).alloc _).trans x9
      obtain ⟨l0_9, p0_9, q0_9⟩ := Box.ext ⟨l0_8, p0_8, q0_8⟩ z9
      obtain ⟨l1_9, p1_9, q1_9⟩ := Box.ext ⟨l1_8, p1_8, q1_8⟩ z9
      obtain ⟨l2_9, p2_9, q2_9⟩ := Box.ext ⟨l2_8, p2_8, q2_8⟩ z9
      obtain ⟨l3_9, p3_9, q3_9⟩ := Box.ext ⟨l3_8, p3_8, q3_8⟩ z9
      obtain ⟨l4_9, p4_9, q4_9⟩ := (Box.new w8 (u + u') (d + d') 23).ext x9
      have Y9 : Ext w w9 := Y8.trans z9
      clear l0_8 p0_8 q0_8 l1_8 p1_8 q1_8 l2_8 p2_8 q2_8 l3_8 p3_8 q3_8 z9 x9 Y8
      generalize w8.heap.size = r9 at *
      go_wp2_with fail
      refine (add_is s4 _).mono ?_; rintro e w10 ⟨rfl, x10⟩
      have z10 : Ext w9 w10 := ((Ext.refl _).alloc _).trans x10
      obtain ⟨l0_10, p0_10, q0_10⟩ := Box.ext ⟨l0_9, p0_9, q0_9⟩ z10
      obtain ⟨l1_10, p1_10, q1_10⟩ := Box.ext ⟨l1_9, p1_9, q1_9⟩ z10
      obtain ⟨l2_10, p2_10, q2_10⟩ := Box.ext ⟨l2_9, p2_9, q2_9⟩ z10
      obtain ⟨l3_10, p3_10, q3_10⟩ := Box.ext ⟨l3_9, p3_9, q3_9⟩ z10
      obtain ⟨l4_10, p4_10, q4_10⟩ := Box.ext ⟨l4_9, p4_9, q4_9⟩ z10
      obtain ⟨l5_10, p5_10, q5_10⟩ := (Box.new w9 0 0 23).ext x10
      have Y10 : Ext w w10 := Y9.trans z10
      clear l0_9 p0_9 q0_9 l1_9 p1_9 q1_9 l2_9 p2_9 q2_9 l3_9 p3_9 q3_9 l4_9 p4_9 q4_9 z10 x10 Y9
      generalize w9.heap.size = r10 at *
      go_wp2_with fail
      refine (add_is s5 _).mono ?_; rintro e w11 ⟨rfl, x11⟩
      have z11 : Ext w10 w11 := ((Ext.refl _).alloc _).trans x11
      obtain ⟨l0_11, p0_11, q0_11⟩ := Box.ext ⟨l0_10, p0_10, q0_10⟩ z11
      obtain ⟨l1_11, p1_11, q1_11⟩ := Box.ext ⟨l1_10, p1_10, q1_10⟩ z11
      obtain ⟨l2_11, p2_11, q2_11⟩ := Box.ext ⟨l2_10, p2_10, q2_10⟩ z11
      obtain ⟨l3_11, p3_11, q3_11⟩ := Box.ext ⟨l3_10, p3_10, q3_10⟩ z11
      obtain ⟨l4_11, p4_11, q4_11⟩ := Box.ext ⟨l4_10, p4_10, q4_10⟩ z11
      obtain ⟨l5_11, p5_11, q5_11⟩ := Box.ext ⟨l5_10, p5_10, q5_10⟩ z11
      obtain ⟨l6_11, p6_11, q6_11⟩ := (Box.new w10 x4 y4 23).ext x11
      have Y11 : Ext w w11 := Y10.trans z11
      clear l0_10 p0_10 q0_10 l1_10 p1_10 q1_10 l2_10 p2_10 q2_10 l3_10 p3_10 q3_10 l4_10 p4_10 q4_10 l5_10 p5_10 q5_10 z11 x11 Y10
      generalize w10.heap.size = r11 at *
      go_wp2_with fail
      go_ret
      exact ⟨rfl, Y11.alloc _⟩
    | true =>
      have s3 := sumV_yes h3
      cases h4 : addB (u + u') (d + d') p q with
      | false =>
        have s4 := sumV_no h4
        obtain ⟨x5, y5, e5, s5⟩ := sumV_some u d (u' + p) (d' + q)
        go_enter Try.func8, Try.ntmps8
        go_wp2_with fail
        refine (L05.awake_any _).mono ?_; rintro e w1 ⟨rfl, x1⟩
        obtain ⟨⟨l0_1, p0_1, q0_1⟩, ⟨l1_1, p1_1, q1_1⟩, ⟨l2_1, p2_1, q2_1⟩⟩ := boxes3 x1
        have Y1 : Ext w w1 := ((((Ext.refl _).alloc _).alloc _).alloc _).trans x1
        clear x1
        generalize w.heap.size = r0 at *
        go_wp2_with fail
        refine (less_is hab _).mono ?_; rintro e w2 ⟨rfl, x2⟩
        have z2 : Ext w1 w2 := (Ext.refl _).trans x2
        obtain ⟨l0_2, p0_2, q0_2⟩ := Box.ext ⟨l0_1, p0_1, q0_1⟩ z2
        obtain ⟨l1_2, p1_2, q1_2⟩ := Box.ext ⟨l1_1, p1_1, q1_1⟩ z2
        obtain ⟨l2_2, p2_2, q2_2⟩ := Box.ext ⟨l2_1, p2_1, q2_1⟩ z2
        have Y2 : Ext w w2 := Y1.trans z2
        clear l0_1 p0_1 q0_1 l1_1 p1_1 q1_1 l2_1 p2_1 q2_1 z2 x2 Y1
        go_wp2_with fail
        refine (less_is hbc _).mono ?_; rintro e w3 ⟨rfl, x3⟩
        have z3 : Ext w2 w3 := (Ext.refl _).trans x3
        obtain ⟨l0_3, p0_3, q0_3⟩ := Box.ext ⟨l0_2, p0_2, q0_2⟩ z3
        obtain ⟨l1_3, p1_3, q1_3⟩ := Box.ext ⟨l1_2, p1_2, q1_2⟩ z3
        obtain ⟨l2_3, p2_3, q2_3⟩ := Box.ext ⟨l2_2, p2_2, q2_2⟩ z3
        have Y3 : Ext w w3 := Y2.trans z3
        clear l0_2 p0_2 q0_2 l1_2 p1_2 q1_2 l2_2 p2_2 q2_2 z3 x3 Y2
        go_wp2_with fail
        refine (less_is haa _).mono ?_; rintro e w4 ⟨rfl, x4⟩
        have z4 : Ext w3 w4 := (Ext.refl _).trans x4
        obtain ⟨l0_4, p0_4, q0_4⟩ := Box.ext ⟨l0_3, p0_3, q0_3⟩ z4
        obtain ⟨l1_4, p1_4, q1_4⟩ := Box.ext ⟨l1_3, p1_3, q1_3⟩ z4
        obtain ⟨l2_4, p2_4, q2_4⟩ := Box.ext ⟨l2_3, p2_3, q2_3⟩ z4
        have Y4 : Ext w w4 := Y3.trans z4
        clear l0_3 p0_3 q0_3 l1_3 p1_3 q1_3 l2_3 p2_3 q2_3 z4 x4 Y3
        go_wp2_with fail
        refine (less_is hab _).mono ?_; rintro e w5 ⟨rfl, x5⟩
        have z5 : Ext w4 w5 := (Ext.refl _).trans x5
        obtain ⟨l0_5, p0_5, q0_5⟩ := Box.ext ⟨l0_4, p0_4, q0_4⟩ z5
        obtain ⟨l1_5, p1_5, q1_5⟩ := Box.ext ⟨l1_4, p1_4, q1_4⟩ z5
        obtain ⟨l2_5, p2_5, q2_5⟩ := Box.ext ⟨l2_4, p2_4, q2_4⟩ z5
        have Y5 : Ext w w5 := Y4.trans z5
        clear l0_4 p0_4 q0_4 l1_4 p1_4 q1_4 l2_4 p2_4 q2_4 z5 x5 Y4
        go_wp2_with fail
        refine (less_is hba _).mono ?_; rintro e w6 ⟨rfl, x6⟩
        have z6 : Ext w5 w6 := (Ext.refl _).trans x6
        obtain ⟨l0_6, p0_6, q0_6⟩ := Box.ext ⟨l0_5, p0_5, q0_5⟩ z6
        obtain ⟨l1_6, p1_6, q1_6⟩ := Box.ext ⟨l1_5, p1_5, q1_5⟩ z6
        obtain ⟨l2_6, p2_6, q2_6⟩ := Box.ext ⟨l2_5, p2_5, q2_5⟩ z6
        have Y6 : Ext w w6 := Y5.trans z6
        clear l0_5 p0_5 q0_5 l1_5 p1_5 q1_5 l2_5 p2_5 q2_5 z6 x6 Y5
        go_wp2_with fail
        refine (add_is s1 _).mono ?_; rintro e w7 ⟨rfl, x7⟩
        have z7 : Ext w6 w7 := (Ext.refl _).trans x7
        obtain ⟨l0_7, p0_7, q0_7⟩ := Box.ext ⟨l0_6, p0_6, q0_6⟩ z7
        obtain ⟨l1_7, p1_7, q1_7⟩ := Box.ext ⟨l1_6, p1_6, q1_6⟩ z7
        obtain ⟨l2_7, p2_7, q2_7⟩ := Box.ext ⟨l2_6, p2_6, q2_6⟩ z7
        have Y7 : Ext w w7 := Y6.trans z7
        clear l0_6 p0_6 q0_6 l1_6 p1_6 q1_6 l2_6 p2_6 q2_6 z7 x7 Y6
        go_wp2_with fail
        refine (add_is s2 _).mono ?_; rintro e w8 ⟨rfl, x8⟩
        have z8 : Ext w7 w8 := ((Ext.refl _).alloc _).trans x8
        obtain ⟨l0_8, p0_8, q0_8⟩ := Box.ext ⟨l0_7, p0_7, q0_7⟩ z8
        obtain ⟨l1_8, p1_8, q1_8⟩ := Box.ext ⟨l1_7, p1_7, q1_7⟩ z8
        obtain ⟨l2_8, p2_8, q2_8⟩ := Box.ext ⟨l2_7, p2_7, q2_7⟩ z8
        obtain ⟨l3_8, p3_8, q3_8⟩ := (Box.new w7 (u + u') (d + d') 23).ext x8
        have Y8 : Ext w w8 := Y7.trans z8
        clear l0_7 p0_7 q0_7 l1_7 p1_7 q1_7 l2_7 p2_7 q2_7 z8 x8 Y7
        generalize w7.heap.size = r8 at *
        go_wp2_with fail
        refine (add_is s3 _).mono ?_; rintro e w9 ⟨rfl, x9⟩
        have z9 : Ext w8 w9 := ((Ext.refl _).alloc _).trans x9
        obtain ⟨l0_9, p0_9, q0_9⟩ := Box.ext ⟨l0_8, p0_8, q0_8⟩ z9
        obtain ⟨l1_9, p1_9, q1_9⟩ := Box.ext ⟨l1_8, p1_8, q1_8⟩ z9
        obtain ⟨l2_9, p2_9, q2_9⟩ := Box.ext ⟨l2_8, p2_8, q2_8⟩ z9
        obtain ⟨l3_9, p3_9, q3_9⟩ := Box.ext ⟨l3_8, p3_8, q3_8⟩ z9
        obtain ⟨l4_9, p4_9, q4_9⟩ := (Box.new w8 (u + u') (d + d') 23).ext x9
        have Y9 : Ext w w9 := Y8.trans z9
        clear l0_8 p0_8 q0_8 l1_8 p1_8 q1_8 l2_8 p2_8 q2_8 l3_8 p3_8 q3_8 z9 x9 Y8
        generalize w8.heap.size = r9 at *
        go_wp2_with fail
        refine (add_is s4 _).mono ?_; rintro e w10 ⟨rfl, x10⟩
        have z10 : Ext w9 w10 := ((Ext.refl _).alloc _).trans x10
        obtain ⟨l0_10, p0_10, q0_10⟩ := Box.ext ⟨l0_9, p0_9, q0_9⟩ z10
        obtain ⟨l1_10, p1_10, q1_10⟩ := Box.ext ⟨l1_9, p1_9, q1_9⟩ z10
        obtain ⟨l2_10, p2_10, q2_10⟩ := Box.ext ⟨l2_9, p2_9, q2_9⟩ z10
        obtain ⟨l3_10, p3_10, q3_10⟩ := Box.ext ⟨l3_9, p3_9, q3_9⟩ z10
        obtain ⟨l4_10, p4_10, q4_10⟩ := Box.ext ⟨l4_9, p4_9, q4_9⟩ z10
        obtain ⟨l5_10, p5_10, q5_10⟩ := (Box.new w9 (u' + p) (d' + q) 23).ext x10
        have Y10 : Ext w w10 := Y9.trans z10
        clear l0_9 p0_9 q0_9 l1_9 p1_9 q1_9 l2_9 p2_9 q2_9 l3_9 p3_9 q3_9 l4_9 p4_9 q4_9 z10 x10 Y9
        generalize w9.heap.size = r10 at *
        go_wp2_with fail
        refine (add_is s5 _).mono ?_; rintro e w11 ⟨rfl, x11⟩
        have z11 : Ext w10 w11 := ((Ext.refl _).alloc _).trans x11
        obtain ⟨l0_11, p0_11, q0_11⟩ := Box.ext ⟨l0_10, p0_10, q0_10⟩ z11
        obtain ⟨l1_11, p1_11, q1_11⟩ := Box.ext ⟨l1_10, p1_10, q1_10⟩ z11
        obtain ⟨l2_11, p2_11, q2_11⟩ := Box.ext ⟨l2_10, p2_10, q2_10⟩ z11
        obtain ⟨l3_11, p3_11, q3_11⟩ := Box.ext ⟨l3_10, p3_10, q3_10⟩ z11
        obtain ⟨l4_11, p4_11, q4_11⟩ := Box.ext ⟨l4_10, p4_10, q4_10⟩ z11
        obtain ⟨l5_11, p5_11, q5_11⟩ := Box.ext ⟨l5_10, p5_10, q5_10⟩ z11
        obtain ⟨l6_11, p6_11, q6_11⟩ := (Box.new w10 0 0 23).ext x11
        have Y11 : Ext w w11 := Y10.trans z11
        clear l0_10 p0_10 q0_10 l1_10 p1_10 q1_10 l2_10 p2_10 q2_10 l3_10 p3_10 q3_10 l4_10 p4_10 q4_10 l5_10 p5_10 q5_10 z11 x11 Y10
        generalize w10.heap.size = r11 at *
        go_wp2_with fail
        go_ret
        exact ⟨rfl, Y11.alloc _⟩
      | true =>
        have s4 := sumV_yes h4
        have s5 := sumV_yes (group h1 h3 h4)
        rw [← Int.add_assoc, ← Int.add_assoc] at s5
        go_enter Try.func8, Try.ntmps8
        go_wp2_with fail
        refine (L05.awake_any _).mono ?_; rintro e w1 ⟨rfl, x1⟩
        obtain ⟨⟨l0_1, p0_1, q0_1⟩, ⟨l1_1, p1_1, q1_1⟩, ⟨l2_1, p2_1, q2_1⟩⟩ := boxes3 x1
        have Y1 : Ext w w1 := ((((Ext.refl _).alloc _).alloc _).alloc _).trans x1
        clear x1
        generalize w.heap.size = r0 at *
        go_wp2_with fail
        refine (less_is hab _).mono ?_; rintro e w2 ⟨rfl, x2⟩
        have z2 : Ext w1 w2 := (Ext.refl _).trans x2
        obtain ⟨l0_2, p0_2, q0_2⟩ := Box.ext ⟨l0_1, p0_1, q0_1⟩ z2
        obtain ⟨l1_2, p1_2, q1_2⟩ := Box.ext ⟨l1_1, p1_1, q1_1⟩ z2
        obtain ⟨l2_2, p2_2, q2_2⟩ := Box.ext ⟨l2_1, p2_1, q2_1⟩ z2
        have Y2 : Ext w w2 := Y1.trans z2
        clear l0_1 p0_1 q0_1 l1_1 p1_1 q1_1 l2_1 p2_1 q2_1 z2 x2 Y1
        go_wp2_with fail
        refine (less_is hbc _).mono ?_; rintro e w3 ⟨rfl, x3⟩
        have z3 : Ext w2 w3 := (Ext.refl _).trans x3
        obtain ⟨l0_3, p0_3, q0_3⟩ := Box.ext ⟨l0_2, p0_2, q0_2⟩ z3
        obtain ⟨l1_3, p1_3, q1_3⟩ := Box.ext ⟨l1_2, p1_2, q1_2⟩ z3
        obtain ⟨l2_3, p2_3, q2_3⟩ := Box.ext ⟨l2_2, p2_2, q2_2⟩ z3
        have Y3 : Ext w w3 := Y2.trans z3
        clear l0_2 p0_2 q0_2 l1_2 p1_2 q1_2 l2_2 p2_2 q2_2 z3 x3 Y2
        go_wp2_with fail
        refine (less_is haa _).mono ?_; rintro e w4 ⟨rfl, x4⟩
        have z4 : Ext w3 w4 := (Ext.refl _).trans x4
        obtain ⟨l0_4, p0_4, q0_4⟩ := Box.ext ⟨l0_3, p0_3, q0_3⟩ z4
        obtain ⟨l1_4, p1_4, q1_4⟩ := Box.ext ⟨l1_3, p1_3, q1_3⟩ z4
        obtain ⟨l2_4, p2_4, q2_4⟩ := Box.ext ⟨l2_3, p2_3, q2_3⟩ z4
        have Y4 : Ext w w4 := Y3.trans z4
        clear l0_3 p0_3 q0_3 l1_3 p1_3 q1_3 l2_3 p2_3 q2_3 z4 x4 Y3
        go_wp2_with fail
        refine (less_is hab _).mono ?_; rintro e w5 ⟨rfl, x5⟩
        have z5 : Ext w4 w5 := (Ext.refl _).trans x5
        obtain ⟨l0_5, p0_5, q0_5⟩ := Box.ext ⟨l0_4, p0_4, q0_4⟩ z5
        obtain ⟨l1_5, p1_5, q1_5⟩ := Box.ext ⟨l1_4, p1_4, q1_4⟩ z5
        obtain ⟨l2_5, p2_5, q2_5⟩ := Box.ext ⟨l2_4, p2_4, q2_4⟩ z5
        have Y5 : Ext w w5 := Y4.trans z5
        clear l0_4 p0_4 q0_4 l1_4 p1_4 q1_4 l2_4 p2_4 q2_4 z5 x5 Y4
        go_wp2_with fail
        refine (less_is hba _).mono ?_; rintro e w6 ⟨rfl, x6⟩
        have z6 : Ext w5 w6 := (Ext.refl _).trans x6
        obtain ⟨l0_6, p0_6, q0_6⟩ := Box.ext ⟨l0_5, p0_5, q0_5⟩ z6
        obtain ⟨l1_6, p1_6, q1_6⟩ := Box.ext ⟨l1_5, p1_5, q1_5⟩ z6
        obtain ⟨l2_6, p2_6, q2_6⟩ := Box.ext ⟨l2_5, p2_5, q2_5⟩ z6
        have Y6 : Ext w w6 := Y5.trans z6
        clear l0_5 p0_5 q0_5 l1_5 p1_5 q1_5 l2_5 p2_5 q2_5 z6 x6 Y5
        go_wp2_with fail
        refine (add_is s1 _).mono ?_; rintro e w7 ⟨rfl, x7⟩
        have z7 : Ext w6 w7 := (Ext.refl _).trans x7
        obtain ⟨l0_7, p0_7, q0_7⟩ := Box.ext ⟨l0_6, p0_6, q0_6⟩ z7
        obtain ⟨l1_7, p1_7, q1_7⟩ := Box.ext ⟨l1_6, p1_6, q1_6⟩ z7
        obtain ⟨l2_7, p2_7, q2_7⟩ := Box.ext ⟨l2_6, p2_6, q2_6⟩ z7
        have Y7 : Ext w w7 := Y6.trans z7
        clear l0_6 p0_6 q0_6 l1_6 p1_6 q1_6 l2_6 p2_6 q2_6 z7 x7 Y6
        go_wp2_with fail
        refine (add_is s2 _).mono ?_; rintro e w8 ⟨rfl, x8⟩
        have z8 : Ext w7 w8 := ((Ext.refl _).alloc _).trans x8
        obtain ⟨l0_8, p0_8, q0_8⟩ := Box.ext ⟨l0_7, p0_7, q0_7⟩ z8
        obtain ⟨l1_8, p1_8, q1_8⟩ := Box.ext ⟨l1_7, p1_7, q1_7⟩ z8
        obtain ⟨l2_8, p2_8, q2_8⟩ := Box.ext ⟨l2_7, p2_7, q2_7⟩ z8
        obtain ⟨l3_8, p3_8, q3_8⟩ := (Box.new w7 (u + u') (d + d') 23).ext x8
        have Y8 : Ext w w8 := Y7.trans z8
        clear l0_7 p0_7 q0_7 l1_7 p1_7 q1_7 l2_7 p2_7 q2_7 z8 x8 Y7
        generalize w7.heap.size = r8 at *
        go_wp2_with fail
        refine (add_is s3 _).mono ?_; rintro e w9 ⟨rfl, x9⟩
        have z9 : Ext w8 w9 := ((Ext.refl _).alloc _).trans x9
        obtain ⟨l0_9, p0_9, q0_9⟩ := Box.ext ⟨l0_8, p0_8, q0_8⟩ z9
        obtain ⟨l1_9, p1_9, q1_9⟩ := Box.ext ⟨l1_8, p1_8, q1_8⟩ z9
        obtain ⟨l2_9, p2_9, q2_9⟩ := Box.ext ⟨l2_8, p2_8, q2_8⟩ z9
        obtain ⟨l3_9, p3_9, q3_9⟩ := Box.ext ⟨l3_8, p3_8, q3_8⟩ z9
        obtain ⟨l4_9, p4_9, q4_9⟩ := (Box.new w8 (u + u') (d + d') 23).ext x9
        have Y9 : Ext w w9 := Y8.trans z9
        clear l0_8 p0_8 q0_8 l1_8 p1_8 q1_8 l2_8 p2_8 q2_8 l3_8 p3_8 q3_8 z9 x9 Y8
        generalize w8.heap.size = r9 at *
        go_wp2_with fail
        refine (add_is s4 _).mono ?_; rintro e w10 ⟨rfl, x10⟩
        have z10 : Ext w9 w10 := ((Ext.refl _).alloc _).trans x10
        obtain ⟨l0_10, p0_10, q0_10⟩ := Box.ext ⟨l0_9, p0_9, q0_9⟩ z10
        obtain ⟨l1_10, p1_10, q1_10⟩ := Box.ext ⟨l1_9, p1_9, q1_9⟩ z10
        obtain ⟨l2_10, p2_10, q2_10⟩ := Box.ext ⟨l2_9, p2_9, q2_9⟩ z10
        obtain ⟨l3_10, p3_10, q3_10⟩ := Box.ext ⟨l3_9, p3_9, q3_9⟩ z10
        obtain ⟨l4_10, p4_10, q4_10⟩ := Box.ext ⟨l4_9, p4_9, q4_9⟩ z10
        obtain ⟨l5_10, p5_10, q5_10⟩ := (Box.new w9 (u' + p) (d' + q) 23).ext x10
        have Y10 : Ext w w10 := Y9.trans z10
        clear l0_9 p0_9 q0_9 l1_9 p1_9 q1_9 l2_9 p2_9 q2_9 l3_9 p3_9 q3_9 l4_9 p4_9 q4_9 z10 x10 Y9
        generalize w9.heap.size = r10 at *
        go_wp2_with fail
        refine (add_is s5 _).mono ?_; rintro e w11 ⟨rfl, x11⟩
        have z11 : Ext w10 w11 := ((Ext.refl _).alloc _).trans x11
        obtain ⟨l0_11, p0_11, q0_11⟩ := Box.ext ⟨l0_10, p0_10, q0_10⟩ z11
        obtain ⟨l1_11, p1_11, q1_11⟩ := Box.ext ⟨l1_10, p1_10, q1_10⟩ z11
        obtain ⟨l2_11, p2_11, q2_11⟩ := Box.ext ⟨l2_10, p2_10, q2_10⟩ z11
        obtain ⟨l3_11, p3_11, q3_11⟩ := Box.ext ⟨l3_10, p3_10, q3_10⟩ z11
        obtain ⟨l4_11, p4_11, q4_11⟩ := Box.ext ⟨l4_10, p4_10, q4_10⟩ z11
        obtain ⟨l5_11, p5_11, q5_11⟩ := Box.ext ⟨l5_10, p5_10, q5_10⟩ z11
        obtain ⟨l6_11, p6_11, q6_11⟩ := (Box.new w10 (u + u' + p) (d + d' + q) 23).ext x11
        have Y11 : Ext w w11 := Y10.trans z11
        clear l0_10 p0_10 q0_10 l1_10 p1_10 q1_10 l2_10 p2_10 q2_10 l3_10 p3_10 q3_10 l4_10 p4_10 q4_10 l5_10 p5_10 q5_10 z11 x11 Y10
        generalize w10.heap.size = r11 at *
        go_wp2_with fail
        go_ret
        exact ⟨rfl, Y11.alloc _⟩

set_option maxHeartbeats 2000000 in
theorem wayC (u d u' d' p q : Int) (w : World) (hab : lessB u d u' d' = false) : Calls Try.prog 8 #[.agg #[.int .i64 u, .int .i64 d], .agg #[.int .i64 u', .int .i64 d'], .agg #[.int .i64 p, .int .i64 q]] w (Ret w (.bool true)) := by
  have haa := less_self u d
  cases h1 : addB u d u' d' with
  | false =>
    have s1 := sumV_no h1
    have s2 := s1
    rw [sumV_comm] at s2
    obtain ⟨x3, y3, e3, s3⟩ := sumV_some u' d' p q
    obtain ⟨x4, y4, e4, s4⟩ := sumV_some 0 0 p q
    obtain ⟨x5, y5, e5, s5⟩ := sumV_some u d x3 y3
    go_enter Try.func8, Try.ntmps8
    go_wp2_with fail
    refine (L05.awake_any _).mono ?_; rintro e w1 ⟨rfl, x1⟩
    obtain ⟨⟨l0_1, p0_1, q0_1⟩, ⟨l1_1, p1_1, q1_1⟩, ⟨l2_1, p2_1, q2_1⟩⟩ := boxes3 x1
    have Y1 : Ext w w1 := ((((Ext.refl _).alloc _).alloc _).alloc _).trans x1
    clear x1
    generalize w.heap.size = r0 at *
    go_wp2_with fail
    refine (less_is hab _).mono ?_; rintro e w2 ⟨rfl, x2⟩
    have z2 : Ext w1 w2 := (Ext.refl _).trans x2
    obtain ⟨l0_2, p0_2, q0_2⟩ := Box.ext ⟨l0_1, p0_1, q0_1⟩ z2
    obtain ⟨l1_2, p1_2, q1_2⟩ := Box.ext ⟨l1_1, p1_1, q1_1⟩ z2
    obtain ⟨l2_2, p2_2, q2_2⟩ := Box.ext ⟨l2_1, p2_1, q2_1⟩ z2
    have Y2 : Ext w w2 := Y1.trans z2
    clear l0_1 p0_1 q0_1 l1_1 p1_1 q1_1 l2_1 p2_1 q2_1 z2 x2 Y1
    go_wp2_with fail
    refine (less_is haa _).mono ?_; rintro e w3 ⟨rfl, x3⟩
    have z3 : Ext w2 w3 := (Ext.refl _).trans x3
    obtain ⟨l0_3, p0_3, q0_3⟩ := Box.ext ⟨l0_2, p0_2, q0_2⟩ z3
    obtain ⟨l1_3, p1_3, q1_3⟩ := Box.ext ⟨l1_2, p1_2, q1_2⟩ z3
    obtain ⟨l2_3, p2_3, q2_3⟩ := Box.ext ⟨l2_2, p2_2, q2_2⟩ z3
    have Y3 : Ext w w3 := Y2.trans z3
    clear l0_2 p0_2 q0_2 l1_2 p1_2 q1_2 l2_2 p2_2 q2_2 z3 x3 Y2
    go_wp2_with fail
    refine (less_is hab _).mono ?_; rintro e w4 ⟨rfl, x4⟩
    have z4 : Ext w3 w4 := (Ext.refl _).trans x4
    obtain ⟨l0_4, p0_4, q0_4⟩ := Box.ext ⟨l0_3, p0_3, q0_3⟩ z4
    obtain ⟨l1_4, p1_4, q1_4⟩ := Box.ext ⟨l1_3, p1_3, q1_3⟩ z4
    obtain ⟨l2_4, p2_4, q2_4⟩ := Box.ext ⟨l2_3, p2_3, q2_3⟩ z4
    have Y4 : Ext w w4 := Y3.trans z4
    clear l0_3 p0_3 q0_3 l1_3 p1_3 q1_3 l2_3 p2_3 q2_3 z4 x4 Y3
    go_wp2_with fail
    refine (add_is s1 _).mono ?_; rintro e w5 ⟨rfl, x5⟩
    have z5 : Ext w4 w5 := (Ext.refl _).trans x5
    obtain ⟨l0_5, p0_5, q0_5⟩ := Box.ext ⟨l0_4, p0_4, q0_4⟩ z5
    obtain ⟨l1_5, p1_5, q1_5⟩ := Box.ext ⟨l1_4, p1_4, q1_4⟩ z5
    obtain ⟨l2_5, p2_5, q2_5⟩ := Box.ext ⟨l2_4, p2_4, q2_4⟩ z5
    have Y5 : Ext w w5 := Y4.trans z5
    clear l0_4 p0_4 q0_4 l1_4 p1_4 q1_4 l2_4 p2_4 q2_4 z5 x5 Y4
    go_wp2_with fail
    refine (add_is s2 _).mono ?_; rintro e w6 ⟨rfl, x6⟩
    have z6 : Ext w5 w6 := ((Ext.refl _).alloc _).trans x6
    obtain ⟨l0_6, p0_6, q0_6⟩ := Box.ext ⟨l0_5, p0_5, q0_5⟩ z6
    obtain ⟨l1_6, p1_6, q1_6⟩ := Box.ext ⟨l1_5, p1_5, q1_5⟩ z6
    obtain ⟨l2_6, p2_6, q2_6⟩ := Box.ext ⟨l2_5, p2_5, q2_5⟩ z6
    obtain ⟨l3_6, p3_6, q3_6⟩ := (Box.new w5 0 0 23).ext x6
    have Y6 : Ext w w6 := Y5.trans z6
    clear l0_5 p0_5 q0_5 l1_5 p1_5 q1_5 l2_5 p2_5 q2_5 z6 x6 Y5
    generalize w5.heap.size = r6 at *
    go_wp2_with fail
    refine (add_is s3 _).mono ?_; rintro e w7 ⟨rfl, x7⟩
    have z7 : Ext w6 w7 := ((Ext.refl _).alloc _).trans x7
    obtain ⟨l0_7, p0_7, q0_7⟩ := Box.ext ⟨l0_6, p0_6, q0_6⟩ z7
    obtain ⟨l1_7, p1_7, q1_7⟩ := Box.ext ⟨l1_6, p1_6, q1_6⟩ z7
    obtain ⟨l2_7, p2_7, q2_7⟩ := Box.ext ⟨l2_6, p2_6, q2_6⟩ z7
    obtain ⟨l3_7, p3_7, q3_7⟩ := Box.ext ⟨l3_6, p3_6, q3_6⟩ z7
    obtain ⟨l4_7, p4_7, q4_7⟩ := (Box.new w6 0 0 23).ext x7
    have Y7 : Ext w w7 := Y6.trans z7
    clear l0_6 p0_6 q0_6 l1_6 p1_6 q1_6 l2_6 p2_6 q2_6 l3_6 p3_6 q3_6 z7 x7 Y6
    generalize w6.heap.size = r7 at *
    go_wp2_with fail
    refine (add_is s4 _).mono ?_; rintro e w8 ⟨rfl, x8⟩
    have z8 : Ext w7 w8 := ((Ext.refl _).alloc _).trans x8
    obtain ⟨l0_8, p0_8, q0_8⟩ := Box.ext ⟨l0_7, p0_7, q0_7⟩ z8
    obtain ⟨l1_8, p1_8, q1_8⟩ := Box.ext ⟨l1_7, p1_7, q1_7⟩ z8
    obtain ⟨l2_8, p2_8, q2_8⟩ := Box.ext ⟨l2_7, p2_7, q2_7⟩ z8
    obtain ⟨l3_8, p3_8, q3_8⟩ := Box.ext ⟨l3_7, p3_7, q3_7⟩ z8
    obtain ⟨l4_8, p4_8, q4_8⟩ := Box.ext ⟨l4_7, p4_7, q4_7⟩ z8
    obtain ⟨l5_8, p5_8, q5_8⟩ := (Box.new w7 x3 y3 23).ext x8
    have Y8 : Ext w w8 := Y7.trans z8
    clear l0_7 p0_7 q0_7 l1_7 p1_7 q1_7 l2_7 p2_7 q2_7 l3_7 p3_7 q3_7 l4_7 p4_7 q4_7 z8 x8 Y7
    generalize w7.heap.size = r8 at *
    go_wp2_with fail
    refine (add_is s5 _).mono ?_; rintro e w9 ⟨rfl, x9⟩
    have z9 : Ext w8 w9 := ((Ext.refl _).alloc _).trans x9
    obtain ⟨l0_9, p0_9, q0_9⟩ := Box.ext ⟨l0_8, p0_8, q0_8⟩ z9
    obtain ⟨l1_9, p1_9, q1_9⟩ := Box.ext ⟨l1_8, p1_8, q1_8⟩ z9
    obtain ⟨l2_9, p2_9, q2_9⟩ := Box.ext ⟨l2_8, p2_8, q2_8⟩ z9
    obtain ⟨l3_9, p3_9, q3_9⟩ := Box.ext ⟨l3_8, p3_8, q3_8⟩ z9
    obtain ⟨l4_9, p4_9, q4_9⟩ := Box.ext ⟨l4_8, p4_8, q4_8⟩ z9
    obtain ⟨l5_9, p5_9, q5_9⟩ := Box.ext ⟨l5_8, p5_8, q5_8⟩ z9
    obtain ⟨l6_9, p6_9, q6_9⟩ := (Box.new w8 x4 y4 23).ext x9
    have Y9 : Ext w w9 := Y8.trans z9
    clear l0_8 p0_8 q0_8 l1_8 p1_8 q1_8 l2_8 p2_8 q2_8 l3_8 p3_8 q3_8 l4_8 p4_8 q4_8 l5_8 p5_8 q5_8 z9 x9 Y8
    generalize w8.heap.size = r9 at *
    go_wp2_with fail
    go_ret
    exact ⟨rfl, Y9.alloc _⟩
  | true =>
    have s1 := sumV_yes h1
    have s2 := s1
    rw [sumV_comm] at s2
    cases h3 : addB u' d' p q with
    | false =>
      have s3 := sumV_no h3
      obtain ⟨x4, y4, e4, s4⟩ := sumV_some (u + u') (d + d') p q
      obtain ⟨x5, y5, e5, s5⟩ := sumV_some u d 0 0
      go_enter Try.func8, Try.ntmps8
      go_wp2_with fail
      refine (L05.awake_any _).mono ?_; rintro e w1 ⟨rfl, x1⟩
      obtain ⟨⟨l0_1, p0_1, q0_1⟩, ⟨l1_1, p1_1, q1_1⟩, ⟨l2_1, p2_1, q2_1⟩⟩ := boxes3 x1
      have Y1 : Ext w w1 := ((((Ext.refl _).alloc _).alloc _).alloc _).trans x1
      clear x1
      generalize w.heap.size = r0 at *
      go_wp2_with fail
      refine (less_is hab _).mono ?_; rintro e w2 ⟨rfl, x2⟩
      have z2 : Ext w1 w2 := (Ext.refl _).trans x2
      obtain ⟨l0_2, p0_2, q0_2⟩ := Box.ext ⟨l0_1, p0_1, q0_1⟩ z2
      obtain ⟨l1_2, p1_2, q1_2⟩ := Box.ext ⟨l1_1, p1_1, q1_1⟩ z2
      obtain ⟨l2_2, p2_2, q2_2⟩ := Box.ext ⟨l2_1, p2_1, q2_1⟩ z2
      have Y2 : Ext w w2 := Y1.trans z2
      clear l0_1 p0_1 q0_1 l1_1 p1_1 q1_1 l2_1 p2_1 q2_1 z2 x2 Y1
      go_wp2_with fail
      refine (less_is haa _).mono ?_; rintro e w3 ⟨rfl, x3⟩
      have z3 : Ext w2 w3 := (Ext.refl _).trans x3
      obtain ⟨l0_3, p0_3, q0_3⟩ := Box.ext ⟨l0_2, p0_2, q0_2⟩ z3
      obtain ⟨l1_3, p1_3, q1_3⟩ := Box.ext ⟨l1_2, p1_2, q1_2⟩ z3
      obtain ⟨l2_3, p2_3, q2_3⟩ := Box.ext ⟨l2_2, p2_2, q2_2⟩ z3
      have Y3 : Ext w w3 := Y2.trans z3
      clear l0_2 p0_2 q0_2 l1_2 p1_2 q1_2 l2_2 p2_2 q2_2 z3 x3 Y2
      go_wp2_with fail
      refine (less_is hab _).mono ?_; rintro e w4 ⟨rfl, x4⟩
      have z4 : Ext w3 w4 := (Ext.refl _).trans x4
      obtain ⟨l0_4, p0_4, q0_4⟩ := Box.ext ⟨l0_3, p0_3, q0_3⟩ z4
      obtain ⟨l1_4, p1_4, q1_4⟩ := Box.ext ⟨l1_3, p1_3, q1_3⟩ z4
      obtain ⟨l2_4, p2_4, q2_4⟩ := Box.ext ⟨l2_3, p2_3, q2_3⟩ z4
      have Y4 : Ext w w4 := Y3.trans z4
      clear l0_3 p0_3 q0_3 l1_3 p1_3 q1_3 l2_3 p2_3 q2_3 z4 x4 Y3
      go_wp2_with fail
      refine (add_is s1 _).mono ?_; rintro e w5 ⟨rfl, x5⟩
      have z5 : Ext w4 w5 := (Ext.refl _).trans x5
      obtain ⟨l0_5, p0_5, q0_5⟩ := Box.ext ⟨l0_4, p0_4, q0_4⟩ z5
      obtain ⟨l1_5, p1_5, q1_5⟩ := Box.ext ⟨l1_4, p1_4, q1_4⟩ z5
      obtain ⟨l2_5, p2_5, q2_5⟩ := Box.ext ⟨l2_4, p2_4, q2_4⟩ z5
      have Y5 : Ext w w5 := Y4.trans z5
      clear l0_4 p0_4 q0_4 l1_4 p1_4 q1_4 l2_4 p2_4 q2_4 z5 x5 Y4
      go_wp2_with fail
      refine (add_is s2 _).mono ?_; rintro e w6 ⟨rfl, x6⟩
      have z6 : Ext w5 w6 := ((Ext.refl _).alloc _).trans x6
      obtain ⟨l0_6, p0_6, q0_6⟩ := Box.ext ⟨l0_5, p0_5, q0_5⟩ z6
      obtain ⟨l1_6, p1_6, q1_6⟩ := Box.ext ⟨l1_5, p1_5, q1_5⟩ z6
      obtain ⟨l2_6, p2_6, q2_6⟩ := Box.ext ⟨l2_5, p2_5, q2_5⟩ z6
      obtain ⟨l3_6, p3_6, q3_6⟩ := (Box.new w5 (u + u') (d + d') 23).ext x6
      have Y6 : Ext w w6 := Y5.trans z6
      clear l0_5 p0_5 q0_5 l1_5 p1_5 q1_5 l2_5 p2_5 q2_5 z6 x6 Y5
      generalize w5.heap.size = r6 at *
      go_wp2_with fail
      refine (add_is s3 _).mono ?_; rintro e w7 ⟨rfl, x7⟩
      have z7 : Ext w6 w7 := ((Ext.refl _).alloc _).trans x7
      obtain ⟨l0_7, p0_7, q0_7⟩ := Box.ext ⟨l0_6, p0_6, q0_6⟩ z7
      obtain ⟨l1_7, p1_7, q1_7⟩ := Box.ext ⟨l1_6, p1_6, q1_6⟩ z7
      obtain ⟨l2_7, p2_7, q2_7⟩ := Box.ext ⟨l2_6, p2_6, q2_6⟩ z7
      obtain ⟨l3_7, p3_7, q3_7⟩ := Box.ext ⟨l3_6, p3_6, q3_6⟩ z7
      obtain ⟨l4_7, p4_7, q4_7⟩ := (Box.new w6 (u + u') (d + d') 23).ext x7
      have Y7 : Ext w w7 := Y6.trans z7
      clear l0_6 p0_6 q0_6 l1_6 p1_6 q1_6 l2_6 p2_6 q2_6 l3_6 p3_6 q3_6 z7 x7 Y6
      generalize w6.heap.size = r7 at *
      go_wp2_with fail
      refine (add_is s4 _).mono ?_; rintro e w8 ⟨rfl, x8⟩
      have z8 : Ext w7 w8 := ((Ext.refl _).alloc _).trans x8
      obtain ⟨l0_8, p0_8, q0_8⟩ := Box.ext ⟨l0_7, p0_7, q0_7⟩ z8
      obtain ⟨l1_8, p1_8, q1_8⟩ := Box.ext ⟨l1_7, p1_7, q1_7⟩ z8
      obtain ⟨l2_8, p2_8, q2_8⟩ := Box.ext ⟨l2_7, p2_7, q2_7⟩ z8
      obtain ⟨l3_8, p3_8, q3_8⟩ := Box.ext ⟨l3_7, p3_7, q3_7⟩ z8
      obtain ⟨l4_8, p4_8, q4_8⟩ := Box.ext ⟨l4_7, p4_7, q4_7⟩ z8
      obtain ⟨l5_8, p5_8, q5_8⟩ := (Box.new w7 0 0 23).ext x8
      have Y8 : Ext w w8 := Y7.trans z8
      clear l0_7 p0_7 q0_7 l1_7 p1_7 q1_7 l2_7 p2_7 q2_7 l3_7 p3_7 q3_7 l4_7 p4_7 q4_7 z8 x8 Y7
      generalize w7.heap.size = r8 at *
      go_wp2_with fail
      refine (add_is s5 _).mono ?_; rintro e w9 ⟨rfl, x9⟩
      have z9 : Ext w8 w9 := ((Ext.refl _).alloc _).trans x9
      obtain ⟨l0_9, p0_9, q0_9⟩ := Box.ext ⟨l0_8, p0_8, q0_8⟩ z9
      obtain ⟨l1_9, p1_9, q1_9⟩ := Box.ext ⟨l1_8, p1_8, q1_8⟩ z9
      obtain ⟨l2_9, p2_9, q2_9⟩ := Box.ext ⟨l2_8, p2_8, q2_8⟩ z9
      obtain ⟨l3_9, p3_9, q3_9⟩ := Box.ext ⟨l3_8, p3_8, q3_8⟩ z9
      obtain ⟨l4_9, p4_9, q4_9⟩ := Box.ext ⟨l4_8, p4_8, q4_8⟩ z9
      obtain ⟨l5_9, p5_9, q5_9⟩ := Box.ext ⟨l5_8, p5_8, q5_8⟩ z9
      obtain ⟨l6_9, p6_9, q6_9⟩ := (Box.new w8 x4 y4 23).ext x9
      have Y9 : Ext w w9 := Y8.trans z9
      clear l0_8 p0_8 q0_8 l1_8 p1_8 q1_8 l2_8 p2_8 q2_8 l3_8 p3_8 q3_8 l4_8 p4_8 q4_8 l5_8 p5_8 q5_8 z9 x9 Y8
      generalize w8.heap.size = r9 at *
      go_wp2_with fail
      go_ret
      exact ⟨rfl, Y9.alloc _⟩
    | true =>
      have s3 := sumV_yes h3
      cases h4 : addB (u + u') (d + d') p q with
      | false =>
        have s4 := sumV_no h4
        obtain ⟨x5, y5, e5, s5⟩ := sumV_some u d (u' + p) (d' + q)
        go_enter Try.func8, Try.ntmps8
        go_wp2_with fail
        refine (L05.awake_any _).mono ?_; rintro e w1 ⟨rfl, x1⟩
        obtain ⟨⟨l0_1, p0_1, q0_1⟩, ⟨l1_1, p1_1, q1_1⟩, ⟨l2_1, p2_1, q2_1⟩⟩ := boxes3 x1
        have Y1 : Ext w w1 := ((((Ext.refl _).alloc _).alloc _).alloc _).trans x1
        clear x1
        generalize w.heap.size = r0 at *
        go_wp2_with fail
        refine (less_is hab _).mono ?_; rintro e w2 ⟨rfl, x2⟩
        have z2 : Ext w1 w2 := (Ext.refl _).trans x2
        obtain ⟨l0_2, p0_2, q0_2⟩ := Box.ext ⟨l0_1, p0_1, q0_1⟩ z2
        obtain ⟨l1_2, p1_2, q1_2⟩ := Box.ext ⟨l1_1, p1_1, q1_1⟩ z2
        obtain ⟨l2_2, p2_2, q2_2⟩ := Box.ext ⟨l2_1, p2_1, q2_1⟩ z2
        have Y2 : Ext w w2 := Y1.trans z2
        clear l0_1 p0_1 q0_1 l1_1 p1_1 q1_1 l2_1 p2_1 q2_1 z2 x2 Y1
        go_wp2_with fail
        refine (less_is haa _).mono ?_; rintro e w3 ⟨rfl, x3⟩
        have z3 : Ext w2 w3 := (Ext.refl _).trans x3
        obtain ⟨l0_3, p0_3, q0_3⟩ := Box.ext ⟨l0_2, p0_2, q0_2⟩ z3
        obtain ⟨l1_3, p1_3, q1_3⟩ := Box.ext ⟨l1_2, p1_2, q1_2⟩ z3
        obtain ⟨l2_3, p2_3, q2_3⟩ := Box.ext ⟨l2_2, p2_2, q2_2⟩ z3
        have Y3 : Ext w w3 := Y2.trans z3
        clear l0_2 p0_2 q0_2 l1_2 p1_2 q1_2 l2_2 p2_2 q2_2 z3 x3 Y2
        go_wp2_with fail
        refine (less_is hab _).mono ?_; rintro e w4 ⟨rfl, x4⟩
        have z4 : Ext w3 w4 := (Ext.refl _).trans x4
        obtain ⟨l0_4, p0_4, q0_4⟩ := Box.ext ⟨l0_3, p0_3, q0_3⟩ z4
        obtain ⟨l1_4, p1_4, q1_4⟩ := Box.ext ⟨l1_3, p1_3, q1_3⟩ z4
        obtain ⟨l2_4, p2_4, q2_4⟩ := Box.ext ⟨l2_3, p2_3, q2_3⟩ z4
        have Y4 : Ext w w4 := Y3.trans z4
        clear l0_3 p0_3 q0_3 l1_3 p1_3 q1_3 l2_3 p2_3 q2_3 z4 x4 Y3
        go_wp2_with fail
        refine (add_is s1 _).mono ?_; rintro e w5 ⟨rfl, x5⟩
        have z5 : Ext w4 w5 := (Ext.refl _).trans x5
        obtain ⟨l0_5, p0_5, q0_5⟩ := Box.ext ⟨l0_4, p0_4, q0_4⟩ z5
        obtain ⟨l1_5, p1_5, q1_5⟩ := Box.ext ⟨l1_4, p1_4, q1_4⟩ z5
        obtain ⟨l2_5, p2_5, q2_5⟩ := Box.ext ⟨l2_4, p2_4, q2_4⟩ z5
        have Y5 : Ext w w5 := Y4.trans z5
        clear l0_4 p0_4 q0_4 l1_4 p1_4 q1_4 l2_4 p2_4 q2_4 z5 x5 Y4
        go_wp2_with fail
        refine (add_is s2 _).mono ?_; rintro e w6 ⟨rfl, x6⟩
        have z6 : Ext w5 w6 := ((Ext.refl _).alloc _).trans x6
        obtain ⟨l0_6, p0_6, q0_6⟩ := Box.ext ⟨l0_5, p0_5, q0_5⟩ z6
        obtain ⟨l1_6, p1_6, q1_6⟩ := Box.ext ⟨l1_5, p1_5, q1_5⟩ z6
        obtain ⟨l2_6, p2_6, q2_6⟩ := Box.ext ⟨l2_5, p2_5, q2_5⟩ z6
        obtain ⟨l3_6, p3_6, q3_6⟩ := (Box.new w5 (u + u') (d + d') 23).ext x6
        have Y6 : Ext w w6 := Y5.trans z6
        clear l0_5 p0_5 q0_5 l1_5 p1_5 q1_5 l2_5 p2_5 q2_5 z6 x6 Y5
        generalize w5.heap.size = r6 at *
        go_wp2_with fail
        refine (add_is s3 _).mono ?_; rintro e w7 ⟨rfl, x7⟩
        have z7 : Ext w6 w7 := ((Ext.refl _).alloc _).trans x7
        obtain ⟨l0_7, p0_7, q0_7⟩ := Box.ext ⟨l0_6, p0_6, q0_6⟩ z7
        obtain ⟨l1_7, p1_7, q1_7⟩ := Box.ext ⟨l1_6, p1_6, q1_6⟩ z7
        obtain ⟨l2_7, p2_7, q2_7⟩ := Box.ext ⟨l2_6, p2_6, q2_6⟩ z7
        obtain ⟨l3_7, p3_7, q3_7⟩ := Box.ext ⟨l3_6, p3_6, q3_6⟩ z7
        obtain ⟨l4_7, p4_7, q4_7⟩ := (Box.new w6 (u + u') (d + d') 23).ext x7
        have Y7 : Ext w w7 := Y6.trans z7
        clear l0_6 p0_6 q0_6 l1_6 p1_6 q1_6 l2_6 p2_6 q2_6 l3_6 p3_6 q3_6 z7 x7 Y6
        generalize w6.heap.size = r7 at *
        go_wp2_with fail
        refine (add_is s4 _).mono ?_; rintro e w8 ⟨rfl, x8⟩
        have z8 : Ext w7 w8 := ((Ext.refl _).alloc _).trans x8
        obtain ⟨l0_8, p0_8, q0_8⟩ := Box.ext ⟨l0_7, p0_7, q0_7⟩ z8
        obtain ⟨l1_8, p1_8, q1_8⟩ := Box.ext ⟨l1_7, p1_7, q1_7⟩ z8
        obtain ⟨l2_8, p2_8, q2_8⟩ := Box.ext ⟨l2_7, p2_7, q2_7⟩ z8
        obtain ⟨l3_8, p3_8, q3_8⟩ := Box.ext ⟨l3_7, p3_7, q3_7⟩ z8
        obtain ⟨l4_8, p4_8, q4_8⟩ := Box.ext ⟨l4_7, p4_7, q4_7⟩ z8
        obtain ⟨l5_8, p5_8, q5_8⟩ := (Box.new w7 (u' + p) (d' + q) 23).ext x8
        have Y8 : Ext w w8 := Y7.trans z8
        clear l0_7 p0_7 q0_7 l1_7 p1_7 q1_7 l2_7 p2_7 q2_7 l3_7 p3_7 q3_7 l4_7 p4_7 q4_7 z8 x8 Y7
        generalize w7.heap.size = r8 at *
        go_wp2_with fail
        refine (add_is s5 _).mono ?_; rintro e w9 ⟨rfl, x9⟩
        have z9 : Ext w8 w9 := ((Ext.refl _).alloc _).trans x9
        obtain ⟨l0_9, p0_9, q0_9⟩ := Box.ext ⟨l0_8, p0_8, q0_8⟩ z9
        obtain ⟨l1_9, p1_9, q1_9⟩ := Box.ext ⟨l1_8, p1_8, q1_8⟩ z9
        obtain ⟨l2_9, p2_9, q2_9⟩ := Box.ext ⟨l2_8, p2_8, q2_8⟩ z9
        obtain ⟨l3_9, p3_9, q3_9⟩ := Box.ext ⟨l3_8, p3_8, q3_8⟩ z9
        obtain ⟨l4_9, p4_9, q4_9⟩ := Box.ext ⟨l4_8, p4_8, q4_8⟩ z9
        obtain ⟨l5_9, p5_9, q5_9⟩ := Box.ext ⟨l5_8, p5_8, q5_8⟩ z9
        obtain ⟨l6_9, p6_9, q6_9⟩ := (Box.new w8 0 0 23).ext x9
        have Y9 : Ext w w9 := Y8.trans z9
        clear l0_8 p0_8 q0_8 l1_8 p1_8 q1_8 l2_8 p2_8 q2_8 l3_8 p3_8 q3_8 l4_8 p4_8 q4_8 l5_8 p5_8 q5_8 z9 x9 Y8
        generalize w8.heap.size = r9 at *
        go_wp2_with fail
        go_ret
        exact ⟨rfl, Y9.alloc _⟩
      | true =>
        have s4 := sumV_yes h4
        have s5 := sumV_yes (group h1 h3 h4)
        rw [← Int.add_assoc, ← Int.add_assoc] at s5
        go_enter Try.func8, Try.ntmps8
        go_wp2_with fail
        refine (L05.awake_any _).mono ?_; rintro e w1 ⟨rfl, x1⟩
        obtain ⟨⟨l0_1, p0_1, q0_1⟩, ⟨l1_1, p1_1, q1_1⟩, ⟨l2_1, p2_1, q2_1⟩⟩ := boxes3 x1
        have Y1 : Ext w w1 := ((((Ext.refl _).alloc _).alloc _).alloc _).trans x1
        clear x1
        generalize w.heap.size = r0 at *
        go_wp2_with fail
        refine (less_is hab _).mono ?_; rintro e w2 ⟨rfl, x2⟩
        have z2 : Ext w1 w2 := (Ext.refl _).trans x2
        obtain ⟨l0_2, p0_2, q0_2⟩ := Box.ext ⟨l0_1, p0_1, q0_1⟩ z2
        obtain ⟨l1_2, p1_2, q1_2⟩ := Box.ext ⟨l1_1, p1_1, q1_1⟩ z2
        obtain ⟨l2_2, p2_2, q2_2⟩ := Box.ext ⟨l2_1, p2_1, q2_1⟩ z2
        have Y2 : Ext w w2 := Y1.trans z2
        clear l0_1 p0_1 q0_1 l1_1 p1_1 q1_1 l2_1 p2_1 q2_1 z2 x2 Y1
        go_wp2_with fail
        refine (less_is haa _).mono ?_; rintro e w3 ⟨rfl, x3⟩
        have z3 : Ext w2 w3 := (Ext.refl _).trans x3
        obtain ⟨l0_3, p0_3, q0_3⟩ := Box.ext ⟨l0_2, p0_2, q0_2⟩ z3
        obtain ⟨l1_3, p1_3, q1_3⟩ := Box.ext ⟨l1_2, p1_2, q1_2⟩ z3
        obtain ⟨l2_3, p2_3, q2_3⟩ := Box.ext ⟨l2_2, p2_2, q2_2⟩ z3
        have Y3 : Ext w w3 := Y2.trans z3
        clear l0_2 p0_2 q0_2 l1_2 p1_2 q1_2 l2_2 p2_2 q2_2 z3 x3 Y2
        go_wp2_with fail
        refine (less_is hab _).mono ?_; rintro e w4 ⟨rfl, x4⟩
        have z4 : Ext w3 w4 := (Ext.refl _).trans x4
        obtain ⟨l0_4, p0_4, q0_4⟩ := Box.ext ⟨l0_3, p0_3, q0_3⟩ z4
        obtain ⟨l1_4, p1_4, q1_4⟩ := Box.ext ⟨l1_3, p1_3, q1_3⟩ z4
        obtain ⟨l2_4, p2_4, q2_4⟩ := Box.ext ⟨l2_3, p2_3, q2_3⟩ z4
        have Y4 : Ext w w4 := Y3.trans z4
        clear l0_3 p0_3 q0_3 l1_3 p1_3 q1_3 l2_3 p2_3 q2_3 z4 x4 Y3
        go_wp2_with fail
        refine (add_is s1 _).mono ?_; rintro e w5 ⟨rfl, x5⟩
        have z5 : Ext w4 w5 := (Ext.refl _).trans x5
        obtain ⟨l0_5, p0_5, q0_5⟩ := Box.ext ⟨l0_4, p0_4, q0_4⟩ z5
        obtain ⟨l1_5, p1_5, q1_5⟩ := Box.ext ⟨l1_4, p1_4, q1_4⟩ z5
        obtain ⟨l2_5, p2_5, q2_5⟩ := Box.ext ⟨l2_4, p2_4, q2_4⟩ z5
        have Y5 : Ext w w5 := Y4.trans z5
        clear l0_4 p0_4 q0_4 l1_4 p1_4 q1_4 l2_4 p2_4 q2_4 z5 x5 Y4
        go_wp2_with fail
        refine (add_is s2 _).mono ?_; rintro e w6 ⟨rfl, x6⟩
        have z6 : Ext w5 w6 := ((Ext.refl _).alloc _).trans x6
        obtain ⟨l0_6, p0_6, q0_6⟩ := Box.ext ⟨l0_5, p0_5, q0_5⟩ z6
        obtain ⟨l1_6, p1_6, q1_6⟩ := Box.ext ⟨l1_5, p1_5, q1_5⟩ z6
        obtain ⟨l2_6, p2_6, q2_6⟩ := Box.ext ⟨l2_5, p2_5, q2_5⟩ z6
        obtain ⟨l3_6, p3_6, q3_6⟩ := (Box.new w5 (u + u') (d + d') 23).ext x6
        have Y6 : Ext w w6 := Y5.trans z6
        clear l0_5 p0_5 q0_5 l1_5 p1_5 q1_5 l2_5 p2_5 q2_5 z6 x6 Y5
        generalize w5.heap.size = r6 at *
        go_wp2_with fail
        refine (add_is s3 _).mono ?_; rintro e w7 ⟨rfl, x7⟩
        have z7 : Ext w6 w7 := ((Ext.refl _).alloc _).trans x7
        obtain ⟨l0_7, p0_7, q0_7⟩ := Box.ext ⟨l0_6, p0_6, q0_6⟩ z7
        obtain ⟨l1_7, p1_7, q1_7⟩ := Box.ext ⟨l1_6, p1_6, q1_6⟩ z7
        obtain ⟨l2_7, p2_7, q2_7⟩ := Box.ext ⟨l2_6, p2_6, q2_6⟩ z7
        obtain ⟨l3_7, p3_7, q3_7⟩ := Box.ext ⟨l3_6, p3_6, q3_6⟩ z7
        obtain ⟨l4_7, p4_7, q4_7⟩ := (Box.new w6 (u + u') (d + d') 23).ext x7
        have Y7 : Ext w w7 := Y6.trans z7
        clear l0_6 p0_6 q0_6 l1_6 p1_6 q1_6 l2_6 p2_6 q2_6 l3_6 p3_6 q3_6 z7 x7 Y6
        generalize w6.heap.size = r7 at *
        go_wp2_with fail
        refine (add_is s4 _).mono ?_; rintro e w8 ⟨rfl, x8⟩
        have z8 : Ext w7 w8 := ((Ext.refl _).alloc _).trans x8
        obtain ⟨l0_8, p0_8, q0_8⟩ := Box.ext ⟨l0_7, p0_7, q0_7⟩ z8
        obtain ⟨l1_8, p1_8, q1_8⟩ := Box.ext ⟨l1_7, p1_7, q1_7⟩ z8
        obtain ⟨l2_8, p2_8, q2_8⟩ := Box.ext ⟨l2_7, p2_7, q2_7⟩ z8
        obtain ⟨l3_8, p3_8, q3_8⟩ := Box.ext ⟨l3_7, p3_7, q3_7⟩ z8
        obtain ⟨l4_8, p4_8, q4_8⟩ := Box.ext ⟨l4_7, p4_7, q4_7⟩ z8
        obtain ⟨l5_8, p5_8, q5_8⟩ := (Box.new w7 (u' + p) (d' + q) 23).ext x8
        have Y8 : Ext w w8 := Y7.trans z8
        clear l0_7 p0_7 q0_7 l1_7 p1_7 q1_7 l2_7 p2_7 q2_7 l3_7 p3_7 q3_7 l4_7 p4_7 q4_7 z8 x8 Y7
        generalize w7.heap.size = r8 at *
        go_wp2_with fail
        refine (add_is s5 _).mono ?_; rintro e w9 ⟨rfl, x9⟩
        have z9 : Ext w8 w9 := ((Ext.refl _).alloc _).trans x9
        obtain ⟨l0_9, p0_9, q0_9⟩ := Box.ext ⟨l0_8, p0_8, q0_8⟩ z9
        obtain ⟨l1_9, p1_9, q1_9⟩ := Box.ext ⟨l1_8, p1_8, q1_8⟩ z9
        obtain ⟨l2_9, p2_9, q2_9⟩ := Box.ext ⟨l2_8, p2_8, q2_8⟩ z9
        obtain ⟨l3_9, p3_9, q3_9⟩ := Box.ext ⟨l3_8, p3_8, q3_8⟩ z9
        obtain ⟨l4_9, p4_9, q4_9⟩ := Box.ext ⟨l4_8, p4_8, q4_8⟩ z9
        obtain ⟨l5_9, p5_9, q5_9⟩ := Box.ext ⟨l5_8, p5_8, q5_8⟩ z9
        obtain ⟨l6_9, p6_9, q6_9⟩ := (Box.new w8 (u + u' + p) (d + d' + q) 23).ext x9
        have Y9 : Ext w w9 := Y8.trans z9
        clear l0_8 p0_8 q0_8 l1_8 p1_8 q1_8 l2_8 p2_8 q2_8 l3_8 p3_8 q3_8 l4_8 p4_8 q4_8 l5_8 p5_8 q5_8 z9 x9 Y8
        generalize w8.heap.size = r9 at *
        go_wp2_with fail
        go_ret
        exact ⟨rfl, Y9.alloc _⟩

theorem way (u d u' d' p q : Int) (w : World) : Calls Try.prog 8 #[.agg #[.int .i64 u, .int .i64 d], .agg #[.int .i64 u', .int .i64 d'], .agg #[.int .i64 p, .int .i64 q]] w (Ret w (.bool true)) := by
  cases hab : lessB u d u' d' with
  | false => exact wayC u d u' d' p q w hab
  | true =>
    cases hbc : lessB u' d' p q with
    | false => exact wayB u d u' d' p q w hab hbc
    | true => exact wayA u d u' d' p q w hab hbc

theorem walk (a0 b0 : Int) (_ : -9223372036854775808 ≤ a0 ∧ a0 ≤ 9223372036854775807) (_ : -9223372036854775808 ≤ b0 ∧ b0 ≤ 9223372036854775807) (a1 b1 : Int) (_ : -9223372036854775808 ≤ a1 ∧ a1 ≤ 9223372036854775807) (_ : -9223372036854775808 ≤ b1 ∧ b1 ≤ 9223372036854775807) (a2 b2 : Int) (_ : -9223372036854775808 ≤ a2 ∧ a2 ≤ 9223372036854775807) (_ : -9223372036854775808 ≤ b2 ∧ b2 ≤ 9223372036854775807) (w : World) :
    Calls Try.prog 8 #[.agg #[.int .i64 a0, .int .i64 b0], .agg #[.int .i64 a1, .int .i64 b1], .agg #[.int .i64 a2, .int .i64 b2]] w (Ret w (.bool true)) := way a0 b0 a1 b1 a2 b2 w

set_option maxRecDepth 100000 in
theorem lifted (os : Os) (started : os.Started) (H : Type) (enc : TypeId × Value → H) :
    ReturnsInHanded {} Try.checked os 8 .any (Rows.costRisesSpec.pre6 enc Try.prog Try.f8 [] false) (Rows.costRisesSpec.post enc Try.prog Try.f8 false true false false) := by
  refine law_lift (C := Try.checked) own started (by kernel_rfl) Try.func8 laidOut rfl rfl Try.underlying4 (by kernel_rfl) ?_
    (ChangeSpec.witness6 (enc := enc) (C := Try.checked) false ⟨#[], #[.agg #[.int .i64 0, .int .i64 0], .agg #[.int .i64 0, .int .i64 0], .agg #[.int .i64 0, .int .i64 0]], []⟩ 8 (by kernel_rfl) (by kernel_rfl) (by kernel_rfl) (by kernel_rfl)) ?_
  · intro H ds h
    match ds, h with
    | [_, _, _], _ => rfl
  · intro W base args ds p hval hA hlt hwt hsh
    rw [Try.params8] at hA hval
    obtain ⟨v0, vs0, d0, ds0, p0, q0, hargs, rfl, rfl, h0, r0⟩ := trodAll_cons hA
    obtain ⟨v1, vs1, d1, ds1, p1, q1, rfl, rfl, rfl, h1, r1⟩ := trodAll_cons r0
    obtain ⟨v2, vs2, d2, ds2, p2, q2, rfl, rfl, rfl, h2, r2⟩ := trodAll_cons r1
    obtain ⟨rfl, rfl, rfl⟩ := trodAll_nil r2
    obtain rfl : args = #[v0, v1, v2] := by cases args; simp_all
    obtain ⟨a0, b0, rfl, wa0, wb0⟩ := arg_pair Try.underlying23 (by kernel_rfl) (by kernel_rfl) Try.underlying3 Try.underlying3 (hval 0 23 v0 rfl rfl) h0
    obtain ⟨a1, b1, rfl, wa1, wb1⟩ := arg_pair Try.underlying23 (by kernel_rfl) (by kernel_rfl) Try.underlying3 Try.underlying3 (hval 1 23 v1 rfl rfl) h1
    obtain ⟨a2, b2, rfl, wa2, wb2⟩ := arg_pair Try.underlying23 (by kernel_rfl) (by kernel_rfl) Try.underlying3 Try.underlying3 (hval 2 23 v2 rfl rfl) h2
    exact walk a0 b0 (bounds_i64 wa0) (bounds_i64 wb0) a1 b1 (bounds_i64 wa1) (bounds_i64 wb1) a2 b2 (bounds_i64 wa2) (bounds_i64 wb2) W 

theorem holds : Rows.CostRisesSaid :=
  OpenClaim.holds_of_wide 8 Try.f8 rfl rfl rfl rfl rfl rfl rfl ⟨rfl, rfl, rfl, rfl, rfl⟩ rfl rfl rfl rfl rfl (by kernel_rfl) Try.func8 (by kernel_rfl)
    (of_decide_eq_true (by kernel_rfl)) (by unfold Func.isWrapper; first | (rw [if_pos (by decide +kernel)]; kernel_rfl) | (rw [if_neg (by decide +kernel)]; exact ⟨rfl, rfl⟩))
    (fun os started H enc _ => lifted os started H enc)
end CostRises
end Go.Proofs.Yticnkdabaebifaa

