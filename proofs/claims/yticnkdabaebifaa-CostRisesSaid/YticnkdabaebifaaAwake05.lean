/- What all statements of layer 5 begin with. -/
import Derived.Test.YticnkdabaebifaaLeast05
namespace Go.Proofs.Yticnkdabaebifaa
open Go.RowKit Go.Lib
namespace L05

theorem add_is {u d u' d' x y e : Int} (h : sumV u d u' d' = .tuple #[.agg #[.int .i64 x, .int .i64 y], .int .i64 e]) (w : World) :
    Calls Try.prog 10 #[.agg #[.int .i64 u, .int .i64 d], .agg #[.int .i64 u', .int .i64 d']] w (Ret w (.tuple #[.agg #[.int .i64 x, .int .i64 y], .int .i64 e])) := h ▸ add_any u d u' d' w
theorem radd_is {u d u' d' x y e : Int} (h : sumV u d u' d' = .tuple #[.agg #[.int .i64 x, .int .i64 y], .int .i64 e]) (w : World) :
    Calls Try.prog 11 #[.agg #[.int .i64 u, .int .i64 d], .agg #[.int .i64 u', .int .i64 d']] w (Ret w (.tuple #[.agg #[.int .i64 x, .int .i64 y], .int .i64 e])) := h ▸ radd_any u d u' d' w
theorem least_is {A : Option Addr} {n c : Nat} {f : Nat → Int × Int} {w : World} {v : Int} (hs : SeenP w A n f) (hn : n ≤ 1000000) (h : firstF (leastB f n) n = v) :
    Calls Try.prog 16 #[.slice A n c] w (Ret w (.int .i64 v)) := h ▸ least_any A n c f w hs hn

theorem addB_comm (u d u' d' : Int) : addB u d u' d' = addB u' d' u d := by
  unfold addB; rw [Int.add_comm u u', Int.add_comm d d', Bool.and_comm (mayB u d)]
theorem sumV_comm (u d u' d' : Int) : sumV u d u' d' = sumV u' d' u d := by
  unfold sumV addU addD addE; rw [addB_comm u d, Int.add_comm u u', Int.add_comm d d']
theorem addB_zero (u d : Int) : addB u d 0 0 = mayB u d := by
  unfold addB; rw [Int.add_zero, Int.add_zero]; cases mayB u d <;> rfl
theorem sumV_zero {u d : Int} (h : mayB u d = true) : sumV u d 0 0 = .tuple #[.agg #[.int .i64 u, .int .i64 d], .int .i64 0] := by
  rw [sumV_yes (by rw [addB_zero]; exact h), Int.add_zero, Int.add_zero]
theorem sumV_some (u d u' d' : Int) : ∃ x y e : Int, sumV u d u' d' = .tuple #[.agg #[.int .i64 x, .int .i64 y], .int .i64 e] := ⟨_, _, _, rfl⟩
/-- A call within a region that draws its order. -/
theorem rg {f : FuncId} {args : Array Value} {w : World} {d : Nat} {os : Array Obj} {v : Value} (h : Calls Try.prog f args (Sort.grow (redrawn w d) os) (Ret (Sort.grow (redrawn w d) os) v)) :
    Calls Try.prog f args (Sort.grow (redrawn w d) os) fun e w'' => e = .returned v ∧ ∃ p : Regrown, w'' = Sort.grow (redrawn w p.d) p.os := Calls.regrown_of h
/-- A variable of one's own that holds a cost. -/
def Box (w : World) (b : Nat) (u d : Int) : Prop := b < w.heap.size ∧ w.cell? ⟨b, 0, none⟩ = some (.int .i64 u) ∧ w.cell? ⟨b, 1, none⟩ = some (.int .i64 d)
theorem Box.ext {w w' : World} {b : Nat} {u d : Int} (h : Box w b u d) (x : Ext w w') : Box w' b u d := ⟨x.grows _ h.1, x.at h.2.1, x.at h.2.2⟩
theorem Box.new (w : World) (u d : Int) (t : TypeId) : Box (w.alloc (.cells #[.int .i64 u, .int .i64 d] t)) w.heap.size u d := ⟨by simp, by simp, by simp⟩
theorem boxes2 {w w1 : World} {u d u' d' : Int} {t : TypeId} (x : Ext ((w.alloc (.cells #[.int .i64 u, .int .i64 d] t)).alloc (.cells #[.int .i64 u', .int .i64 d'] t)) w1) : Box w1 w.heap.size u d ∧ Box w1 (w.heap.size + 1) u' d' :=
  ⟨(Box.new w u d t).ext (((Ext.refl _).alloc _).trans x), by
    have h := (Box.new (w.alloc (.cells #[.int .i64 u, .int .i64 d] t)) u' d' t).ext x
    simpa using h⟩
theorem boxes3 {w w1 : World} {u d u' d' p q : Int} {t : TypeId} (x : Ext (((w.alloc (.cells #[.int .i64 u, .int .i64 d] t)).alloc (.cells #[.int .i64 u', .int .i64 d'] t)).alloc (.cells #[.int .i64 p, .int .i64 q] t)) w1) :
    Box w1 w.heap.size u d ∧ Box w1 (w.heap.size + 1) u' d' ∧ Box w1 (w.heap.size + 1 + 1) p q := by
  obtain ⟨h1, h2⟩ := boxes2 (((Ext.refl _).alloc _).trans x)
  have h := (Box.new ((w.alloc (.cells #[.int .i64 u, .int .i64 d] t)).alloc (.cells #[.int .i64 u', .int .i64 d'] t)) p q t).ext x
  exact ⟨h1, h2, by simpa using h⟩
/-- Three costs, as a slice's elements. -/
def three (j : Nat) : Int × Int := if j = 0 then (1, 5) else (0, 9)
theorem three_seen (w : World) (t : TypeId) : SeenP (w.alloc (.cells #[.int .i64 1, .int .i64 5, .int .i64 0, .int .i64 9, .int .i64 0, .int .i64 9] t)) (some ⟨w.heap.size, 0, none⟩) 3 three := by
  apply RowP.seen
  apply rowP_new
  intro j hj
  match j, hj with
  | 0, _ => exact ⟨rfl, rfl⟩
  | 1, _ => exact ⟨rfl, rfl⟩
  | 2, _ => exact ⟨rfl, rfl⟩

set_option maxHeartbeats 4000000 in
theorem awake_any (w : World) : Calls Try.prog 9 #[] w (Ret w (.bool true)) := by
  go_enter Try.func9, Try.ntmps9
  go_wp2_with fail
  refine (add_is (x := 1) (y := 14) (e := 0) (sumV_yes (by decide)) _).mono ?_; rintro e w1 ⟨rfl, x1⟩
  have Y1 : Ext w w1 := (((Ext.refl _).alloc _).alloc _).trans x1
  have A1 : Box w1 w.heap.size 1 5 := (Box.new w 1 5 23).ext (((Ext.refl _).alloc _).trans x1)
  have B1 : Box w1 (w.heap.size + 1) 0 9 := by
    have h := (Box.new (w.alloc (.cells #[.int .i64 1, .int .i64 5] 23)) 0 9 23).ext x1
    simpa using h
  clear x1
  generalize w.heap.size = a at *
  obtain ⟨l1, p1, q1⟩ := A1
  obtain ⟨m1, r1, s1⟩ := B1
  go_wp2_with fail
  refine (add_is (x := 0) (y := 0) (e := 50) (sumV_no (by decide)) _).mono ?_; rintro e w2 ⟨rfl, x2⟩
  have z2 : Ext w1 w2 := ((Ext.refl _).alloc _).trans x2
  have A2 : Box w2 a 1 5 := Box.ext ⟨l1, p1, q1⟩ z2
  have B2 : Box w2 (a + 1) 0 9 := Box.ext ⟨m1, r1, s1⟩ z2
  have Y2 : Ext w w2 := Y1.trans z2
  have C2 : Box w2 w1.heap.size 1 14 := (Box.new w1 1 14 23).ext x2
  generalize w1.heap.size = c at *
  obtain ⟨t2, u2, v2⟩ := C2
  clear l1 p1 q1 m1 r1 s1 z2 Y1 x2
  obtain ⟨l2, p2, q2⟩ := A2
  obtain ⟨m2, r2, s2⟩ := B2
  go_wp2_with fail
  refine (less_is (b := true) (by decide) _).mono ?_; rintro e w3 ⟨rfl, x3⟩
  have z3 : Ext w2 w3 := ((Ext.refl _).alloc _).trans x3
  have A3 : Box w3 a 1 5 := Box.ext ⟨l2, p2, q2⟩ z3
  have B3 : Box w3 (a + 1) 0 9 := Box.ext ⟨m2, r2, s2⟩ z3
  have Y3 : Ext w w3 := Y2.trans z3
  clear l2 p2 q2 m2 r2 s2 z3 Y2 x3 t2 u2 v2
  obtain ⟨l3, p3, q3⟩ := A3
  obtain ⟨m3, r3, s3⟩ := B3
  go_wp2_with fail
  refine (less_is (b := false) (by decide) _).mono ?_; rintro e w4 ⟨rfl, x4⟩
  have z4 : Ext w3 w4 := (Ext.refl _).trans x4
  have A4 : Box w4 a 1 5 := Box.ext ⟨l3, p3, q3⟩ z4
  have B4 : Box w4 (a + 1) 0 9 := Box.ext ⟨m3, r3, s3⟩ z4
  have Y4 : Ext w w4 := Y3.trans z4
  clear l3 p3 q3 m3 r3 s3 z4 Y3 x4
  obtain ⟨l4, p4, q4⟩ := A4
  obtain ⟨m4, r4, s4⟩ := B4
  go_wp2_with fail
  refine (less_is (b := false) (by decide) _).mono ?_; rintro e w5 ⟨rfl, x5⟩
  have z5 : Ext w4 w5 := (Ext.refl _).trans x5
  have A5 : Box w5 a 1 5 := Box.ext ⟨l4, p4, q4⟩ z5
  have B5 : Box w5 (a + 1) 0 9 := Box.ext ⟨m4, r4, s4⟩ z5
  have Y5 : Ext w w5 := Y4.trans z5
  clear l4 p4 q4 m4 r4 s4 z5 Y4 x5
  obtain ⟨l5, p5, q5⟩ := A5
  obtain ⟨m5, r5, s5⟩ := B5
  go_wp2_with fail
  refine (least_is (v := 1) (three_seen w5 23) (by decide) (by decide)).mono ?_; rintro e w6 ⟨rfl, x6⟩
  have z6 : Ext w5 w6 := ((Ext.refl _).alloc _).trans x6
  have A6 : Box w6 a 1 5 := Box.ext ⟨l5, p5, q5⟩ z6
  have B6 : Box w6 (a + 1) 0 9 := Box.ext ⟨m5, r5, s5⟩ z6
  have Y6 : Ext w w6 := Y5.trans z6
  clear l5 p5 q5 m5 r5 s5 z6 Y5 x6
  obtain ⟨l6, p6, q6⟩ := A6
  obtain ⟨m6, r6, s6⟩ := B6
  go_wp2_with fail
  refine (least_is (f := three) (v := -1) SeenP.nil (by decide) (by decide)).mono ?_; rintro e w7 ⟨rfl, x7⟩
  have z7 : Ext w6 w7 := (Ext.refl _).trans x7
  have A7 : Box w7 a 1 5 := Box.ext ⟨l6, p6, q6⟩ z7
  have B7 : Box w7 (a + 1) 0 9 := Box.ext ⟨m6, r6, s6⟩ z7
  have Y7 : Ext w w7 := Y6.trans z7
  clear l6 p6 q6 m6 r6 s6 z7 Y6 x7
  obtain ⟨l7, p7, q7⟩ := A7
  obtain ⟨m7, r7, s7⟩ := B7
  go_wp2_with fail
  refine (check_is (b := true) (by decide) _).mono ?_; rintro e w8 ⟨rfl, x8⟩
  have z8 : Ext w7 w8 := (Ext.refl _).trans x8
  have A8 : Box w8 a 1 5 := Box.ext ⟨l7, p7, q7⟩ z8
  have B8 : Box w8 (a + 1) 0 9 := Box.ext ⟨m7, r7, s7⟩ z8
  have Y8 : Ext w w8 := Y7.trans z8
  clear l7 p7 q7 m7 r7 s7 z8 Y7 x8
  obtain ⟨l8, p8, q8⟩ := A8
  obtain ⟨m8, r8, s8⟩ := B8
  go_wp2_with fail
  refine (check_is (b := false) (by decide) _).mono ?_; rintro e w9 ⟨rfl, x9⟩
  go_wp2_with fail
  go_ret
  exact ⟨rfl, Y8.trans x9⟩
end L05
end Go.Proofs.Yticnkdabaebifaa

