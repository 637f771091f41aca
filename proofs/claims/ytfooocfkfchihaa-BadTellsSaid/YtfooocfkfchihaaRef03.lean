/- Contracts of the document's answers for layer 3: numbers of ten limbs. Written by genref03.py. -/
import Derived.Test.YtfooocfkfchihaaBad03
namespace Go.Proofs.Ytfooocfkfchihaa
open Go.RowKit
namespace L03

/-- What ten limbs are of a number. -/
structure Ten (p x0 x1 x2 x3 x4 x5 x6 x7 x8 x9 : Int) : Prop where
  sum : p = x0 + 65536 * x1 + 4294967296 * x2 + 281474976710656 * x3 + 18446744073709551616 * x4 + 1208925819614629174706176 * x5 + 79228162514264337593543950336 * x6 + 5192296858534827628530496329220096 * x7 + 340282366920938463463374607431768211456 * x8 + 22300745198530623141535718272648361505980416 * x9
  b0 : 0 ≤ x0 ∧ x0 ≤ 65535
  b1 : 0 ≤ x1 ∧ x1 ≤ 65535
  b2 : 0 ≤ x2 ∧ x2 ≤ 65535
  b3 : 0 ≤ x3 ∧ x3 ≤ 65535
  b4 : 0 ≤ x4 ∧ x4 ≤ 65535
  b5 : 0 ≤ x5 ∧ x5 ≤ 65535
  b6 : 0 ≤ x6 ∧ x6 ≤ 65535
  b7 : 0 ≤ x7 ∧ x7 ≤ 65535
  b8 : 0 ≤ x8 ∧ x8 ≤ 65535
  b9 : 0 ≤ x9 ∧ x9 ≤ 65535
/-- A number's limb i. -/
def L (p : Int) (i : Nat) : Int := p / 65536 ^ i % 65536
theorem ten_of (p : Int) (h : 0 ≤ p) (h' : p < 1461501637330902918203684832716283019655932542976) : Ten p (L p 0) (L p 1) (L p 2) (L p 3) (L p 4) (L p 5) (L p 6) (L p 7) (L p 8) (L p 9) := by
  have e : ∀ i : Nat, 0 ≤ L p i ∧ L p i ≤ 65535 := fun i => by unfold L; omega
  refine ⟨?_, e 0, e 1, e 2, e 3, e 4, e 5, e 6, e 7, e 8, e 9⟩
  unfold L
  omega
theorem ten_is {p x0 x1 x2 x3 x4 x5 x6 x7 x8 x9 : Int} (t : Ten p x0 x1 x2 x3 x4 x5 x6 x7 x8 x9) : L p 0 = x0 ∧ L p 1 = x1 ∧ L p 2 = x2 ∧ L p 3 = x3 ∧ L p 4 = x4 ∧ L p 5 = x5 ∧ L p 6 = x6 ∧ L p 7 = x7 ∧ L p 8 = x8 ∧ L p 9 = x9 := by
  obtain ⟨s, b0, b1, b2, b3, b4, b5, b6, b7, b8, b9⟩ := t
  unfold L
  refine ⟨?_, ?_, ?_, ?_, ?_, ?_, ?_, ?_, ?_, ?_⟩ <;> omega

theorem of_any (n : Int) (h : 0 ≤ n) (h' : n ≤ 1073741823) (w : World) :
    Calls Try.prog 23 #[.int .i64 n] w (Ret w (.agg #[.int .i64 (L n 0), .int .i64 (L n 1), .int .i64 (L n 2), .int .i64 (L n 3), .int .i64 (L n 4), .int .i64 (L n 5), .int .i64 (L n 6), .int .i64 (L n 7), .int .i64 (L n 8), .int .i64 (L n 9)])) := by
  have t : Ten n (n % 65536) (n / 65536) 0 0 0 0 0 0 0 0 := ⟨by omega, by omega, by omega, by omega, by omega, by omega, by omega, by omega, by omega, by omega, by omega⟩
  obtain ⟨e0, e1, e2, e3, e4, e5, e6, e7, e8, e9⟩ := ten_is t
  rw [e0, e1, e2, e3, e4, e5, e6, e7, e8, e9]
  clear t e0 e1 e2 e3 e4 e5 e6 e7 e8 e9
  go_enter Try.func23, Try.ntmps23
  go_wp2_with fail
  refine bodyPost_ret (v := .agg #[.int .i64 (n % 65536), .int .i64 (n / 65536), .int .i64 0, .int .i64 0, .int .i64 0, .int .i64 0, .int .i64 0, .int .i64 0, .int .i64 0, .int .i64 0]) (by simp [results, Try.results23, go_sem]) rfl ⟨rfl, ?_⟩
  exact ((Ext.refl _).alloc _).alloc _

theorem part (s : Int) (h0 : 0 ≤ s) (h1 : s ≤ 9223372036854775807) : ∃ o v : Int, s % 65536 = o ∧ s / 65536 = v ∧ s = o + 65536 * v ∧ 0 ≤ o ∧ o ≤ 65535 ∧ 0 ≤ v :=
  ⟨_, _, rfl, rfl, by omega, by omega, by omega, by omega⟩
theorem setCell_drewN (w : World) (n : Nat) (p : Addr) (v : Value) : (w.drewN n).setCell p v = (w.setCell p v).drewN n := by
  unfold World.drewN World.setCell; rfl

theorem sum_mul {p n x0 x1 x2 x3 x4 x5 x6 x7 x8 x9 p0 p1 p2 p3 p4 p5 p6 p7 p8 p9 : Int} (h : p = x0 + 65536 * x1 + 4294967296 * x2 + 281474976710656 * x3 + 18446744073709551616 * x4 + 1208925819614629174706176 * x5 + 79228162514264337593543950336 * x6 + 5192296858534827628530496329220096 * x7 + 340282366920938463463374607431768211456 * x8 + 22300745198530623141535718272648361505980416 * x9) (g0 : x0 * n = p0) (g1 : x1 * n = p1) (g2 : x2 * n = p2) (g3 : x3 * n = p3) (g4 : x4 * n = p4) (g5 : x5 * n = p5) (g6 : x6 * n = p6) (g7 : x7 * n = p7) (g8 : x8 * n = p8) (g9 : x9 * n = p9) : p * n = p0 + 65536 * p1 + 4294967296 * p2 + 281474976710656 * p3 + 18446744073709551616 * p4 + 1208925819614629174706176 * p5 + 79228162514264337593543950336 * p6 + 5192296858534827628530496329220096 * p7 + 340282366920938463463374607431768211456 * p8 + 22300745198530623141535718272648361505980416 * p9 := by
  subst h g0 g1 g2 g3 g4 g5 g6 g7 g8 g9
  simp only [Int.add_mul, Int.mul_assoc]
theorem sum_parts {s p0 p1 p2 p3 p4 p5 p6 p7 p8 p9 o0 o1 o2 o3 o4 o5 o6 o7 o8 o9 v0 v1 v2 v3 v4 v5 v6 v7 v8 v9 : Int} (h : s = p0 + 65536 * p1 + 4294967296 * p2 + 281474976710656 * p3 + 18446744073709551616 * p4 + 1208925819614629174706176 * p5 + 79228162514264337593543950336 * p6 + 5192296858534827628530496329220096 * p7 + 340282366920938463463374607431768211456 * p8 + 22300745198530623141535718272648361505980416 * p9) (h0 : p0 = o0 + 65536 * v0) (h1 : p1 + v0 = o1 + 65536 * v1) (h2 : p2 + v1 = o2 + 65536 * v2) (h3 : p3 + v2 = o3 + 65536 * v3) (h4 : p4 + v3 = o4 + 65536 * v4) (h5 : p5 + v4 = o5 + 65536 * v5) (h6 : p6 + v5 = o6 + 65536 * v6) (h7 : p7 + v6 = o7 + 65536 * v7) (h8 : p8 + v7 = o8 + 65536 * v8) (h9 : p9 + v8 = o9 + 65536 * v9) (hv : 0 ≤ v9) (hs : s < 1461501637330902918203684832716283019655932542976) (b0 : 0 ≤ o0 ∧ o0 ≤ 65535) (b1 : 0 ≤ o1 ∧ o1 ≤ 65535) (b2 : 0 ≤ o2 ∧ o2 ≤ 65535) (b3 : 0 ≤ o3 ∧ o3 ≤ 65535) (b4 : 0 ≤ o4 ∧ o4 ≤ 65535) (b5 : 0 ≤ o5 ∧ o5 ≤ 65535) (b6 : 0 ≤ o6 ∧ o6 ≤ 65535) (b7 : 0 ≤ o7 ∧ o7 ≤ 65535) (b8 : 0 ≤ o8 ∧ o8 ≤ 65535) (b9 : 0 ≤ o9 ∧ o9 ≤ 65535) : Ten s o0 o1 o2 o3 o4 o5 o6 o7 o8 o9 := by
  have e : s = o0 + 65536 * o1 + 4294967296 * o2 + 281474976710656 * o3 + 18446744073709551616 * o4 + 1208925819614629174706176 * o5 + 79228162514264337593543950336 * o6 + 5192296858534827628530496329220096 * o7 + 340282366920938463463374607431768211456 * o8 + 22300745198530623141535718272648361505980416 * o9 + 1461501637330902918203684832716283019655932542976 * v9 := by
    obtain rfl : p0 = o0 + 65536 * v0 := h0

    obtain rfl : p1 = o1 + 65536 * v1 - v0 := by clear h; omega
    obtain rfl : p2 = o2 + 65536 * v2 - v1 := by clear h; omega
    obtain rfl : p3 = o3 + 65536 * v3 - v2 := by clear h; omega
    obtain rfl : p4 = o4 + 65536 * v4 - v3 := by clear h; omega
    obtain rfl : p5 = o5 + 65536 * v5 - v4 := by clear h; omega
    obtain rfl : p6 = o6 + 65536 * v6 - v5 := by clear h; omega
    obtain rfl : p7 = o7 + 65536 * v7 - v6 := by clear h; omega
    obtain rfl : p8 = o8 + 65536 * v8 - v7 := by clear h; omega
    obtain rfl : p9 = o9 + 65536 * v9 - v8 := by clear h; omega
    subst h
    omega
  have z : v9 = 0 := by
    obtain ⟨k0, k1, k2, k3, k4, k5, k6, k7, k8, k9⟩ := And.intro b0.1 (And.intro b1.1 (And.intro b2.1 (And.intro b3.1 (And.intro b4.1 (And.intro b5.1 (And.intro b6.1 (And.intro b7.1 (And.intro b8.1 b9.1))))))))
    clear h h0 h1 h2 h3 h4 h5 h6 h7 h8 h9 b0 b1 b2 b3 b4 b5 b6 b7 b8 b9
    omega
  rw [z] at e
  exact ⟨by omega, b0, b1, b2, b3, b4, b5, b6, b7, b8, b9⟩

theorem prod_in {x n : Int} (hx : 0 ≤ x ∧ x ≤ 65535) (hn : 0 ≤ n) (hn' : n ≤ 2147483648) : 0 ≤ x * n ∧ x * n ≤ 140735340871680 :=
  ⟨Int.mul_nonneg hx.1 hn, Int.mul_le_mul hx.2 hn' hn (by omega)⟩
set_option maxHeartbeats 2000000 in
theorem rtimes_any (p n : Int) (hp : 0 ≤ p) (hp' : p < 1461501637330902918203684832716283019655932542976) (hn : 0 ≤ n) (hn' : n ≤ 2147483648) (hm : p * n < 1461501637330902918203684832716283019655932542976) (w : World) :
    Calls Try.prog 22 #[.agg #[.int .i64 (L p 0), .int .i64 (L p 1), .int .i64 (L p 2), .int .i64 (L p 3), .int .i64 (L p 4), .int .i64 (L p 5), .int .i64 (L p 6), .int .i64 (L p 7), .int .i64 (L p 8), .int .i64 (L p 9)], .int .i64 n] w (Ret w (.agg #[.int .i64 (L (p * n) 0), .int .i64 (L (p * n) 1), .int .i64 (L (p * n) 2), .int .i64 (L (p * n) 3), .int .i64 (L (p * n) 4), .int .i64 (L (p * n) 5), .int .i64 (L (p * n) 6), .int .i64 (L (p * n) 7), .int .i64 (L (p * n) 8), .int .i64 (L (p * n) 9)])) := by
  have fin := fun o0 o1 o2 o3 o4 o5 o6 o7 o8 o9 (t : Ten (p * n) o0 o1 o2 o3 o4 o5 o6 o7 o8 o9) => ten_is t
  have FIN := Lib.hid fin
  have T := Lib.hid (ten_of p hp hp')
  have HM := Lib.hid hm
  clear fin hm hp hp' 
  generalize L p 0 = x0 at T ⊢
  generalize L p 1 = x1 at T ⊢
  generalize L p 2 = x2 at T ⊢
  generalize L p 3 = x3 at T ⊢
  generalize L p 4 = x4 at T ⊢
  generalize L p 5 = x5 at T ⊢
  generalize L p 6 = x6 at T ⊢
  generalize L p 7 = x7 at T ⊢
  generalize L p 8 = x8 at T ⊢
  generalize L p 9 = x9 at T ⊢
  have hb := prod_in T.out.b0 hn hn'
  have l0 := hb.1
  have u0 := hb.2
  clear hb
  generalize g0 : x0 * n = p0 at *
  have hb := prod_in T.out.b1 hn hn'
  have l1 := hb.1
  have u1 := hb.2
  clear hb
  generalize g1 : x1 * n = p1 at *
  have hb := prod_in T.out.b2 hn hn'
  have l2 := hb.1
  have u2 := hb.2
  clear hb
  generalize g2 : x2 * n = p2 at *
  have hb := prod_in T.out.b3 hn hn'
  have l3 := hb.1
  have u3 := hb.2
  clear hb
  generalize g3 : x3 * n = p3 at *
  have hb := prod_in T.out.b4 hn hn'
  have l4 := hb.1
  have u4 := hb.2
  clear hb
  generalize g4 : x4 * n = p4 at *
  have hb := prod_in T.out.b5 hn hn'
  have l5 := hb.1
  have u5 := hb.2
  clear hb
  generalize g5 : x5 * n = p5 at *
  have hb := prod_in T.out.b6 hn hn'
  have l6 := hb.1
  have u6 := hb.2
  clear hb
  generalize g6 : x6 * n = p6 at *
  have hb := prod_in T.out.b7 hn hn'
  have l7 := hb.1
  have u7 := hb.2
  clear hb
  generalize g7 : x7 * n = p7 at *
  have hb := prod_in T.out.b8 hn hn'
  have l8 := hb.1
  have u8 := hb.2
  clear hb
  generalize g8 : x8 * n = p8 at *
  have hb := prod_in T.out.b9 hn hn'
  have l9 := hb.1
  have u9 := hb.2
  clear hb
  generalize g9 : x9 * n = p9 at *
  have G0 := Lib.hid g0
  have G1 := Lib.hid g1
  have G2 := Lib.hid g2
  have G3 := Lib.hid g3
  have G4 := Lib.hid g4
  have G5 := Lib.hid g5
  have G6 := Lib.hid g6
  have G7 := Lib.hid g7
  have G8 := Lib.hid g8
  have G9 := Lib.hid g9
  have SUM := Lib.hid (sum_mul T.out.sum g0 g1 g2 g3 g4 g5 g6 g7 g8 g9)
  generalize p * n = m at *
  go_enter Try.func22, Try.ntmps22
  go_wp2_with fail
  refine wp_loop_rounds 11 ?_
  rw [rounds_succ]
  go_wp2_with fail
  try simp (discharger := simp) only [setCell_drewN, World.setCell_alloc_at, List.setIfInBounds_toArray, List.set_cons_zero, List.set_cons_succ, Nat.reduceAdd]
  obtain ⟨o0, v0, e1, e2, e3, b1, b2, b3⟩ := part (p0) (by omega) (by omega)
  have c0 : v0 ≤ 140735340871680 := by omega
  simp only [e1, e2]
  have E0 := Lib.hid e3
  have B0 := Lib.hid (And.intro b1 b2)
  clear e1 e2 e3 b1 b2
  rw [rounds_succ]
  go_wp2_with fail
  try simp (discharger := simp) only [setCell_drewN, World.setCell_alloc_at, List.setIfInBounds_toArray, List.set_cons_zero, List.set_cons_succ, Nat.reduceAdd]
  obtain ⟨o1, v1, e1, e2, e3, b1, b2, b3⟩ := part (p1 + v0) (by omega) (by omega)
  have c1 : v1 ≤ 140735340871680 := by omega
  simp only [e1, e2]
  have E1 := Lib.hid e3
  have B1 := Lib.hid (And.intro b1 b2)
  clear e1 e2 e3 b1 b2
  rw [rounds_succ]
  go_wp2_with fail
  try simp (discharger := simp) only [setCell_drewN, World.setCell_alloc_at, List.setIfInBounds_toArray, List.set_cons_zero, List.set_cons_succ, Nat.reduceAdd]
  obtain ⟨o2, v2, e1, e2, e3, b1, b2, b3⟩ := part (p2 + v1) (by omega) (by omega)
  have c2 : v2 ≤ 140735340871680 := by omega
  simp only [e1, e2]
  have E2 := Lib.hid e3
  have B2 := Lib.hid (And.intro b1 b2)
  clear e1 e2 e3 b1 b2
  rw [rounds_succ]
  go_wp2_with fail
  try simp (discharger := simp) only [setCell_drewN, World.setCell_alloc_at, List.setIfInBounds_toArray, List.set_cons_zero, List.set_cons_succ, Nat.reduceAdd]
  obtain ⟨o3, v3, e1, e2, e3, b1, b2, b3⟩ := part (p3 + v2) (by omega) (by omega)
  have c3 : v3 ≤ 140735340871680 := by omega
  simp only [e1, e2]
  have E3 := Lib.hid e3
  have B3 := Lib.hid (And.intro b1 b2)
  clear e1 e2 e3 b1 b2
  rw [rounds_succ]
  go_wp2_with fail
  try simp (discharger := simp) only [setCell_drewN, World.setCell_alloc_at, List.setIfInBounds_toArray, List.set_cons_zero, List.set_cons_succ, Nat.reduceAdd]
  obtain ⟨o4, v4, e1, e2, e3, b1, b2, b3⟩ := part (p4 + v3) (by omega) (by omega)
  have c4 : v4 ≤ 140735340871680 := by omega
  simp only [e1, e2]
  have E4 := Lib.hid e3
  have B4 := Lib.hid (And.intro b1 b2)
  clear e1 e2 e3 b1 b2
  rw [rounds_succ]
  go_wp2_with fail
  try simp (discharger := simp) only [setCell_drewN, World.setCell_alloc_at, List.setIfInBounds_toArray, List.set_cons_zero, List.set_cons_succ, Nat.reduceAdd]
  obtain ⟨o5, v5, e1, e2, e3, b1, b2, b3⟩ := part (p5 + v4) (by omega) (by omega)
  have c5 : v5 ≤ 140735340871680 := by omega
  simp only [e1, e2]
  have E5 := Lib.hid e3
  have B5 := Lib.hid (And.intro b1 b2)
  clear e1 e2 e3 b1 b2
  rw [rounds_succ]
  go_wp2_with fail
  try simp (discharger := simp) only [setCell_drewN, World.setCell_alloc_at, List.setIfInBounds_toArray, List.set_cons_zero, List.set_cons_succ, Nat.reduceAdd]
  obtain ⟨o6, v6, e1, e2, e3, b1, b2, b3⟩ := part (p6 + v5) (by omega) (by omega)
  have c6 : v6 ≤ 140735340871680 := by omega
  simp only [e1, e2]
  have E6 := Lib.hid e3
  have B6 := Lib.hid (And.intro b1 b2)
  clear e1 e2 e3 b1 b2
  rw [rounds_succ]
  go_wp2_with fail
  try simp (discharger := simp) only [setCell_drewN, World.setCell_alloc_at, List.setIfInBounds_toArray, List.set_cons_zero, List.set_cons_succ, Nat.reduceAdd]
  obtain ⟨o7, v7, e1, e2, e3, b1, b2, b3⟩ := part (p7 + v6) (by omega) (by omega)
  have c7 : v7 ≤ 140735340871680 := by omega
  simp only [e1, e2]
  have E7 := Lib.hid e3
  have B7 := Lib.hid (And.intro b1 b2)
  clear e1 e2 e3 b1 b2
  rw [rounds_succ]
  go_wp2_with fail
  try simp (discharger := simp) only [setCell_drewN, World.setCell_alloc_at, List.setIfInBounds_toArray, List.set_cons_zero, List.set_cons_succ, Nat.reduceAdd]
  obtain ⟨o8, v8, e1, e2, e3, b1, b2, b3⟩ := part (p8 + v7) (by omega) (by omega)
  have c8 : v8 ≤ 140735340871680 := by omega
  simp only [e1, e2]
  have E8 := Lib.hid e3
  have B8 := Lib.hid (And.intro b1 b2)
  clear e1 e2 e3 b1 b2
  rw [rounds_succ]
  go_wp2_with fail
  try simp (discharger := simp) only [setCell_drewN, World.setCell_alloc_at, List.setIfInBounds_toArray, List.set_cons_zero, List.set_cons_succ, Nat.reduceAdd]
  obtain ⟨o9, v9, e1, e2, e3, b1, b2, b3⟩ := part (p9 + v8) (by omega) (by omega)
  have c9 : v9 ≤ 140735340871680 := by omega
  simp only [e1, e2]
  have E9 := Lib.hid e3
  have B9 := Lib.hid (And.intro b1 b2)
  clear e1 e2 e3 b1 b2
  rw [rounds_succ]
  go_wp2_with fail
  try simp (discharger := (first | (simp; done) | (simp; omega))) only [setCell_drewN, World.setCell_alloc_past, World.setCell_alloc_at, List.setIfInBounds_toArray, List.set_cons_zero, List.set_cons_succ, Nat.reduceAdd]
  have t := sum_parts SUM.out E0.out E1.out E2.out E3.out E4.out E5.out E6.out E7.out E8.out E9.out b3 HM.out B0.out B1.out B2.out B3.out B4.out B5.out B6.out B7.out B8.out B9.out
  obtain ⟨f0, f1, f2, f3, f4, f5, f6, f7, f8, f9⟩ := FIN.out _ _ _ _ _ _ _ _ _ _ t
  refine bodyPost_ret (v := .agg #[.int .i64 o0, .int .i64 o1, .int .i64 o2, .int .i64 o3, .int .i64 o4, .int .i64 o5, .int .i64 o6, .int .i64 o7, .int .i64 o8, .int .i64 o9]) (by simp [results, Try.results22, go_sem]) rfl ⟨by rw [f0, f1, f2, f3, f4, f5, f6, f7, f8, f9], ?_⟩
  exact (((Ext.refl _).alloc _).alloc _).alloc _

theorem sum_add {p q x0 x1 x2 x3 x4 x5 x6 x7 x8 x9 y0 y1 y2 y3 y4 y5 y6 y7 y8 y9 : Int} (h : p = x0 + 65536 * x1 + 4294967296 * x2 + 281474976710656 * x3 + 18446744073709551616 * x4 + 1208925819614629174706176 * x5 + 79228162514264337593543950336 * x6 + 5192296858534827628530496329220096 * x7 + 340282366920938463463374607431768211456 * x8 + 22300745198530623141535718272648361505980416 * x9) (k : q = y0 + 65536 * y1 + 4294967296 * y2 + 281474976710656 * y3 + 18446744073709551616 * y4 + 1208925819614629174706176 * y5 + 79228162514264337593543950336 * y6 + 5192296858534827628530496329220096 * y7 + 340282366920938463463374607431768211456 * y8 + 22300745198530623141535718272648361505980416 * y9) : p + q = (x0 + y0) + 65536 * (x1 + y1) + 4294967296 * (x2 + y2) + 281474976710656 * (x3 + y3) + 18446744073709551616 * (x4 + y4) + 1208925819614629174706176 * (x5 + y5) + 79228162514264337593543950336 * (x6 + y6) + 5192296858534827628530496329220096 * (x7 + y7) + 340282366920938463463374607431768211456 * (x8 + y8) + 22300745198530623141535718272648361505980416 * (x9 + y9) := by
  subst h k
  omega
set_option maxHeartbeats 2000000 in
theorem rplus_any (p q : Int) (hp : 0 ≤ p) (hp' : p < 1461501637330902918203684832716283019655932542976) (hq : 0 ≤ q) (hq' : q < 1461501637330902918203684832716283019655932542976) (hm : p + q < 1461501637330902918203684832716283019655932542976) (w : World) :
    Calls Try.prog 24 #[.agg #[.int .i64 (L p 0), .int .i64 (L p 1), .int .i64 (L p 2), .int .i64 (L p 3), .int .i64 (L p 4), .int .i64 (L p 5), .int .i64 (L p 6), .int .i64 (L p 7), .int .i64 (L p 8), .int .i64 (L p 9)], .agg #[.int .i64 (L q 0), .int .i64 (L q 1), .int .i64 (L q 2), .int .i64 (L q 3), .int .i64 (L q 4), .int .i64 (L q 5), .int .i64 (L q 6), .int .i64 (L q 7), .int .i64 (L q 8), .int .i64 (L q 9)]] w (Ret w (.agg #[.int .i64 (L (p + q) 0), .int .i64 (L (p + q) 1), .int .i64 (L (p + q) 2), .int .i64 (L (p + q) 3), .int .i64 (L (p + q) 4), .int .i64 (L (p + q) 5), .int .i64 (L (p + q) 6), .int .i64 (L (p + q) 7), .int .i64 (L (p + q) 8), .int .i64 (L (p + q) 9)])) := by
  have fin := fun o0 o1 o2 o3 o4 o5 o6 o7 o8 o9 (t : Ten (p + q) o0 o1 o2 o3 o4 o5 o6 o7 o8 o9) => ten_is t
  have FIN := Lib.hid fin
  have T := Lib.hid (ten_of p hp hp')
  have U := Lib.hid (ten_of q hq hq')
  have HM := Lib.hid hm
  clear fin hm hp hp' hq hq' 
  generalize L p 0 = x0 at T ⊢
  generalize L q 0 = y0 at U ⊢
  generalize L p 1 = x1 at T ⊢
  generalize L q 1 = y1 at U ⊢
  generalize L p 2 = x2 at T ⊢
  generalize L q 2 = y2 at U ⊢
  generalize L p 3 = x3 at T ⊢
  generalize L q 3 = y3 at U ⊢
  generalize L p 4 = x4 at T ⊢
  generalize L q 4 = y4 at U ⊢
  generalize L p 5 = x5 at T ⊢
  generalize L q 5 = y5 at U ⊢
  generalize L p 6 = x6 at T ⊢
  generalize L q 6 = y6 at U ⊢
  generalize L p 7 = x7 at T ⊢
  generalize L q 7 = y7 at U ⊢
  generalize L p 8 = x8 at T ⊢
  generalize L q 8 = y8 at U ⊢
  generalize L p 9 = x9 at T ⊢
  generalize L q 9 = y9 at U ⊢
  have l0 := T.out.b0
  have u0 := U.out.b0
  have l1 := T.out.b1
  have u1 := U.out.b1
  have l2 := T.out.b2
  have u2 := U.out.b2
  have l3 := T.out.b3
  have u3 := U.out.b3
  have l4 := T.out.b4
  have u4 := U.out.b4
  have l5 := T.out.b5
  have u5 := U.out.b5
  have l6 := T.out.b6
  have u6 := U.out.b6
  have l7 := T.out.b7
  have u7 := U.out.b7
  have l8 := T.out.b8
  have u8 := U.out.b8
  have l9 := T.out.b9
  have u9 := U.out.b9
  have SUM := Lib.hid (sum_add T.out.sum U.out.sum)
  generalize p + q = m at *
  go_enter Try.func24, Try.ntmps24
  go_wp2_with fail
  refine wp_loop_rounds 11 ?_
  rw [rounds_succ]
  go_wp2_with fail
  go_quiet (fail)
  go_wp2_with fail
  try simp (discharger := simp) only [setCell_drewN, World.setCell_alloc_at, List.setIfInBounds_toArray, List.set_cons_zero, List.set_cons_succ, Nat.reduceAdd]
  obtain ⟨o0, v0, e1, e2, e3, b1, b2, b3⟩ := part (x0 + y0) (by omega) (by omega)
  have c0 : v0 ≤ 2 := by omega
  simp only [e1, e2]
  have E0 := Lib.hid e3
  have B0 := Lib.hid (And.intro b1 b2)
  clear e1 e2 e3 b1 b2
  rw [rounds_succ]
  go_wp2_with fail
  go_quiet (fail)
  go_wp2_with fail
  try simp (discharger := simp) only [setCell_drewN, World.setCell_alloc_at, List.setIfInBounds_toArray, List.set_cons_zero, List.set_cons_succ, Nat.reduceAdd]
  obtain ⟨o1, v1, e1, e2, e3, b1, b2, b3⟩ := part (x1 + y1 + v0) (by omega) (by omega)
  have c1 : v1 ≤ 2 := by omega
  simp only [e1, e2]
  have E1 := Lib.hid e3
  have B1 := Lib.hid (And.intro b1 b2)
  clear e1 e2 e3 b1 b2
  rw [rounds_succ]
  go_wp2_with fail
  go_quiet (fail)
  go_wp2_with fail
  try simp (discharger := simp) only [setCell_drewN, World.setCell_alloc_at, List.setIfInBounds_toArray, List.set_cons_zero, List.set_cons_succ, Nat.reduceAdd]
  obtain ⟨o2, v2, e1, e2, e3, b1, b2, b3⟩ := part (x2 + y2 + v1) (by omega) (by omega)
  have c2 : v2 ≤ 2 := by omega
  simp only [e1, e2]
  have E2 := Lib.hid e3
  have B2 := Lib.hid (And.intro b1 b2)
  clear e1 e2 e3 b1 b2
  rw [rounds_succ]
  go_wp2_with fail
  go_quiet (fail)
  go_wp2_with fail
  try simp (discharger := simp) only [setCell_drewN, World.setCell_alloc_at, List.setIfInBounds_toArray, List.set_cons_zero, List.set_cons_succ, Nat.reduceAdd]
  obtain ⟨o3, v3, e1, e2, e3, b1, b2, b3⟩ := part (x3 + y3 + v2) (by omega) (by omega)
  have c3 : v3 ≤ 2 := by omega
  simp only [e1, e2]
  have E3 := Lib.hid e3
  have B3 := Lib.hid (And.intro b1 b2)
  clear e1 e2 e3 b1 b2
  rw [rounds_succ]
  go_wp2_with fail
  go_quiet (fail)
  go_wp2_with fail
  try simp (discharger := simp) only [setCell_drewN, World.setCell_alloc_at, List.setIfInBounds_toArray, List.set_cons_zero, List.set_cons_succ, Nat.reduceAdd]
  obtain ⟨o4, v4, e1, e2, e3, b1, b2, b3⟩ := part (x4 + y4 + v3) (by omega) (by omega)
  have c4 : v4 ≤ 2 := by omega
  simp only [e1, e2]
  have E4 := Lib.hid e3
  have B4 := Lib.hid (And.intro b1 b2)
  clear e1 e2 e3 b1 b2
  rw [rounds_succ]
  go_wp2_with fail
  go_quiet (fail)
  go_wp2_with fail
  try simp (discharger := simp) only [setCell_drewN, World.setCell_alloc_at, List.setIfInBounds_toArray, List.set_cons_zero, List.set_cons_succ, Nat.reduceAdd]
  obtain ⟨o5, v5, e1, e2, e3, b1, b2, b3⟩ := part (x5 + y5 + v4) (by omega) (by omega)
  have c5 : v5 ≤ 2 := by omega
  simp only [e1, e2]
  have E5 := Lib.hid e3
  have B5 := Lib.hid (And.intro b1 b2)
  clear e1 e2 e3 b1 b2
  rw [rounds_succ]
  go_wp2_with fail
  go_quiet (fail)
  go_wp2_with fail
  try simp (discharger := simp) only [setCell_drewN, World.setCell_alloc_at, List.setIfInBounds_toArray, List.set_cons_zero, List.set_cons_succ, Nat.reduceAdd]
  obtain ⟨o6, v6, e1, e2, e3, b1, b2, b3⟩ := part (x6 + y6 + v5) (by omega) (by omega)
  have c6 : v6 ≤ 2 := by omega
  simp only [e1, e2]
  have E6 := Lib.hid e3
  have B6 := Lib.hid (And.intro b1 b2)
  clear e1 e2 e3 b1 b2
  rw [rounds_succ]
  go_wp2_with fail
  go_quiet (fail)
  go_wp2_with fail
  try simp (discharger := simp) only [setCell_drewN, World.setCell_alloc_at, List.setIfInBounds_toArray, List.set_cons_zero, List.set_cons_succ, Nat.reduceAdd]
  obtain ⟨o7, v7, e1, e2, e3, b1, b2, b3⟩ := part (x7 + y7 + v6) (by omega) (by omega)
  have c7 : v7 ≤ 2 := by omega
  simp only [e1, e2]
  have E7 := Lib.hid e3
  have B7 := Lib.hid (And.intro b1 b2)
  clear e1 e2 e3 b1 b2
  rw [rounds_succ]
  go_wp2_with fail
  go_quiet (fail)
  go_wp2_with fail
  try simp (discharger := simp) only [setCell_drewN, World.setCell_alloc_at, List.setIfInBounds_toArray, List.set_cons_zero, List.set_cons_succ, Nat.reduceAdd]
  obtain ⟨o8, v8, e1, e2, e3, b1, b2, b3⟩ := part (x8 + y8 + v7) (by omega) (by omega)
  have c8 : v8 ≤ 2 := by omega
  simp only [e1, e2]
  have E8 := Lib.hid e3
  have B8 := Lib.hid (And.intro b1 b2)
  clear e1 e2 e3 b1 b2
  rw [rounds_succ]
  go_wp2_with fail
  go_quiet (fail)
  go_wp2_with fail
  try simp (discharger := simp) only [setCell_drewN, World.setCell_alloc_at, List.setIfInBounds_toArray, List.set_cons_zero, List.set_cons_succ, Nat.reduceAdd]
  obtain ⟨o9, v9, e1, e2, e3, b1, b2, b3⟩ := part (x9 + y9 + v8) (by omega) (by omega)
  have c9 : v9 ≤ 2 := by omega
  simp only [e1, e2]
  have E9 := Lib.hid e3
  have B9 := Lib.hid (And.intro b1 b2)
  clear e1 e2 e3 b1 b2
  rw [rounds_succ]
  go_wp2_with fail
  try go_quiet (fail)
  try simp (discharger := (first | (simp; done) | (simp; omega))) only [setCell_drewN, World.setCell_alloc_past, World.setCell_alloc_at, List.setIfInBounds_toArray, List.set_cons_zero, List.set_cons_succ, Nat.reduceAdd]
  have t := sum_parts SUM.out E0.out E1.out E2.out E3.out E4.out E5.out E6.out E7.out E8.out E9.out b3 HM.out B0.out B1.out B2.out B3.out B4.out B5.out B6.out B7.out B8.out B9.out
  obtain ⟨f0, f1, f2, f3, f4, f5, f6, f7, f8, f9⟩ := FIN.out _ _ _ _ _ _ _ _ _ _ t
  refine bodyPost_ret (v := .agg #[.int .i64 o0, .int .i64 o1, .int .i64 o2, .int .i64 o3, .int .i64 o4, .int .i64 o5, .int .i64 o6, .int .i64 o7, .int .i64 o8, .int .i64 o9]) (by simp [results, Try.results24, go_sem]) rfl ⟨by rw [f0, f1, f2, f3, f4, f5, f6, f7, f8, f9], ?_⟩
  repeat' (first | exact Ext.refl _ | refine Ext.drewN ?_ _ | refine Ext.alloc ?_ _)

set_option maxHeartbeats 2000000 in
theorem rabove_any (p q : Int) (hp : 0 ≤ p) (hp' : p < 1461501637330902918203684832716283019655932542976) (hq : 0 ≤ q) (hq' : q < 1461501637330902918203684832716283019655932542976) (w : World) :
    Calls Try.prog 25 #[.agg #[.int .i64 (L p 0), .int .i64 (L p 1), .int .i64 (L p 2), .int .i64 (L p 3), .int .i64 (L p 4), .int .i64 (L p 5), .int .i64 (L p 6), .int .i64 (L p 7), .int .i64 (L p 8), .int .i64 (L p 9)], .agg #[.int .i64 (L q 0), .int .i64 (L q 1), .int .i64 (L q 2), .int .i64 (L q 3), .int .i64 (L q 4), .int .i64 (L q 5), .int .i64 (L q 6), .int .i64 (L q 7), .int .i64 (L q 8), .int .i64 (L q 9)]] w (Ret w (.bool (decide (q < p)))) := by
  have T := Lib.hid (ten_of p hp hp')
  have U := Lib.hid (ten_of q hq hq')
  clear hp hp' hq hq' 
  generalize L p 0 = x0 at T ⊢
  generalize L q 0 = y0 at U ⊢
  generalize L p 1 = x1 at T ⊢
  generalize L q 1 = y1 at U ⊢
  generalize L p 2 = x2 at T ⊢
  generalize L q 2 = y2 at U ⊢
  generalize L p 3 = x3 at T ⊢
  generalize L q 3 = y3 at U ⊢
  generalize L p 4 = x4 at T ⊢
  generalize L q 4 = y4 at U ⊢
  generalize L p 5 = x5 at T ⊢
  generalize L q 5 = y5 at U ⊢
  generalize L p 6 = x6 at T ⊢
  generalize L q 6 = y6 at U ⊢
  generalize L p 7 = x7 at T ⊢
  generalize L q 7 = y7 at U ⊢
  generalize L p 8 = x8 at T ⊢
  generalize L q 8 = y8 at U ⊢
  generalize L p 9 = x9 at T ⊢
  generalize L q 9 = y9 at U ⊢
  go_enter Try.func25, Try.ntmps25
  go_wp2_with fail
  refine wp_loop_rounds 11 ?_
  rw [rounds_succ]
  go_wp2_with fail
  by_cases h9 : x9 = y9
  rotate_left
  · have e1 : (x9 != y9) = true := by simp; omega
    have s1 := T.out.sum
    have s2 := U.out.sum
    have h0 := T.out.b0; have k0 := U.out.b0
    have h1 := T.out.b1; have k1 := U.out.b1
    have h2 := T.out.b2; have k2 := U.out.b2
    have h3 := T.out.b3; have k3 := U.out.b3
    have h4 := T.out.b4; have k4 := U.out.b4
    have h5 := T.out.b5; have k5 := U.out.b5
    have h6 := T.out.b6; have k6 := U.out.b6
    have h7 := T.out.b7; have k7 := U.out.b7
    have h8 := T.out.b8; have k8 := U.out.b8
    have h9 := T.out.b9; have k9 := U.out.b9
    have c : decide (y9 < x9) = decide (q < p) := by rw [decide_eq_decide]; omega
    have C := Lib.hid c
    clear c s1 s2 h0 h1 h2 h3 h4 h5 h6 h7 h8 h9 k0 k1 k2 k3 k4 k5 k6 k7 k8 k9
    go_quiet (fail)
    go_wp2_with fail
    go_quiet (fail)
    go_wp2_with fail
    go_ret
    refine ⟨ret_bool C.out, ?_⟩
    repeat' (first | exact Ext.refl _ | refine Ext.drewN ?_ _ | refine Ext.alloc ?_ _)
  subst h9
  have e1 : (x9 != x9) = false := by simp
  go_quiet (fail)
  go_wp2_with fail
  clear e1
  rw [rounds_succ]
  go_wp2_with fail
  by_cases h8 : x8 = y8
  rotate_left
  · have e1 : (x8 != y8) = true := by simp; omega
    have s1 := T.out.sum
    have s2 := U.out.sum
    have h0 := T.out.b0; have k0 := U.out.b0
    have h1 := T.out.b1; have k1 := U.out.b1
    have h2 := T.out.b2; have k2 := U.out.b2
    have h3 := T.out.b3; have k3 := U.out.b3
    have h4 := T.out.b4; have k4 := U.out.b4
    have h5 := T.out.b5; have k5 := U.out.b5
    have h6 := T.out.b6; have k6 := U.out.b6
    have h7 := T.out.b7; have k7 := U.out.b7
    have h8 := T.out.b8; have k8 := U.out.b8
    have h9 := T.out.b9; have k9 := U.out.b9
    have c : decide (y8 < x8) = decide (q < p) := by rw [decide_eq_decide]; omega
    have C := Lib.hid c
    clear c s1 s2 h0 h1 h2 h3 h4 h5 h6 h7 h8 h9 k0 k1 k2 k3 k4 k5 k6 k7 k8 k9
    go_quiet (fail)
    go_wp2_with fail
    go_quiet (fail)
    go_wp2_with fail
    go_ret
    refine ⟨ret_bool C.out, ?_⟩
    repeat' (first | exact Ext.refl _ | refine Ext.drewN ?_ _ | refine Ext.alloc ?_ _)
  subst h8
  have e1 : (x8 != x8) = false := by simp
  go_quiet (fail)
  go_wp2_with fail
  clear e1
  rw [rounds_succ]
  go_wp2_with fail
  by_cases h7 : x7 = y7
  rotate_left
  · have e1 : (x7 != y7) = true := by simp; omega
    have s1 := T.out.sum
    have s2 := U.out.sum
    have h0 := T.out.b0; have k0 := U.out.b0
    have h1 := T.out.b1; have k1 := U.out.b1
    have h2 := T.out.b2; have k2 := U.out.b2
    have h3 := T.out.b3; have k3 := U.out.b3
    have h4 := T.out.b4; have k4 := U.out.b4
    have h5 := T.out.b5; have k5 := U.out.b5
    have h6 := T.out.b6; have k6 := U.out.b6
    have h7 := T.out.b7; have k7 := U.out.b7
    have h8 := T.out.b8; have k8 := U.out.b8
    have h9 := T.out.b9; have k9 := U.out.b9
    have c : decide (y7 < x7) = decide (q < p) := by rw [decide_eq_decide]; omega
    have C := Lib.hid c
    clear c s1 s2 h0 h1 h2 h3 h4 h5 h6 h7 h8 h9 k0 k1 k2 k3 k4 k5 k6 k7 k8 k9
    go_quiet (fail)
    go_wp2_with fail
    go_quiet (fail)
    go_wp2_with fail
    go_ret
    refine ⟨ret_bool C.out, ?_⟩
    repeat' (first | exact Ext.refl _ | refine Ext.drewN ?_ _ | refine Ext.alloc ?_ _)
  subst h7
  have e1 : (x7 != x7) = false := by simp
  go_quiet (fail)
  go_wp2_with fail
  clear e1
  rw [rounds_succ]
  go_wp2_with fail
  by_cases h6 : x6 = y6
  rotate_left
  · have e1 : (x6 != y6) = true := by simp; omega
    have s1 := T.out.sum
    have s2 := U.out.sum
    have h0 := T.out.b0; have k0 := U.out.b0
    have h1 := T.out.b1; have k1 := U.out.b1
    have h2 := T.out.b2; have k2 := U.out.b2
    have h3 := T.out.b3; have k3 := U.out.b3
    have h4 := T.out.b4; have k4 := U.out.b4
    have h5 := T.out.b5; have k5 := U.out.b5
    have h6 := T.out.b6; have k6 := U.out.b6
    have h7 := T.out.b7; have k7 := U.out.b7
    have h8 := T.out.b8; have k8 := U.out.b8
    have h9 := T.out.b9; have k9 := U.out.b9
    have c : decide (y6 < x6) = decide (q < p) := by rw [decide_eq_decide]; omega
    have C := Lib.hid c
    clear c s1 s2 h0 h1 h2 h3 h4 h5 h6 h7 h8 h9 k0 k1 k2 k3 k4 k5 k6 k7 k8 k9
    go_quiet (fail)
    go_wp2_with fail
    go_quiet (fail)
    go_wp2_with fail
    go_ret
    refine ⟨ret_bool C.out, ?_⟩
    repeat' (first | exact Ext.refl _ | refine Ext.drewN ?_ _ | refine Ext.alloc ?_ _)
  subst h6
  have e1 : (x6 != x6) = false := by simp
  go_quiet (fail)
  go_wp2_with fail
  clear e1
  rw [rounds_succ]
  go_wp2_with fail
  by_cases h5 : x5 = y5
  rotate_left
  · have e1 : (x5 != y5) = true := by simp; omega
    have s1 := T.out.sum
    have s2 := U.out.sum
    have h0 := T.out.b0; have k0 := U.out.b0
    have h1 := T.out.b1; have k1 := U.out.b1
    have h2 := T.out.b2; have k2 := U.out.b2
    have h3 := T.out.b3; have k3 := U.out.b3
    have h4 := T.out.b4; have k4 := U.out.b4
    have h5 := T.out.b5; have k5 := U.out.b5
    have h6 := T.out.b6; have k6 := U.out.b6
    have h7 := T.out.b7; have k7 := U.out.b7
    have h8 := T.out.b8; have k8 := U.out.b8
    have h9 := T.out.b9; have k9 := U.out.b9
    have c : decide (y5 < x5) = decide (q < p) := by rw [decide_eq_decide]; omega
    have C := Lib.hid c
    clear c s1 s2 h0 h1 h2 h3 h4 h5 h6 h7 h8 h9 k0 k1 k2 k3 k4 k5 k6 k7 k8 k9
    go_quiet (fail)
    go_wp2_with fail
    go_quiet (fail)
    go_wp2_with fail
    go_ret
    refine ⟨ret_bool C.out, ?_⟩
    repeat' (first | exact Ext.refl _ | refine Ext.drewN ?_ _ | refine Ext.alloc ?_ _)
  subst h5
  have e1 : (x5 != x5) = false := by simp
  go_quiet (fail)
  go_wp2_with fail
  clear e1
  rw [rounds_succ]
  go_wp2_with fail
  by_cases h4 : x4 = y4
  rotate_left
  · have e1 : (x4 != y4) = true := by simp; omega
    have s1 := T.out.sum
    have s2 := U.out.sum
    have h0 := T.out.b0; have k0 := U.out.b0
    have h1 := T.out.b1; have k1 := U.out.b1
    have h2 := T.out.b2; have k2 := U.out.b2
    have h3 := T.out.b3; have k3 := U.out.b3
    have h4 := T.out.b4; have k4 := U.out.b4
    have h5 := T.out.b5; have k5 := U.out.b5
    have h6 := T.out.b6; have k6 := U.out.b6
    have h7 := T.out.b7; have k7 := U.out.b7
    have h8 := T.out.b8; have k8 := U.out.b8
    have h9 := T.out.b9; have k9 := U.out.b9
    have c : decide (y4 < x4) = decide (q < p) := by rw [decide_eq_decide]; omega
    have C := Lib.hid c
    clear c s1 s2 h0 h1 h2 h3 h4 h5 h6 h7 h8 h9 k0 k1 k2 k3 k4 k5 k6 k7 k8 k9
    go_quiet (fail)
    go_wp2_with fail
    go_quiet (fail)
    go_wp2_with fail
    go_ret
    refine ⟨ret_bool C.out, ?_⟩
    repeat' (first | exact Ext.refl _ | refine Ext.drewN ?_ _ | refine Ext.alloc ?_ _)
  subst h4
  have e1 : (x4 != x4) = false := by simp
  go_quiet (fail)
  go_wp2_with fail
  clear e1
  rw [rounds_succ]
  go_wp2_with fail
  by_cases h3 : x3 = y3
  rotate_left
  · have e1 : (x3 != y3) = true := by simp; omega
    have s1 := T.out.sum
    have s2 := U.out.sum
    have h0 := T.out.b0; have k0 := U.out.b0
    have h1 := T.out.b1; have k1 := U.out.b1
    have h2 := T.out.b2; have k2 := U.out.b2
    have h3 := T.out.b3; have k3 := U.out.b3
    have h4 := T.out.b4; have k4 := U.out.b4
    have h5 := T.out.b5; have k5 := U.out.b5
    have h6 := T.out.b6; have k6 := U.out.b6
    have h7 := T.out.b7; have k7 := U.out.b7
    have h8 := T.out.b8; have k8 := U.out.b8
    have h9 := T.out.b9; have k9 := U.out.b9
    have c : decide (y3 < x3) = decide (q < p) := by rw [decide_eq_decide]; omega
    have C := Lib.hid c
    clear c s1 s2 h0 h1 h2 h3 h4 h5 h6 h7 h8 h9 k0 k1 k2 k3 k4 k5 k6 k7 k8 k9
    go_quiet (fail)
    go_wp2_with fail
    go_quiet (fail)
    go_wp2_with fail
    go_ret
    refine ⟨ret_bool C.out, ?_⟩
    repeat' (first | exact Ext.refl _ | refine Ext.drewN ?_ _ | refine Ext.alloc ?_ _)
  subst h3
  have e1 : (x3 != x3) = false := by simp
  go_quiet (fail)
  go_wp2_with fail
  clear e1
  rw [rounds_succ]
  go_wp2_with fail
  by_cases h2 : x2 = y2
  rotate_left
  · have e1 : (x2 != y2) = true := by simp; omega
    have s1 := T.out.sum
    have s2 := U.out.sum
    have h0 := T.out.b0; have k0 := U.out.b0
    have h1 := T.out.b1; have k1 := U.out.b1
    have h2 := T.out.b2; have k2 := U.out.b2
    have h3 := T.out.b3; have k3 := U.out.b3
    have h4 := T.out.b4; have k4 := U.out.b4
    have h5 := T.out.b5; have k5 := U.out.b5
    have h6 := T.out.b6; have k6 := U.out.b6
    have h7 := T.out.b7; have k7 := U.out.b7
    have h8 := T.out.b8; have k8 := U.out.b8
    have h9 := T.out.b9; have k9 := U.out.b9
    have c : decide (y2 < x2) = decide (q < p) := by rw [decide_eq_decide]; omega
    have C := Lib.hid c
    clear c s1 s2 h0 h1 h2 h3 h4 h5 h6 h7 h8 h9 k0 k1 k2 k3 k4 k5 k6 k7 k8 k9
    go_quiet (fail)
    go_wp2_with fail
    go_quiet (fail)
    go_wp2_with fail
    go_ret
    refine ⟨ret_bool C.out, ?_⟩
    repeat' (first | exact Ext.refl _ | refine Ext.drewN ?_ _ | refine Ext.alloc ?_ _)
  subst h2
  have e1 : (x2 != x2) = false := by simp
  go_quiet (fail)
  go_wp2_with fail
  clear e1
  rw [rounds_succ]
  go_wp2_with fail
  by_cases h1 : x1 = y1
  rotate_left
  · have e1 : (x1 != y1) = true := by simp; omega
    have s1 := T.out.sum
    have s2 := U.out.sum
    have h0 := T.out.b0; have k0 := U.out.b0
    have h1 := T.out.b1; have k1 := U.out.b1
    have h2 := T.out.b2; have k2 := U.out.b2
    have h3 := T.out.b3; have k3 := U.out.b3
    have h4 := T.out.b4; have k4 := U.out.b4
    have h5 := T.out.b5; have k5 := U.out.b5
    have h6 := T.out.b6; have k6 := U.out.b6
    have h7 := T.out.b7; have k7 := U.out.b7
    have h8 := T.out.b8; have k8 := U.out.b8
    have h9 := T.out.b9; have k9 := U.out.b9
    have c : decide (y1 < x1) = decide (q < p) := by rw [decide_eq_decide]; omega
    have C := Lib.hid c
    clear c s1 s2 h0 h1 h2 h3 h4 h5 h6 h7 h8 h9 k0 k1 k2 k3 k4 k5 k6 k7 k8 k9
    go_quiet (fail)
    go_wp2_with fail
    go_quiet (fail)
    go_wp2_with fail
    go_ret
    refine ⟨ret_bool C.out, ?_⟩
    repeat' (first | exact Ext.refl _ | refine Ext.drewN ?_ _ | refine Ext.alloc ?_ _)
  subst h1
  have e1 : (x1 != x1) = false := by simp
  go_quiet (fail)
  go_wp2_with fail
  clear e1
  rw [rounds_succ]
  go_wp2_with fail
  by_cases h0 : x0 = y0
  rotate_left
  · have e1 : (x0 != y0) = true := by simp; omega
    have s1 := T.out.sum
    have s2 := U.out.sum
    have h0 := T.out.b0; have k0 := U.out.b0
    have h1 := T.out.b1; have k1 := U.out.b1
    have h2 := T.out.b2; have k2 := U.out.b2
    have h3 := T.out.b3; have k3 := U.out.b3
    have h4 := T.out.b4; have k4 := U.out.b4
    have h5 := T.out.b5; have k5 := U.out.b5
    have h6 := T.out.b6; have k6 := U.out.b6
    have h7 := T.out.b7; have k7 := U.out.b7
    have h8 := T.out.b8; have k8 := U.out.b8
    have h9 := T.out.b9; have k9 := U.out.b9
    have c : decide (y0 < x0) = decide (q < p) := by rw [decide_eq_decide]; omega
    have C := Lib.hid c
    clear c s1 s2 h0 h1 h2 h3 h4 h5 h6 h7 h8 h9 k0 k1 k2 k3 k4 k5 k6 k7 k8 k9
    go_quiet (fail)
    go_wp2_with fail
    go_quiet (fail)
    go_wp2_with fail
    go_ret
    refine ⟨ret_bool C.out, ?_⟩
    repeat' (first | exact Ext.refl _ | refine Ext.drewN ?_ _ | refine Ext.alloc ?_ _)
  subst h0
  have e1 : (x0 != x0) = false := by simp
  go_quiet (fail)
  go_wp2_with fail
  clear e1
  rw [rounds_succ]
  go_wp2_with fail
  have c : false = decide (q < p) := by
    have e : p = q := T.out.sum.trans U.out.sum.symm
    subst e
    simp
  go_ret
  refine ⟨ret_bool c, ?_⟩
  repeat' (first | exact Ext.refl _ | refine Ext.drewN ?_ _ | refine Ext.alloc ?_ _)

end L03
end Go.Proofs.Ytfooocfkfchihaa

