/- Contracts of the document's answers for layer 2: a product's limbs. -/
import Derived.Test.YtllajmggopgimaaMulB02
namespace Go.Proofs.Ytllajmggopgimaa
open Go.RowKit
namespace L02

theorem limbs_any (n : Int) (hn : 0 ≤ n) (hn' : n ≤ 4611686018427387904) (w : World) :
    Calls Try.prog 31 #[.int .i64 n] w (fun e w' => e = .returned (.agg #[.int .i64 (n % 65536), .int .i64 (n / 65536 % 65536), .int .i64 (n / 65536 / 65536 % 65536), .int .i64 (n / 65536 / 65536 / 65536 % 65536), .int .i64 (n / 65536 / 65536 / 65536 / 65536 % 65536), .int .i64 (n / 65536 / 65536 / 65536 / 65536 / 65536 % 65536), .int .i64 (n / 65536 / 65536 / 65536 / 65536 / 65536 / 65536 % 65536), .int .i64 (n / 65536 / 65536 / 65536 / 65536 / 65536 / 65536 / 65536 % 65536)]) ∧
      w' = (w.alloc (.cells #[.int .i64 (n % 65536), .int .i64 (n / 65536 % 65536), .int .i64 (n / 65536 / 65536 % 65536), .int .i64 (n / 65536 / 65536 / 65536 % 65536), .int .i64 (n / 65536 / 65536 / 65536 / 65536 % 65536), .int .i64 (n / 65536 / 65536 / 65536 / 65536 / 65536 % 65536), .int .i64 (n / 65536 / 65536 / 65536 / 65536 / 65536 / 65536 % 65536), .int .i64 (n / 65536 / 65536 / 65536 / 65536 / 65536 / 65536 / 65536 % 65536)] 47)).alloc (.cells #[.int .i64 (n % 65536), .int .i64 (n / 65536 % 65536), .int .i64 (n / 65536 / 65536 % 65536), .int .i64 (n / 65536 / 65536 / 65536 % 65536), .int .i64 (n / 65536 / 65536 / 65536 / 65536 % 65536), .int .i64 (n / 65536 / 65536 / 65536 / 65536 / 65536 % 65536), .int .i64 (n / 65536 / 65536 / 65536 / 65536 / 65536 / 65536 % 65536), .int .i64 (n / 65536 / 65536 / 65536 / 65536 / 65536 / 65536 / 65536 % 65536)] 47)) := by
  go_enter Try.func31, Try.ntmps31
  go_wp2_with fail
  refine wp_loop_rounds 9 ?_
  rw [rounds_succ]
  go_wp2_with fail
  rw [rounds_succ]
  go_wp2_with fail
  rw [rounds_succ]
  go_wp2_with fail
  rw [rounds_succ]
  go_wp2_with fail
  rw [rounds_succ]
  go_wp2_with fail
  rw [rounds_succ]
  go_wp2_with fail
  rw [rounds_succ]
  go_wp2_with fail
  rw [rounds_succ]
  go_wp2_with fail
  rw [rounds_succ]
  go_wp2_with fail
  exact bodyPost_ret (v := .agg #[.int .i64 _, .int .i64 _, .int .i64 _, .int .i64 _, .int .i64 _, .int .i64 _, .int .i64 _, .int .i64 _]) (by simp [results, Try.results31, go_sem]) rfl ⟨rfl, rfl⟩

/-- What limbs are of a number. -/
structure Limbs (n x0 x1 x2 x3 x4 x5 x6 x7 : Int) : Prop where
  sum : n = x0 + 65536 * x1 + 4294967296 * x2 + 281474976710656 * x3
  b0 : 0 ≤ x0 ∧ x0 ≤ 65535
  b1 : 0 ≤ x1 ∧ x1 ≤ 65535
  b2 : 0 ≤ x2 ∧ x2 ≤ 65535
  b3 : 0 ≤ x3 ∧ x3 ≤ 65535
def LimbsRet (n : Int) (w : World) (e : Ending) (w' : World) : Prop :=
  ∃ x0 x1 x2 x3 x4 x5 x6 x7, Limbs n x0 x1 x2 x3 x4 x5 x6 x7 ∧ e = .returned (.agg #[.int .i64 x0, .int .i64 x1, .int .i64 x2, .int .i64 x3, .int .i64 x4, .int .i64 x5, .int .i64 x6, .int .i64 x7]) ∧ w' = (w.alloc (.cells #[.int .i64 x0, .int .i64 x1, .int .i64 x2, .int .i64 x3, .int .i64 x4, .int .i64 x5, .int .i64 x6, .int .i64 x7] 47)).alloc (.cells #[.int .i64 x0, .int .i64 x1, .int .i64 x2, .int .i64 x3, .int .i64 x4, .int .i64 x5, .int .i64 x6, .int .i64 x7] 47)
theorem limbs_some (n : Int) (hn : 0 ≤ n) (hn' : n ≤ 4611686018427387904) (w : World) :
    Calls Try.prog 31 #[.int .i64 n] w (LimbsRet n w) := by
  refine (limbs_any n hn hn' w).mono ?_
  rintro e w' ⟨rfl, hx⟩
  exact ⟨_, _, _, _, _, _, _, _, ⟨by omega, by omega, by omega, by omega, by omega⟩, rfl, hx⟩

theorem prod_in {x y : Int} (hx : 0 ≤ x ∧ x ≤ 65535) (hy : 0 ≤ y ∧ y ≤ 65535) : 0 ≤ x * y ∧ x * y ≤ 4294836225 :=
  ⟨Int.mul_nonneg hx.1 hy.1, Int.mul_le_mul hx.2 hy.2 hy.1 (by omega)⟩

/-- The eight limbs of a product. -/
structure Eight (p o0 o1 o2 o3 o4 o5 o6 o7 : Int) : Prop where
  sum : p = o0 + 65536 * o1 + 4294967296 * o2 + 281474976710656 * o3 + 18446744073709551616 * o4 + 1208925819614629174706176 * o5 + 79228162514264337593543950336 * o6 + 5192296858534827628530496329220096 * o7
  b0 : 0 ≤ o0 ∧ o0 ≤ 65535
  b1 : 0 ≤ o1 ∧ o1 ≤ 65535
  b2 : 0 ≤ o2 ∧ o2 ≤ 65535
  b3 : 0 ≤ o3 ∧ o3 ≤ 65535
  b4 : 0 ≤ o4 ∧ o4 ≤ 65535
  b5 : 0 ≤ o5 ∧ o5 ≤ 65535
  b6 : 0 ≤ o6 ∧ o6 ≤ 65535
  b7 : 0 ≤ o7 ∧ o7 ≤ 65535
def EightRet (p : Int) (w : World) (e : Ending) (w' : World) : Prop :=
  ∃ x0 x1 x2 x3 x4 x5 x6 x7, Eight p x0 x1 x2 x3 x4 x5 x6 x7 ∧ e = .returned (.agg #[.int .i64 x0, .int .i64 x1, .int .i64 x2, .int .i64 x3, .int .i64 x4, .int .i64 x5, .int .i64 x6, .int .i64 x7]) ∧ Ext w w'

theorem mul_four (x y0 y1 y2 y3 : Int) : x * (y0 + 65536 * y1 + 4294967296 * y2 + 281474976710656 * y3) = x * y0 + 65536 * (x * y1) + 4294967296 * (x * y2) + 281474976710656 * (x * y3) := by
  rw [Int.mul_add, Int.mul_add, Int.mul_add, Int.mul_left_comm x 65536, Int.mul_left_comm x 4294967296, Int.mul_left_comm x 281474976710656]
theorem mul_limbs {a b x0 x1 x2 x3 y0 y1 y2 y3 : Int} (ha : a = x0 + 65536 * x1 + 4294967296 * x2 + 281474976710656 * x3) (hb : b = y0 + 65536 * y1 + 4294967296 * y2 + 281474976710656 * y3) :
    a * b = (x0 * y0 + 65536 * (x0 * y1) + 4294967296 * (x0 * y2) + 281474976710656 * (x0 * y3)) + 65536 * (x1 * y0 + 65536 * (x1 * y1) + 4294967296 * (x1 * y2) + 281474976710656 * (x1 * y3)) +
      4294967296 * (x2 * y0 + 65536 * (x2 * y1) + 4294967296 * (x2 * y2) + 281474976710656 * (x2 * y3)) + 281474976710656 * (x3 * y0 + 65536 * (x3 * y1) + 4294967296 * (x3 * y2) + 281474976710656 * (x3 * y3)) := by
  rw [← mul_four, ← mul_four, ← mul_four, ← mul_four, ← hb]
  subst ha
  rw [Int.add_mul, Int.add_mul, Int.add_mul, Int.mul_assoc, Int.mul_assoc, Int.mul_assoc]
-- TOTAL
theorem total {p00 p01 p02 p03 p10 p11 p12 p13 p20 p21 p22 p23 p30 p31 p32 p33 o00 v00 o01 v01 o02 v02 o03 v03 o10 v10 o11 v11 o12 v12 o13 v13 o20 v20 o21 v21 o22 v22 o23 v23 o30 v30 o31 v31 o32 v32 o33 v33 : Int} (h00 : p00 = o00 + 65536 * v00) (h01 : p01 + v00 = o01 + 65536 * v01) (h02 : p02 + v01 = o02 + 65536 * v02) (h03 : p03 + v02 = o03 + 65536 * v03) (h10 : o01 + p10 = o10 + 65536 * v10) (h11 : o02 + p11 + v10 = o11 + 65536 * v11) (h12 : o03 + p12 + v11 = o12 + 65536 * v12) (h13 : v03 + p13 + v12 = o13 + 65536 * v13) (h20 : o11 + p20 = o20 + 65536 * v20) (h21 : o12 + p21 + v20 = o21 + 65536 * v21) (h22 : o13 + p22 + v21 = o22 + 65536 * v22) (h23 : v13 + p23 + v22 = o23 + 65536 * v23) (h30 : o21 + p30 = o30 + 65536 * v30) (h31 : o22 + p31 + v30 = o31 + 65536 * v31) (h32 : o23 + p32 + v31 = o32 + 65536 * v32) (h33 : v23 + p33 + v32 = o33 + 65536 * v33) :
    (p00 + 65536 * p01 + 4294967296 * p02 + 281474976710656 * p03) + 65536 * (p10 + 65536 * p11 + 4294967296 * p12 + 281474976710656 * p13) + 4294967296 * (p20 + 65536 * p21 + 4294967296 * p22 + 281474976710656 * p23) + 281474976710656 * (p30 + 65536 * p31 + 4294967296 * p32 + 281474976710656 * p33) = o00 + 65536 * o10 + 4294967296 * o20 + 281474976710656 * o30 + 18446744073709551616 * o31 + 1208925819614629174706176 * o32 + 79228162514264337593543950336 * o33 + 5192296858534827628530496329220096 * v33 := by
  obtain rfl : p00 = o00 + 65536 * v00 := by clear h01 h02 h03 h10 h11 h12 h13 h20 h21 h22 h23 h30 h31 h32 h33; omega
  clear h00
  obtain rfl : p01 = o01 + 65536 * v01 - v00 := by clear h02 h03 h10 h11 h12 h13 h20 h21 h22 h23 h30 h31 h32 h33; omega
  clear h01
  obtain rfl : p02 = o02 + 65536 * v02 - v01 := by clear h03 h10 h11 h12 h13 h20 h21 h22 h23 h30 h31 h32 h33; omega
  clear h02
  obtain rfl : p03 = o03 + 65536 * v03 - v02 := by clear h10 h11 h12 h13 h20 h21 h22 h23 h30 h31 h32 h33; omega
  clear h03
  obtain rfl : p10 = o10 + 65536 * v10 - o01 := by clear h11 h12 h13 h20 h21 h22 h23 h30 h31 h32 h33; omega
  clear h10
  obtain rfl : p11 = o11 + 65536 * v11 - o02 - v10 := by clear h12 h13 h20 h21 h22 h23 h30 h31 h32 h33; omega
  clear h11
  obtain rfl : p12 = o12 + 65536 * v12 - o03 - v11 := by clear h13 h20 h21 h22 h23 h30 h31 h32 h33; omega
  clear h12
  obtain rfl : p13 = o13 + 65536 * v13 - v03 - v12 := by clear h20 h21 h22 h23 h30 h31 h32 h33; omega
  clear h13
  obtain rfl : p20 = o20 + 65536 * v20 - o11 := by clear h21 h22 h23 h30 h31 h32 h33; omega
  clear h20
  obtain rfl : p21 = o21 + 65536 * v21 - o12 - v20 := by clear h22 h23 h30 h31 h32 h33; omega
  clear h21
  obtain rfl : p22 = o22 + 65536 * v22 - o13 - v21 := by clear h23 h30 h31 h32 h33; omega
  clear h22
  obtain rfl : p23 = o23 + 65536 * v23 - v13 - v22 := by clear h30 h31 h32 h33; omega
  clear h23
  obtain rfl : p30 = o30 + 65536 * v30 - o21 := by clear h31 h32 h33; omega
  clear h30
  obtain rfl : p31 = o31 + 65536 * v31 - o22 - v30 := by clear h32 h33; omega
  clear h31
  obtain rfl : p32 = o32 + 65536 * v32 - o23 - v31 := by clear h33; omega
  clear h32
  obtain rfl : p33 = o33 + 65536 * v33 - v23 - v32 := by omega
  clear h33
  omega
-- END OF TOTAL
theorem setCell_drewN (w : World) (n : Nat) (p : Addr) (v : Value) : (w.drewN n).setCell p v = (w.setCell p v).drewN n := by
  unfold World.drewN World.setCell; rfl
theorem part (s : Int) (h0 : 0 ≤ s) (h1 : s ≤ 4294967295) : ∃ o v : Int, s % 65536 = o ∧ s / 65536 = v ∧ s = o + 65536 * v ∧ 0 ≤ o ∧ o ≤ 65535 ∧ 0 ≤ v ∧ v ≤ 65535 :=
  ⟨_, _, rfl, rfl, by omega, by omega, by omega, by omega, by omega⟩

set_option maxHeartbeats 4000000 in
theorem product_some (a b : Int) (ha : 0 ≤ a) (ha' : a ≤ 4611686018427387904) (hb : 0 ≤ b) (hb' : b ≤ 4611686018427387904) (w : World) :
    Calls Try.prog 26 #[.int .i64 a, .int .i64 b] w (EightRet (a * b) w) := by
  go_enter Try.func26, Try.ntmps26
  go_wp2_with fail
  refine (limbs_some _ ha ha' _).mono ?_; rintro e w1 ⟨x0, x1, x2, x3, x4, x5, x6, x7, lx, rfl, rfl⟩
  go_wp2_with fail
  refine (limbs_some _ hb hb' _).mono ?_; rintro e w2 ⟨y0, y1, y2, y3, y4, y5, y6, y7, ly, rfl, rfl⟩
  have LX := Lib.hid lx; have LY := Lib.hid ly
  clear lx ly
  have hp00 := prod_in LX.out.b0 LY.out.b0
  have hl00 := hp00.1; have hh00 := hp00.2; clear hp00
  generalize gp00 : x0 * y0 = p00 at *
  have hp01 := prod_in LX.out.b0 LY.out.b1
  have hl01 := hp01.1; have hh01 := hp01.2; clear hp01
  generalize gp01 : x0 * y1 = p01 at *
  have hp02 := prod_in LX.out.b0 LY.out.b2
  have hl02 := hp02.1; have hh02 := hp02.2; clear hp02
  generalize gp02 : x0 * y2 = p02 at *
  have hp03 := prod_in LX.out.b0 LY.out.b3
  have hl03 := hp03.1; have hh03 := hp03.2; clear hp03
  generalize gp03 : x0 * y3 = p03 at *
  have hp10 := prod_in LX.out.b1 LY.out.b0
  have hl10 := hp10.1; have hh10 := hp10.2; clear hp10
  generalize gp10 : x1 * y0 = p10 at *
  have hp11 := prod_in LX.out.b1 LY.out.b1
  have hl11 := hp11.1; have hh11 := hp11.2; clear hp11
  generalize gp11 : x1 * y1 = p11 at *
  have hp12 := prod_in LX.out.b1 LY.out.b2
  have hl12 := hp12.1; have hh12 := hp12.2; clear hp12
  generalize gp12 : x1 * y2 = p12 at *
  have hp13 := prod_in LX.out.b1 LY.out.b3
  have hl13 := hp13.1; have hh13 := hp13.2; clear hp13
  generalize gp13 : x1 * y3 = p13 at *
  have hp20 := prod_in LX.out.b2 LY.out.b0
  have hl20 := hp20.1; have hh20 := hp20.2; clear hp20
  generalize gp20 : x2 * y0 = p20 at *
  have hp21 := prod_in LX.out.b2 LY.out.b1
  have hl21 := hp21.1; have hh21 := hp21.2; clear hp21
  generalize gp21 : x2 * y1 = p21 at *
  have hp22 := prod_in LX.out.b2 LY.out.b2
  have hl22 := hp22.1; have hh22 := hp22.2; clear hp22
  generalize gp22 : x2 * y2 = p22 at *
  have hp23 := prod_in LX.out.b2 LY.out.b3
  have hl23 := hp23.1; have hh23 := hp23.2; clear hp23
  generalize gp23 : x2 * y3 = p23 at *
  have hp30 := prod_in LX.out.b3 LY.out.b0
  have hl30 := hp30.1; have hh30 := hp30.2; clear hp30
  generalize gp30 : x3 * y0 = p30 at *
  have hp31 := prod_in LX.out.b3 LY.out.b1
  have hl31 := hp31.1; have hh31 := hp31.2; clear hp31
  generalize gp31 : x3 * y1 = p31 at *
  have hp32 := prod_in LX.out.b3 LY.out.b2
  have hl32 := hp32.1; have hh32 := hp32.2; clear hp32
  generalize gp32 : x3 * y2 = p32 at *
  have hp33 := prod_in LX.out.b3 LY.out.b3
  have hl33 := hp33.1; have hh33 := hp33.2; clear hp33
  generalize gp33 : x3 * y3 = p33 at *
  go_wp2_with fail
  refine wp_loop_rounds 5 ?_
  rw [rounds_succ]
  go_wp2_with fail
  refine wp_loop_rounds 5 ?_
  -- ROUNDS
  rw [rounds_succ]
  go_wp2_with fail
  go_quiet (fail)
  go_wp2_with fail
  simp (discharger := simp) only [setCell_drewN, World.setCell_alloc_at, List.setIfInBounds_toArray, List.set_cons_zero, List.set_cons_succ, Nat.reduceAdd]
  obtain ⟨o00, v00, e100, e200, e300, b100, b200, b300, b400⟩ := part (p00) (by omega) (by omega)
  simp only [e100, e200]
  have E00 := Lib.hid e300
  clear e100 e200 e300
  rw [rounds_succ]
  go_wp2_with fail
  go_quiet (fail)
  go_wp2_with fail
  simp (discharger := simp) only [setCell_drewN, World.setCell_alloc_at, List.setIfInBounds_toArray, List.set_cons_zero, List.set_cons_succ, Nat.reduceAdd]
  obtain ⟨o01, v01, e101, e201, e301, b101, b201, b301, b401⟩ := part (p01 + v00) (by omega) (by omega)
  simp only [e101, e201]
  have E01 := Lib.hid e301
  clear e101 e201 e301
  rw [rounds_succ]
  go_wp2_with fail
  go_quiet (fail)
  go_wp2_with fail
  simp (discharger := simp) only [setCell_drewN, World.setCell_alloc_at, List.setIfInBounds_toArray, List.set_cons_zero, List.set_cons_succ, Nat.reduceAdd]
  obtain ⟨o02, v02, e102, e202, e302, b102, b202, b302, b402⟩ := part (p02 + v01) (by omega) (by omega)
  simp only [e102, e202]
  have E02 := Lib.hid e302
  clear e102 e202 e302
  rw [rounds_succ]
  go_wp2_with fail
  go_quiet (fail)
  go_wp2_with fail
  simp (discharger := simp) only [setCell_drewN, World.setCell_alloc_at, List.setIfInBounds_toArray, List.set_cons_zero, List.set_cons_succ, Nat.reduceAdd]
  obtain ⟨o03, v03, e103, e203, e303, b103, b203, b303, b403⟩ := part (p03 + v02) (by omega) (by omega)
  simp only [e103, e203]
  have E03 := Lib.hid e303
  clear e103 e203 e303
  rw [rounds_succ]
  go_wp2_with fail
  simp (discharger := simp) only [setCell_drewN, World.setCell_alloc_at, List.setIfInBounds_toArray, List.set_cons_zero, List.set_cons_succ, Nat.reduceAdd]
  rw [rounds_succ]
  go_wp2_with fail
  refine wp_loop_rounds 5 ?_
  rw [rounds_succ]
  go_wp2_with fail
  go_quiet (fail)
  go_wp2_with fail
  simp (discharger := simp) only [setCell_drewN, World.setCell_alloc_at, List.setIfInBounds_toArray, List.set_cons_zero, List.set_cons_succ, Nat.reduceAdd]
  obtain ⟨o10, v10, e110, e210, e310, b110, b210, b310, b410⟩ := part (o01 + p10) (by omega) (by omega)
  simp only [e110, e210]
  have E10 := Lib.hid e310
  clear e110 e210 e310
  rw [rounds_succ]
  go_wp2_with fail
  go_quiet (fail)
  go_wp2_with fail
  simp (discharger := simp) only [setCell_drewN, World.setCell_alloc_at, List.setIfInBounds_toArray, List.set_cons_zero, List.set_cons_succ, Nat.reduceAdd]
  obtain ⟨o11, v11, e111, e211, e311, b111, b211, b311, b411⟩ := part (o02 + p11 + v10) (by omega) (by omega)
  simp only [e111, e211]
  have E11 := Lib.hid e311
  clear e111 e211 e311
  rw [rounds_succ]
  go_wp2_with fail
  go_quiet (fail)
  go_wp2_with fail
  simp (discharger := simp) only [setCell_drewN, World.setCell_alloc_at, List.setIfInBounds_toArray, List.set_cons_zero, List.set_cons_succ, Nat.reduceAdd]
  obtain ⟨o12, v12, e112, e212, e312, b112, b212, b312, b412⟩ := part (o03 + p12 + v11) (by omega) (by omega)
  simp only [e112, e212]
  have E12 := Lib.hid e312
  clear e112 e212 e312
  rw [rounds_succ]
  go_wp2_with fail
  go_quiet (fail)
  go_wp2_with fail
  simp (discharger := simp) only [setCell_drewN, World.setCell_alloc_at, List.setIfInBounds_toArray, List.set_cons_zero, List.set_cons_succ, Nat.reduceAdd]
  obtain ⟨o13, v13, e113, e213, e313, b113, b213, b313, b413⟩ := part (v03 + p13 + v12) (by omega) (by omega)
  simp only [e113, e213]
  have E13 := Lib.hid e313
  clear e113 e213 e313
  rw [rounds_succ]
  go_wp2_with fail
  simp (discharger := simp) only [setCell_drewN, World.setCell_alloc_at, List.setIfInBounds_toArray, List.set_cons_zero, List.set_cons_succ, Nat.reduceAdd]
  rw [rounds_succ]
  go_wp2_with fail
  refine wp_loop_rounds 5 ?_
  rw [rounds_succ]
  go_wp2_with fail
  go_quiet (fail)
  go_wp2_with fail
  simp (discharger := simp) only [setCell_drewN, World.setCell_alloc_at, List.setIfInBounds_toArray, List.set_cons_zero, List.set_cons_succ, Nat.reduceAdd]
  obtain ⟨o20, v20, e120, e220, e320, b120, b220, b320, b420⟩ := part (o11 + p20) (by omega) (by omega)
  simp only [e120, e220]
  have E20 := Lib.hid e320
  clear e120 e220 e320
  rw [rounds_succ]
  go_wp2_with fail
  go_quiet (fail)
  go_wp2_with fail
  simp (discharger := simp) only [setCell_drewN, World.setCell_alloc_at, List.setIfInBounds_toArray, List.set_cons_zero, List.set_cons_succ, Nat.reduceAdd]
  obtain ⟨o21, v21, e121, e221, e321, b121, b221, b321, b421⟩ := part (o12 + p21 + v20) (by omega) (by omega)
  simp only [e121, e221]
  have E21 := Lib.hid e321
  clear e121 e221 e321
  rw [rounds_succ]
  go_wp2_with fail
  go_quiet (fail)
  go_wp2_with fail
  simp (discharger := simp) only [setCell_drewN, World.setCell_alloc_at, List.setIfInBounds_toArray, List.set_cons_zero, List.set_cons_succ, Nat.reduceAdd]
  obtain ⟨o22, v22, e122, e222, e322, b122, b222, b322, b422⟩ := part (o13 + p22 + v21) (by omega) (by omega)
  simp only [e122, e222]
  have E22 := Lib.hid e322
  clear e122 e222 e322
  rw [rounds_succ]
  go_wp2_with fail
  go_quiet (fail)
  go_wp2_with fail
  simp (discharger := simp) only [setCell_drewN, World.setCell_alloc_at, List.setIfInBounds_toArray, List.set_cons_zero, List.set_cons_succ, Nat.reduceAdd]
  obtain ⟨o23, v23, e123, e223, e323, b123, b223, b323, b423⟩ := part (v13 + p23 + v22) (by omega) (by omega)
  simp only [e123, e223]
  have E23 := Lib.hid e323
  clear e123 e223 e323
  rw [rounds_succ]
  go_wp2_with fail
  simp (discharger := simp) only [setCell_drewN, World.setCell_alloc_at, List.setIfInBounds_toArray, List.set_cons_zero, List.set_cons_succ, Nat.reduceAdd]
  rw [rounds_succ]
  go_wp2_with fail
  refine wp_loop_rounds 5 ?_
  rw [rounds_succ]
  go_wp2_with fail
  go_quiet (fail)
  go_wp2_with fail
  simp (discharger := simp) only [setCell_drewN, World.setCell_alloc_at, List.setIfInBounds_toArray, List.set_cons_zero, List.set_cons_succ, Nat.reduceAdd]
  obtain ⟨o30, v30, e130, e230, e330, b130, b230, b330, b430⟩ := part (o21 + p30) (by omega) (by omega)
  simp only [e130, e230]
  have E30 := Lib.hid e330
  clear e130 e230 e330
  rw [rounds_succ]
  go_wp2_with fail
  go_quiet (fail)
  go_wp2_with fail
  simp (discharger := simp) only [setCell_drewN, World.setCell_alloc_at, List.setIfInBounds_toArray, List.set_cons_zero, List.set_cons_succ, Nat.reduceAdd]
  obtain ⟨o31, v31, e131, e231, e331, b131, b231, b331, b431⟩ := part (o22 + p31 + v30) (by omega) (by omega)
  simp only [e131, e231]
  have E31 := Lib.hid e331
  clear e131 e231 e331
  rw [rounds_succ]
  go_wp2_with fail
  go_quiet (fail)
  go_wp2_with fail
  simp (discharger := simp) only [setCell_drewN, World.setCell_alloc_at, List.setIfInBounds_toArray, List.set_cons_zero, List.set_cons_succ, Nat.reduceAdd]
  obtain ⟨o32, v32, e132, e232, e332, b132, b232, b332, b432⟩ := part (o23 + p32 + v31) (by omega) (by omega)
  simp only [e132, e232]
  have E32 := Lib.hid e332
  clear e132 e232 e332
  rw [rounds_succ]
  go_wp2_with fail
  go_quiet (fail)
  go_wp2_with fail
  simp (discharger := simp) only [setCell_drewN, World.setCell_alloc_at, List.setIfInBounds_toArray, List.set_cons_zero, List.set_cons_succ, Nat.reduceAdd]
  obtain ⟨o33, v33, e133, e233, e333, b133, b233, b333, b433⟩ := part (v23 + p33 + v32) (by omega) (by omega)
  simp only [e133, e233]
  have E33 := Lib.hid e333
  clear e133 e233 e333
  rw [rounds_succ]
  go_wp2_with fail
  simp (discharger := simp) only [setCell_drewN, World.setCell_alloc_at, List.setIfInBounds_toArray, List.set_cons_zero, List.set_cons_succ, Nat.reduceAdd]
  rw [rounds_succ]
  go_wp2_with fail
  simp (discharger := (first | (simp; done) | (simp; omega))) only [setCell_drewN, World.setCell_alloc_past, World.setCell_alloc_at, List.setIfInBounds_toArray, List.set_cons_zero, List.set_cons_succ, Nat.reduceAdd]
  have hsum := mul_limbs LX.out.sum LY.out.sum
  simp only [gp00, gp01, gp02, gp03, gp10, gp11, gp12, gp13, gp20, gp21, gp22, gp23, gp30, gp31, gp32, gp33] at hsum
  have htot := hsum.trans (total E00.out E01.out E02.out E03.out E10.out E11.out E12.out E13.out E20.out E21.out E22.out E23.out E30.out E31.out E32.out E33.out)
  refine bodyPost_ret (v := .agg #[.int .i64 o00, .int .i64 o10, .int .i64 o20, .int .i64 o30, .int .i64 o31, .int .i64 o32, .int .i64 o33, .int .i64 v33]) (by simp [results, Try.results26, go_sem]) rfl ⟨o00, o10, o20, o30, o31, o32, o33, v33, ⟨htot, ⟨b100, b200⟩, ⟨b110, b210⟩, ⟨b120, b220⟩, ⟨b130, b230⟩, ⟨b131, b231⟩, ⟨b132, b232⟩, ⟨b133, b233⟩, ⟨b333, b433⟩⟩, rfl, ?_⟩
  exact ((((((((Ext.refl _).alloc _).alloc _).alloc _).alloc _).alloc _).alloc _).alloc _).alloc _ |>.drewN _
  -- END OF ROUNDS
end L02
end Go.Proofs.Ytllajmggopgimaa

