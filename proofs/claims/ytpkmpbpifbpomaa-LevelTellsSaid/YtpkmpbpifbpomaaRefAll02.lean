/- Contracts of the document's answers for layer 2: a product's limbs. Contracts of the document's answers for layer 2: a division, bit by bit; the three calls. Contracts of the document's three calls of layer 2. -/
import Derived.Test.YtpkmpbpifbpomaaMulB02
import Derived.Deep.Cut
import Derived.Deep.DeepCutAuto
namespace Go.Proofs.Ytpkmpbpifbpomaa
open Go.RowKit
namespace L02

theorem limbs_any (n : Int) (hn : 0 ≤ n) (hn' : n ≤ 4611686018427387904) (w : World) :
    Calls Try.prog 134 #[.int .i64 n] w (fun e w' => e = .returned (.agg #[.int .i64 (n % 65536), .int .i64 (n / 65536 % 65536), .int .i64 (n / 65536 / 65536 % 65536), .int .i64 (n / 65536 / 65536 / 65536 % 65536), .int .i64 (n / 65536 / 65536 / 65536 / 65536 % 65536), .int .i64 (n / 65536 / 65536 / 65536 / 65536 / 65536 % 65536), .int .i64 (n / 65536 / 65536 / 65536 / 65536 / 65536 / 65536 % 65536), .int .i64 (n / 65536 / 65536 / 65536 / 65536 / 65536 / 65536 / 65536 % 65536)]) ∧
      w' = (w.alloc (.cells #[.int .i64 (n % 65536), .int .i64 (n / 65536 % 65536), .int .i64 (n / 65536 / 65536 % 65536), .int .i64 (n / 65536 / 65536 / 65536 % 65536), .int .i64 (n / 65536 / 65536 / 65536 / 65536 % 65536), .int .i64 (n / 65536 / 65536 / 65536 / 65536 / 65536 % 65536), .int .i64 (n / 65536 / 65536 / 65536 / 65536 / 65536 / 65536 % 65536), .int .i64 (n / 65536 / 65536 / 65536 / 65536 / 65536 / 65536 / 65536 % 65536)] 166)).alloc (.cells #[.int .i64 (n % 65536), .int .i64 (n / 65536 % 65536), .int .i64 (n / 65536 / 65536 % 65536), .int .i64 (n / 65536 / 65536 / 65536 % 65536), .int .i64 (n / 65536 / 65536 / 65536 / 65536 % 65536), .int .i64 (n / 65536 / 65536 / 65536 / 65536 / 65536 % 65536), .int .i64 (n / 65536 / 65536 / 65536 / 65536 / 65536 / 65536 % 65536), .int .i64 (n / 65536 / 65536 / 65536 / 65536 / 65536 / 65536 / 65536 % 65536)] 166)) := by
  go_enter Try.func134, Try.ntmps134
  go_wp2_with fail
  refine wp_loop_rounds 9 ?_
  rw [rounds_succ]
  go_wp2_with fail
  rw [rounds_succ]
  go_wp2_with fail
  rw [rounds_succ]
  go_wp2_with fail
  rw [rounds_succ]
  go_wp2_with fail
  rw [rounds_succ]
  go_wp2_with fail
  rw [rounds_succ]
  go_wp2_with fail
  rw [rounds_succ]
  go_wp2_with fail
  rw [rounds_succ]
  go_wp2_with fail
  rw [rounds_succ]
  go_wp2_with fail
  exact bodyPost_ret (v := .agg #[.int .i64 _, .int .i64 _, .int .i64 _, .int .i64 _, .int .i64 _, .int .i64 _, .int .i64 _, .int .i64 _]) (by simp [results, Try.results134, go_sem]) rfl ⟨rfl, rfl⟩

/-- What limbs are of a number. -/
structure Limbs (n x0 x1 x2 x3 x4 x5 x6 x7 : Int) : Prop where
  sum : n = x0 + 65536 * x1 + 4294967296 * x2 + 281474976710656 * x3
  b0 : 0 ≤ x0 ∧ x0 ≤ 65535
  b1 : 0 ≤ x1 ∧ x1 ≤ 65535
  b2 : 0 ≤ x2 ∧ x2 ≤ 65535
  b3 : 0 ≤ x3 ∧ x3 ≤ 65535
def LimbsRet (n : Int) (w : World) (e : Ending) (w' : World) : Prop :=
  ∃ x0 x1 x2 x3 x4 x5 x6 x7, Limbs n x0 x1 x2 x3 x4 x5 x6 x7 ∧ e = .returned (.agg #[.int .i64 x0, .int .i64 x1, .int .i64 x2, .int .i64 x3, .int .i64 x4, .int .i64 x5, .int .i64 x6, .int .i64 x7]) ∧ w' = (w.alloc (.cells #[.int .i64 x0, .int .i64 x1, .int .i64 x2, .int .i64 x3, .int .i64 x4, .int .i64 x5, .int .i64 x6, .int .i64 x7] 166)).alloc (.cells #[.int .i64 x0, .int .i64 x1, .int .i64 x2, .int .i64 x3, .int .i64 x4, .int .i64 x5, .int .i64 x6, .int .i64 x7] 166)
theorem limbs_some (n : Int) (hn : 0 ≤ n) (hn' : n ≤ 4611686018427387904) (w : World) :
    Calls Try.prog 134 #[.int .i64 n] w (LimbsRet n w) := by
  refine (limbs_any n hn hn' w).mono ?_
  rintro e w' ⟨rfl, hx⟩
  exact ⟨_, _, _, _, _, _, _, _, ⟨by omega, by omega, by omega, by omega, by omega⟩, rfl, hx⟩

theorem prod_in {x y : Int} (hx : 0 ≤ x ∧ x ≤ 65535) (hy : 0 ≤ y ∧ y ≤ 65535) : 0 ≤ x * y ∧ x * y ≤ 4294836225 :=
  ⟨Int.mul_nonneg hx.1 hy.1, Int.mul_le_mul hx.2 hy.2 hy.1 (by omega)⟩

/-- The eight limbs of a product. -/
structure Eight (p o0 o1 o2 o3 o4 o5 o6 o7 : Int) : Prop where
  sum : p = o0 + 65536 * o1 + 4294967296 * o2 + 281474976710656 * o3 + 18446744073709551616 * o4 + 1208925819614629174706176 * o5 + 79228162514264337593543950336 * o6 + 5192296858534827628530496329220096 * o7
  b0 : 0 ≤ o0 ∧ o0 ≤ 65535
  b1 : 0 ≤ o1 ∧ o1 ≤ 65535
  b2 : 0 ≤ o2 ∧ o2 ≤ 65535
  b3 : 0 ≤ o3 ∧ o3 ≤ 65535
  b4 : 0 ≤ o4 ∧ o4 ≤ 65535
  b5 : 0 ≤ o5 ∧ o5 ≤ 65535
  b6 : 0 ≤ o6 ∧ o6 ≤ 65535
  b7 : 0 ≤ o7 ∧ o7 ≤ 65535
def EightRet (p : Int) (w : World) (e : Ending) (w' : World) : Prop :=
  ∃ x0 x1 x2 x3 x4 x5 x6 x7, Eight p x0 x1 x2 x3 x4 x5 x6 x7 ∧ e = .returned (.agg #[.int .i64 x0, .int .i64 x1, .int .i64 x2, .int .i64 x3, .int .i64 x4, .int .i64 x5, .int .i64 x6, .int .i64 x7]) ∧ Ext w w'

theorem mul_four (x y0 y1 y2 y3 : Int) : x * (y0 + 65536 * y1 + 4294967296 * y2 + 281474976710656 * y3) = x * y0 + 65536 * (x * y1) + 4294967296 * (x * y2) + 281474976710656 * (x * y3) := by
  rw [Int.mul_add, Int.mul_add, Int.mul_add, Int.mul_left_comm x 65536, Int.mul_left_comm x 4294967296, Int.mul_left_comm x 281474976710656]
theorem mul_limbs {a b x0 x1 x2 x3 y0 y1 y2 y3 : Int} (ha : a = x0 + 65536 * x1 + 4294967296 * x2 + 281474976710656 * x3) (hb : b = y0 + 65536 * y1 + 4294967296 * y2 + 281474976710656 * y3) :
    a * b = (x0 * y0 + 65536 * (x0 * y1) + 4294967296 * (x0 * y2) + 281474976710656 * (x0 * y3)) + 65536 * (x1 * y0 + 65536 * (x1 * y1) + 4294967296 * (x1 * y2) + 281474976710656 * (x1 * y3)) +
      4294967296 * (x2 * y0 + 65536 * (x2 * y1) + 4294967296 * (x2 * y2) + 281474976710656 * (x2 * y3)) + 281474976710656 * (x3 * y0 + 65536 * (x3 * y1) + 4294967296 * (x3 * y2) + 281474976710656 * (x3 * y3)) := by
  rw [← mul_four, ← mul_four, ← mul_four, ← mul_four, ← hb]
  subst ha
  rw [Int.add_mul, Int.add_mul, Int.add_mul, Int.mul_assoc, Int.mul_assoc, Int.mul_assoc]
-- TOTAL
theorem total {p00 p01 p02 p03 p10 p11 p12 p13 p20 p21 p22 p23 p30 p31 p32 p33 o00 v00 o01 v01 o02 v02 o03 v03 o10 v10 o11 v11 o12 v12 o13 v13 o20 v20 o21 v21 o22 v22 o23 v23 o30 v30 o31 v31 o32 v32 o33 v33 : Int} (h00 : p00 = o00 + 65536 * v00) (h01 : p01 + v00 = o01 + 65536 * v01) (h02 : p02 + v01 = o02 + 65536 * v02) (h03 : p03 + v02 = o03 + 65536 * v03) (h10 : o01 + p10 = o10 + 65536 * v10) (h11 : o02 + p11 + v10 = o11 + 65536 * v11) (h12 : o03 + p12 + v11 = o12 + 65536 * v12) (h13 : v03 + p13 + v12 = o13 + 65536 * v13) (h20 : o11 + p20 = o20 + 65536 * v20) (h21 : o12 + p21 + v20 = o21 + 65536 * v21) (h22 : o13 + p22 + v21 = o22 + 65536 * v22) (h23 : v13 + p23 + v22 = o23 + 65536 * v23) (h30 : o21 + p30 = o30 + 65536 * v30) (h31 : o22 + p31 + v30 = o31 + 65536 * v31) (h32 : o23 + p32 + v31 = o32 + 65536 * v32) (h33 : v23 + p33 + v32 = o33 + 65536 * v33) :
    (p00 + 65536 * p01 + 4294967296 * p02 + 281474976710656 * p03) + 65536 * (p10 + 65536 * p11 + 4294967296 * p12 + 281474976710656 * p13) + 4294967296 * (p20 + 65536 * p21 + 4294967296 * p22 + 281474976710656 * p23) + 281474976710656 * (p30 + 65536 * p31 + 4294967296 * p32 + 281474976710656 * p33) = o00 + 65536 * o10 + 4294967296 * o20 + 281474976710656 * o30 + 18446744073709551616 * o31 + 1208925819614629174706176 * o32 + 79228162514264337593543950336 * o33 + 5192296858534827628530496329220096 * v33 := by
  obtain rfl : p00 = o00 + 65536 * v00 := by clear h01 h02 h03 h10 h11 h12 h13 h20 h21 h22 h23 h30 h31 h32 h33; omega
  clear h00
  obtain rfl : p01 = o01 + 65536 * v01 - v00 := by clear h02 h03 h10 h11 h12 h13 h20 h21 h22 h23 h30 h31 h32 h33; omega
  clear h01
  obtain rfl : p02 = o02 + 65536 * v02 - v01 := by clear h03 h10 h11 h12 h13 h20 h21 h22 h23 h30 h31 h32 h33; omega
  clear h02
  obtain rfl : p03 = o03 + 65536 * v03 - v02 := by clear h10 h11 h12 h13 h20 h21 h22 h23 h30 h31 h32 h33; omega
  clear h03
  obtain rfl : p10 = o10 + 65536 * v10 - o01 := by clear h11 h12 h13 h20 h21 h22 h23 h30 h31 h32 h33; omega
  clear h10
  obtain rfl : p11 = o11 + 65536 * v11 - o02 - v10 := by clear h12 h13 h20 h21 h22 h23 h30 h31 h32 h33; omega
  clear h11
  obtain rfl : p12 = o12 + 65536 * v12 - o03 - v11 := by clear h13 h20 h21 h22 h23 h30 h31 h32 h33; omega
  clear h12
  obtain rfl : p13 = o13 + 65536 * v13 - v03 - v12 := by clear h20 h21 h22 h23 h30 h31 h32 h33; omega
  clear h13
  obtain rfl : p20 = o20 + 65536 * v20 - o11 := by clear h21 h22 h23 h30 h31 h32 h33; omega
  clear h20
  obtain rfl : p21 = o21 + 65536 * v21 - o12 - v20 := by clear h22 h23 h30 h31 h32 h33; omega
  clear h21
  obtain rfl : p22 = o22 + 65536 * v22 - o13 - v21 := by clear h23 h30 h31 h32 h33; omega
  clear h22
  obtain rfl : p23 = o23 + 65536 * v23 - v13 - v22 := by clear h30 h31 h32 h33; omega
  clear h23
  obtain rfl : p30 = o30 + 65536 * v30 - o21 := by clear h31 h32 h33; omega
  clear h30
  obtain rfl : p31 = o31 + 65536 * v31 - o22 - v30 := by clear h32 h33; omega
  clear h31
  obtain rfl : p32 = o32 + 65536 * v32 - o23 - v31 := by clear h33; omega
  clear h32
  obtain rfl : p33 = o33 + 65536 * v33 - v23 - v32 := by omega
  clear h33
  omega
-- END OF TOTAL
theorem setCell_drewN (w : World) (n : Nat) (p : Addr) (v : Value) : (w.drewN n).setCell p v = (w.setCell p v).drewN n := by
  unfold World.drewN World.setCell; rfl
theorem part (s : Int) (h0 : 0 ≤ s) (h1 : s ≤ 4294967295) : ∃ o v : Int, s % 65536 = o ∧ s / 65536 = v ∧ s = o + 65536 * v ∧ 0 ≤ o ∧ o ≤ 65535 ∧ 0 ≤ v ∧ v ≤ 65535 :=
  ⟨_, _, rfl, rfl, by omega, by omega, by omega, by omega, by omega⟩

set_option maxHeartbeats 4000000 in
theorem product_some (a b : Int) (ha : 0 ≤ a) (ha' : a ≤ 4611686018427387904) (hb : 0 ≤ b) (hb' : b ≤ 4611686018427387904) (w : World) :
    Calls Try.prog 129 #[.int .i64 a, .int .i64 b] w (EightRet (a * b) w) := by
  go_enter Try.func129, Try.ntmps129
  go_wp2_with fail
  refine (limbs_some _ ha ha' _).mono ?_; rintro e w1 ⟨x0, x1, x2, x3, x4, x5, x6, x7, lx, rfl, rfl⟩
  go_wp2_with fail
  refine (limbs_some _ hb hb' _).mono ?_; rintro e w2 ⟨y0, y1, y2, y3, y4, y5, y6, y7, ly, rfl, rfl⟩
  have LX := Lib.hid lx; have LY := Lib.hid ly
  clear lx ly
  have hp00 := prod_in LX.out.b0 LY.out.b0
  have hl00 := hp00.1; have hh00 := hp00.2; clear hp00
  generalize gp00 : x0 * y0 = p00 at *
  have hp01 := prod_in LX.out.b0 LY.out.b1
  have hl01 := hp01.1; have hh01 := hp01.2; clear hp01
  generalize gp01 : x0 * y1 = p01 at *
  have hp02 := prod_in LX.out.b0 LY.out.b2
  have hl02 := hp02.1; have hh02 := hp02.2; clear hp02
  generalize gp02 : x0 * y2 = p02 at *
  have hp03 := prod_in LX.out.b0 LY.out.b3
  have hl03 := hp03.1; have hh03 := hp03.2; clear hp03
  generalize gp03 : x0 * y3 = p03 at *
  have hp10 := prod_in LX.out.b1 LY.out.b0
  have hl10 := hp10.1; have hh10 := hp10.2; clear hp10
  generalize gp10 : x1 * y0 = p10 at *
  have hp11 := prod_in LX.out.b1 LY.out.b1
  have hl11 := hp11.1; have hh11 := hp11.2; clear hp11
  generalize gp11 : x1 * y1 = p11 at *
  have hp12 := prod_in LX.out.b1 LY.out.b2
  have hl12 := hp12.1; have hh12 := hp12.2; clear hp12
  generalize gp12 : x1 * y2 = p12 at *
  have hp13 := prod_in LX.out.b1 LY.out.b3
  have hl13 := hp13.1; have hh13 := hp13.2; clear hp13
  generalize gp13 : x1 * y3 = p13 at *
  have hp20 := prod_in LX.out.b2 LY.out.b0
  have hl20 := hp20.1; have hh20 := hp20.2; clear hp20
  generalize gp20 : x2 * y0 = p20 at *
  have hp21 := prod_in LX.out.b2 LY.out.b1
  have hl21 := hp21.1; have hh21 := hp21.2; clear hp21
  generalize gp21 : x2 * y1 = p21 at *
  have hp22 := prod_in LX.out.b2 LY.out.b2
  have hl22 := hp22.1; have hh22 := hp22.2; clear hp22
  generalize gp22 : x2 * y2 = p22 at *
  have hp23 := prod_in LX.out.b2 LY.out.b3
  have hl23 := hp23.1; have hh23 := hp23.2; clear hp23
  generalize gp23 : x2 * y3 = p23 at *
  have hp30 := prod_in LX.out.b3 LY.out.b0
  have hl30 := hp30.1; have hh30 := hp30.2; clear hp30
  generalize gp30 : x3 * y0 = p30 at *
  have hp31 := prod_in LX.out.b3 LY.out.b1
  have hl31 := hp31.1; have hh31 := hp31.2; clear hp31
  generalize gp31 : x3 * y1 = p31 at *
  have hp32 := prod_in LX.out.b3 LY.out.b2
  have hl32 := hp32.1; have hh32 := hp32.2; clear hp32
  generalize gp32 : x3 * y2 = p32 at *
  have hp33 := prod_in LX.out.b3 LY.out.b3
  have hl33 := hp33.1; have hh33 := hp33.2; clear hp33
  generalize gp33 : x3 * y3 = p33 at *
  go_wp2_with fail
  refine wp_loop_rounds 5 ?_
  rw [rounds_succ]
  go_wp2_with fail
  refine wp_loop_rounds 5 ?_
  -- ROUNDS
  rw [rounds_succ]
  go_wp2_with fail
  go_quiet (fail)
  go_wp2_with fail
  simp (discharger := simp) only [setCell_drewN, World.setCell_alloc_at, List.setIfInBounds_toArray, List.set_cons_zero]
  obtain ⟨o00, v00, e100, e200, e300, b100, b200, b300, b400⟩ := part (p00) (by omega) (by omega)
  simp only [e100, e200]
  have E00 := Lib.hid e300
  clear e100 e200 e300
  rw [rounds_succ]
  go_wp2_with fail
  go_quiet (fail)
  go_wp2_with fail
  simp (discharger := simp) only [setCell_drewN, World.setCell_alloc_at, List.setIfInBounds_toArray, List.set_cons_zero, List.set_cons_succ]
  obtain ⟨o01, v01, e101, e201, e301, b101, b201, b301, b401⟩ := part (p01 + v00) (by omega) (by omega)
  simp only [e101, e201]
  have E01 := Lib.hid e301
  clear e101 e201 e301
  rw [rounds_succ]
  go_wp2_with fail
  go_quiet (fail)
  go_wp2_with fail
  simp (discharger := simp) only [setCell_drewN, World.setCell_alloc_at, List.setIfInBounds_toArray, List.set_cons_zero, List.set_cons_succ]
  obtain ⟨o02, v02, e102, e202, e302, b102, b202, b302, b402⟩ := part (p02 + v01) (by omega) (by omega)
  simp only [e102, e202]
  have E02 := Lib.hid e302
  clear e102 e202 e302
  rw [rounds_succ]
  go_wp2_with fail
  go_quiet (fail)
  go_wp2_with fail
  simp (discharger := simp) only [setCell_drewN, World.setCell_alloc_at, List.setIfInBounds_toArray, List.set_cons_zero, List.set_cons_succ]
  obtain ⟨o03, v03, e103, e203, e303, b103, b203, b303, b403⟩ := part (p03 + v02) (by omega) (by omega)
  simp only [e103, e203]
  have E03 := Lib.hid e303
  clear e103 e203 e303
  rw [rounds_succ]
  go_wp2_with fail
  simp (discharger := simp) only [setCell_drewN, World.setCell_alloc_at, List.setIfInBounds_toArray, List.set_cons_zero, List.set_cons_succ]
  rw [rounds_succ]
  go_wp2_with fail
  refine wp_loop_rounds 5 ?_
  rw [rounds_succ]
  go_wp2_with fail
  go_quiet (fail)
  go_wp2_with fail
  simp (discharger := simp) only [setCell_drewN, World.setCell_alloc_at, List.setIfInBounds_toArray, List.set_cons_zero, List.set_cons_succ]
  obtain ⟨o10, v10, e110, e210, e310, b110, b210, b310, b410⟩ := part (o01 + p10) (by omega) (by omega)
  simp only [e110, e210]
  have E10 := Lib.hid e310
  clear e110 e210 e310
  rw [rounds_succ]
  go_wp2_with fail
  go_quiet (fail)
  go_wp2_with fail
  simp (discharger := simp) only [setCell_drewN, World.setCell_alloc_at, List.setIfInBounds_toArray, List.set_cons_zero, List.set_cons_succ]
  obtain ⟨o11, v11, e111, e211, e311, b111, b211, b311, b411⟩ := part (o02 + p11 + v10) (by omega) (by omega)
  simp only [e111, e211]
  have E11 := Lib.hid e311
  clear e111 e211 e311
  rw [rounds_succ]
  go_wp2_with fail
  go_quiet (fail)
  go_wp2_with fail
  simp (discharger := simp) only [setCell_drewN, World.setCell_alloc_at, List.setIfInBounds_toArray, List.set_cons_zero, List.set_cons_succ]
  obtain ⟨o12, v12, e112, e212, e312, b112, b212, b312, b412⟩ := part (o03 + p12 + v11) (by omega) (by omega)
  simp only [e112, e212]
  have E12 := Lib.hid e312
  clear e112 e212 e312
  rw [rounds_succ]
  go_wp2_with fail
  go_quiet (fail)
  go_wp2_with fail
  simp (discharger := simp) only [setCell_drewN, World.setCell_alloc_at, List.setIfInBounds_toArray, List.set_cons_zero, List.set_cons_succ]
  obtain ⟨o13, v13, e113, e213, e313, b113, b213, b313, b413⟩ := part (v03 + p13 + v12) (by omega) (by omega)
  simp only [e113, e213]
  have E13 := Lib.hid e313
  clear e113 e213 e313
  rw [rounds_succ]
  go_wp2_with fail
  simp (discharger := simp) only [setCell_drewN, World.setCell_alloc_at, List.setIfInBounds_toArray, List.set_cons_zero, List.set_cons_succ]
  rw [rounds_succ]
  go_wp2_with fail
  refine wp_loop_rounds 5 ?_
  rw [rounds_succ]
  go_wp2_with fail
  go_quiet (fail)
  go_wp2_with fail
  simp (discharger := simp) only [setCell_drewN, World.setCell_alloc_at, List.setIfInBounds_toArray, List.set_cons_zero, List.set_cons_succ]
  obtain ⟨o20, v20, e120, e220, e320, b120, b220, b320, b420⟩ := part (o11 + p20) (by omega) (by omega)
  simp only [e120, e220]
  have E20 := Lib.hid e320
  clear e120 e220 e320
  rw [rounds_succ]
  go_wp2_with fail
  go_quiet (fail)
  go_wp2_with fail
  simp (discharger := simp) only [setCell_drewN, World.setCell_alloc_at, List.setIfInBounds_toArray, List.set_cons_zero, List.set_cons_succ]
  obtain ⟨o21, v21, e121, e221, e321, b121, b221, b321, b421⟩ := part (o12 + p21 + v20) (by omega) (by omega)
  simp only [e121, e221]
  have E21 := Lib.hid e321
  clear e121 e221 e321
  rw [rounds_succ]
  go_wp2_with fail
  go_quiet (fail)
  go_wp2_with fail
  simp (discharger := simp) only [setCell_drewN, World.setCell_alloc_at, List.setIfInBounds_toArray, List.set_cons_zero, List.set_cons_succ]
  obtain ⟨o22, v22, e122, e222, e322, b122, b222, b322, b422⟩ := part (o13 + p22 + v21) (by omega) (by omega)
  simp only [e122, e222]
  have E22 := Lib.hid e322
  clear e122 e222 e322
  rw [rounds_succ]
  go_wp2_with fail
  go_quiet (fail)
  go_wp2_with fail
  simp (discharger := simp) only [setCell_drewN, World.setCell_alloc_at, List.setIfInBounds_toArray, List.set_cons_zero, List.set_cons_succ]
  obtain ⟨o23, v23, e123, e223, e323, b123, b223, b323, b423⟩ := part (v13 + p23 + v22) (by omega) (by omega)
  simp only [e123, e223]
  have E23 := Lib.hid e323
  clear e123 e223 e323
  rw [rounds_succ]
  go_wp2_with fail
  simp (discharger := simp) only [setCell_drewN, World.setCell_alloc_at, List.setIfInBounds_toArray, List.set_cons_zero, List.set_cons_succ]
  rw [rounds_succ]
  go_wp2_with fail
  refine wp_loop_rounds 5 ?_
  rw [rounds_succ]
  go_wp2_with fail
  go_quiet (fail)
  go_wp2_with fail
  simp (discharger := simp) only [setCell_drewN, World.setCell_alloc_at, List.setIfInBounds_toArray, List.set_cons_zero, List.set_cons_succ]
  obtain ⟨o30, v30, e130, e230, e330, b130, b230, b330, b430⟩ := part (o21 + p30) (by omega) (by omega)
  simp only [e130, e230]
  have E30 := Lib.hid e330
  clear e130 e230 e330
  rw [rounds_succ]
  go_wp2_with fail
  go_quiet (fail)
  go_wp2_with fail
  simp (discharger := simp) only [setCell_drewN, World.setCell_alloc_at, List.setIfInBounds_toArray, List.set_cons_zero, List.set_cons_succ]
  obtain ⟨o31, v31, e131, e231, e331, b131, b231, b331, b431⟩ := part (o22 + p31 + v30) (by omega) (by omega)
  simp only [e131, e231]
  have E31 := Lib.hid e331
  clear e131 e231 e331
  rw [rounds_succ]
  go_wp2_with fail
  go_quiet (fail)
  go_wp2_with fail
  simp (discharger := simp) only [setCell_drewN, World.setCell_alloc_at, List.setIfInBounds_toArray, List.set_cons_zero, List.set_cons_succ]
  obtain ⟨o32, v32, e132, e232, e332, b132, b232, b332, b432⟩ := part (o23 + p32 + v31) (by omega) (by omega)
  simp only [e132, e232]
  have E32 := Lib.hid e332
  clear e132 e232 e332
  rw [rounds_succ]
  go_wp2_with fail
  go_quiet (fail)
  go_wp2_with fail
  simp (discharger := simp) only [setCell_drewN, World.setCell_alloc_at, List.setIfInBounds_toArray, List.set_cons_zero, List.set_cons_succ]
  obtain ⟨o33, v33, e133, e233, e333, b133, b233, b333, b433⟩ := part (v23 + p33 + v32) (by omega) (by omega)
  simp only [e133, e233]
  have E33 := Lib.hid e333
  clear e133 e233 e333
  rw [rounds_succ]
  go_wp2_with fail
  simp (discharger := simp) only [setCell_drewN, World.setCell_alloc_at, List.setIfInBounds_toArray, List.set_cons_zero, List.set_cons_succ]
  rw [rounds_succ]
  go_wp2_with fail
  simp (discharger := (first | (simp; done) | (simp; omega))) only [setCell_drewN, World.setCell_alloc_past, World.setCell_alloc_at, List.setIfInBounds_toArray, List.set_cons_zero, List.set_cons_succ]
  have hsum := mul_limbs LX.out.sum LY.out.sum
  simp only [gp00, gp01, gp02, gp03, gp10, gp11, gp12, gp13, gp20, gp21, gp22, gp23, gp30, gp31, gp32, gp33] at hsum
  have htot := hsum.trans (total E00.out E01.out E02.out E03.out E10.out E11.out E12.out E13.out E20.out E21.out E22.out E23.out E30.out E31.out E32.out E33.out)
  refine bodyPost_ret (v := .agg #[.int .i64 o00, .int .i64 o10, .int .i64 o20, .int .i64 o30, .int .i64 o31, .int .i64 o32, .int .i64 o33, .int .i64 v33]) (by simp [results, Try.results129, go_sem]) rfl ⟨o00, o10, o20, o30, o31, o32, o33, v33, ⟨htot, ⟨b100, b200⟩, ⟨b110, b210⟩, ⟨b120, b220⟩, ⟨b130, b230⟩, ⟨b131, b231⟩, ⟨b132, b232⟩, ⟨b133, b233⟩, ⟨b333, b433⟩⟩, rfl, ?_⟩
  exact ((((((((Ext.refl _).alloc _).alloc _).alloc _).alloc _).alloc _).alloc _).alloc _).alloc _ |>.drewN _
  -- END OF ROUNDS
end L02
end Go.Proofs.Ytpkmpbpifbpomaa

namespace Go.Proofs.Ytpkmpbpifbpomaa
open Go.RowKit
namespace L02

/-- A number without its last j bits. -/
def bitsOff (p : Nat) (j : Nat) : Int := ((p / 2 ^ j : Nat) : Int)
theorem bitsOff_zero (p : Nat) : bitsOff p 0 = p := by simp [bitsOff]
theorem bitsOff_nonneg (p j : Nat) : 0 ≤ bitsOff p j := Int.natCast_nonneg _

theorem bit_nat (p j : Nat) : p / 65536 ^ (j / 16) % 65536 / 2 ^ (j % 16) % 2 = p / 2 ^ j % 2 := by
  have hj : j = 16 * (j / 16) + j % 16 := by omega
  have hs : j % 16 < 16 := by omega
  generalize j / 16 = q at *
  generalize j % 16 = s at *
  subst hj
  have e1 : (65536 : Nat) = 2 ^ s * (2 * 2 ^ (15 - s)) := by
    rw [← Nat.pow_succ', ← Nat.pow_add, show s + (15 - s + 1) = 16 from by omega]
  have e2 : (2 : Nat) ^ (16 * q + s) = 65536 ^ q * 2 ^ s := by rw [Nat.pow_add, Nat.pow_mul]
  rw [e2, ← Nat.div_div_eq_div_mul]
  generalize p / 65536 ^ q = x
  conv => lhs; rw [e1]
  rw [Nat.mod_mul_right_div_self, Nat.mod_mul_right_mod]

theorem bit_next (p j : Nat) : p / 2 ^ j = 2 * (p / 2 ^ (j + 1)) + p / 2 ^ j % 2 := by
  rw [Nat.pow_succ, ← Nat.div_div_eq_div_mul]; omega

theorem Eight.limb {p o0 o1 o2 o3 o4 o5 o6 o7 : Int} {P : Nat} (h : Eight p o0 o1 o2 o3 o4 o5 o6 o7) (hp : p = P) (m : Nat) (hm : m < 8) :
    (#[Value.int .i64 o0, .int .i64 o1, .int .i64 o2, .int .i64 o3, .int .i64 o4, .int .i64 o5, .int .i64 o6, .int .i64 o7] : Array Value)[m]? = some (.int .i64 ((P / 65536 ^ m % 65536 : Nat) : Int)) := by
  obtain ⟨hs, _, _, _, _, _, _, _, _⟩ := h
  have key : ∀ o : Int, o = ((P / 65536 ^ m % 65536 : Nat) : Int) → some (Value.int .i64 o) = some (.int .i64 ((P / 65536 ^ m % 65536 : Nat) : Int)) := fun o e => by rw [e]
  rcases m with _ | _ | _ | _ | _ | _ | _ | _ | m
  · exact key o0 (by simp; omega)
  · exact key o1 (by simp; omega)
  · exact key o2 (by simp only [Nat.reduceAdd, Nat.reducePow]; omega)
  · exact key o3 (by simp only [Nat.reduceAdd, Nat.reducePow]; omega)
  · exact key o4 (by simp only [Nat.reduceAdd, Nat.reducePow]; omega)
  · exact key o5 (by simp only [Nat.reduceAdd, Nat.reducePow]; omega)
  · exact key o6 (by simp only [Nat.reduceAdd, Nat.reducePow]; omega)
  · exact key o7 (by simp only [Nat.reduceAdd, Nat.reducePow]; omega)
  · omega

/-- Where the division stands behind some bits. -/
structure DivAt (T c n m : Int) (t : Bool) : Prop where
  rest : m = T % c
  quo : (t = true ∧ n = T / c) ∨ (t = false ∧ 9223372036854775808 ≤ T / c)
  n0 : 0 ≤ n
  n1 : n ≤ 9223372036854775807

theorem div_step {T c b : Int} (hc : 1 ≤ c) (hb : b = 0 ∨ b = 1) :
    (c ≤ 2 * (T % c) + b → (2 * T + b) % c = 2 * (T % c) + b - c ∧ (2 * T + b) / c = 2 * (T / c) + 1) ∧
    (¬ c ≤ 2 * (T % c) + b → (2 * T + b) % c = 2 * (T % c) + b ∧ (2 * T + b) / c = 2 * (T / c)) := by
  have h1 := Int.mul_ediv_add_emod T c
  have h2 := Int.emod_nonneg T (show c ≠ 0 by omega)
  have h3 := Int.emod_lt_of_pos T (show 0 < c by omega)
  have key : ∀ q r p : Int, 0 ≤ r → r < c → p = q * c + r → p % c = r ∧ p / c = q := by
    intro q r p h0 hr e
    rw [e]
    refine ⟨?_, ?_⟩
    · rw [Int.add_comm, Int.add_mul_emod_self_right, Int.emod_eq_of_lt h0 hr]
    · rw [Int.add_comm, Int.add_mul_ediv_right _ _ (by omega), Int.ediv_eq_zero_of_lt h0 hr, Int.zero_add]
  rw [Int.mul_comm] at h1
  constructor
  · intro h; exact key _ _ _ (by omega) (by omega) (by rw [Int.add_mul, Int.mul_assoc]; omega)
  · intro h; exact key _ _ _ (by omega) (by omega) (by rw [Int.mul_assoc]; omega)

theorem DivAt.go {T T' c n m b : Int} {t : Bool} (h : DivAt T c n m t) (hc : 1 ≤ c) (hb : b = 0 ∨ b = 1) (hT : T' = 2 * T + b) {n' m' : Int} {t' : Bool}
    (ht : (4611686018427387904 ≤ n ∧ t' = false ∧ n' = (if c ≤ 2 * m + b then 1 else 0)) ∨ (n < 4611686018427387904 ∧ t' = t ∧ n' = 2 * n + (if c ≤ 2 * m + b then 1 else 0)))
    (hm : m' = if c ≤ 2 * m + b then 2 * m + b - c else 2 * m + b) : DivAt T' c n' m' t' := by
  have hs := div_step (T := T) hc hb
  rw [← h.rest, ← hT] at hs
  have h0 := h.n0
  by_cases k : c ≤ 2 * m + b
  · simp only [if_pos k] at ht hm
    obtain ⟨e1, e2⟩ := hs.1 k
    refine ⟨by omega, ?_, by omega, by omega⟩
    rcases ht with ⟨k1, k2, _⟩ | ⟨k1, k2, k3⟩
    · refine .inr ⟨k2, ?_⟩
      rcases h.quo with ⟨_, q⟩ | ⟨_, q⟩ <;> omega
    · rcases h.quo with ⟨q1, q⟩ | ⟨q1, q⟩
      · exact .inl ⟨k2.trans q1, by omega⟩
      · exact .inr ⟨k2.trans q1, by omega⟩
  · simp only [if_neg k] at ht hm
    obtain ⟨e1, e2⟩ := hs.2 k
    refine ⟨by omega, ?_, by omega, by omega⟩
    rcases ht with ⟨k1, k2, _⟩ | ⟨k1, k2, k3⟩
    · refine .inr ⟨k2, ?_⟩
      rcases h.quo with ⟨_, q⟩ | ⟨_, q⟩ <;> omega
    · rcases h.quo with ⟨q1, q⟩ | ⟨q1, q⟩
      · exact .inl ⟨k2.trans q1, by omega⟩
      · exact .inr ⟨k2.trans q1, by omega⟩

def DivRet (p c : Int) (w : World) (e : Ending) (w' : World) : Prop :=
  ∃ (n m : Int) (t : Bool), DivAt p c n m t ∧ e = .returned (.tuple #[.int .i64 n, .int .i64 m, .bool t]) ∧ Ext w w'

theorem divide_ref (p c o0 o1 o2 o3 o4 o5 o6 o7 : Int) (h8 : Eight p o0 o1 o2 o3 o4 o5 o6 o7) (hp : 0 ≤ p) (hp' : p < 340282366920938463463374607431768211456) (hc : 1 ≤ c) (hc' : c ≤ 4611686018427387903) (w : World) :
    Calls Try.prog 128 #[.agg #[.int .i64 o0, .int .i64 o1, .int .i64 o2, .int .i64 o3, .int .i64 o4, .int .i64 o5, .int .i64 o6, .int .i64 o7], .int .i64 c] w (DivRet p c w) := by
  obtain ⟨P, hP⟩ := Int.eq_ofNat_of_zero_le hp
  have H8 := Lib.hid h8
  have HP := Lib.hid hP
  have HS : Hid (bitsOff P 128 = 0) := by
    refine Lib.hid ?_
    unfold bitsOff
    rw [Nat.div_eq_of_lt (by omega)]; rfl
  clear h8 hP
  go_enter Try.func128, Try.ntmps128
  go_wp2_with fail
  generalize hW : w.alloc (.cells #[.int .i64 o0, .int .i64 o1, .int .i64 o2, .int .i64 o3, .int .i64 o4, .int .i64 o5, .int .i64 o6, .int .i64 o7] 166) = wa
  have HW := Lib.hid hW
  clear hW hp hp'
  go_loop [7, 8, 9, 10] (fun q r ok i => ∃ (k : Nat) (n m : Int) (t : Bool), k ≤ 128 ∧ i = .int .i64 ((k : Int) - 1) ∧ q = .int .i64 n ∧ r = .int .i64 m ∧ ok = .bool t ∧ DivAt (bitsOff P k) c n m t) (fun _ _ _ i => (intOf i + 1).toNat)
  case atStart => exact ⟨128, 0, 0, true, by omega, rfl, rfl, rfl, rfl, ⟨by rw [HS.out]; simp, .inl ⟨rfl, by rw [HS.out]; simp⟩, by omega, by omega⟩⟩
  case round =>
    obtain ⟨k, n, m, t, hk, rfl, rfl, rfl, rfl, hat⟩ := hrel
    have h1 := hat.n0
    have h2 := hat.n1
    have h3 : 0 ≤ m := by rw [hat.rest]; exact Int.emod_nonneg _ (by omega)
    have h4 : m < c := by rw [hat.rest]; exact Int.emod_lt_of_pos _ (by omega)
    have HA := Lib.hid hat
    clear hat
    rcases Nat.eq_zero_or_pos k with rfl | hk0
    · go_wp2_with fail
      go_ret3
      exact ⟨n, m, t, by rw [HP.out, ← bitsOff_zero]; exact HA.out, rfl, by rw [← HW.out]; exact (Ext.refl _).alloc _⟩
    · obtain ⟨j, rfl⟩ : ∃ j, k = j + 1 := ⟨k - 1, by omega⟩
      have hj : ((j + 1 : Nat) : Int) - 1 = j := by omega
      rw [hj]
      clear hj
      have hD : wa.cell? ⟨w.heap.size, j / 16, none⟩ = some (.int .i64 ((P / 65536 ^ (j / 16) % 65536 : Nat) : Int)) := by
        rw [← HW.out, World.cell?_alloc_new]
        exact H8.out.limb HP.out (j / 16) (by omega)
      have hbit : ((((P / 65536 ^ (j / 16) % 65536 : Nat) : Int)) / 2 ^ (j % 16)).tmod 2 = ((P / 2 ^ j % 2 : Nat) : Int) := by
        rw [← bit_nat]
        have : (((P / 65536 ^ (j / 16) % 65536 : Nat) : Int)) / 2 ^ (j % 16) = ((P / 65536 ^ (j / 16) % 65536 / 2 ^ (j % 16) : Nat) : Int) := by simp
        rw [this]
        generalize P / 65536 ^ (j / 16) % 65536 / 2 ^ (j % 16) = z
        rw [Int.tmod_eq_emod_of_nonneg (by omega)]; omega
      have hT : bitsOff P j = 2 * bitsOff P (j + 1) + ((P / 2 ^ j % 2 : Nat) : Int) := by
        have := bit_next P j
        unfold bitsOff
        omega
      have hb : ((P / 2 ^ j % 2 : Nat) : Int) = 0 ∨ ((P / 2 ^ j % 2 : Nat) : Int) = 1 := by omega
      have hD1 : ((P / 65536 ^ (j / 16) % 65536 : Nat) : Int) ≤ 65535 := by omega
      have hD0 : 0 ≤ ((P / 65536 ^ (j / 16) % 65536 : Nat) : Int) := by omega
      generalize ((P / 65536 ^ (j / 16) % 65536 : Nat) : Int) = D at *
      generalize ((P / 2 ^ j % 2 : Nat) : Int) = b at *
      have HT := Lib.hid hT
      have HBit := Lib.hid hbit
      clear hT hbit
      go_upto_region 8 with (fail)
      simp only [HBit.out]
      have hb0 : 0 ≤ b := by omega
      have hb1 : b ≤ 1 := by omega
      have HB := Lib.hid hb
      clear hb
      by_cases c1 : 4611686018427387904 ≤ n <;> by_cases c2 : c ≤ 2 * m + b
      all_goals
        go_wp2_with fail
        go_round
        case rel =>
          refine ⟨j, _, _, _, by omega, rfl, rfl, rfl, rfl, HA.out.go hc HB.out HT.out ?_ ?_⟩
          · first
              | exact .inl ⟨c1, rfl, by simp [c2]⟩
              | exact .inr ⟨by omega, rfl, by simp [c2]⟩
          · simp [c2]
        case measure => simp only [intOf]; omega
end L02
end Go.Proofs.Ytpkmpbpifbpomaa

namespace Go.Proofs.Ytpkmpbpifbpomaa
open Go.RowKit
namespace L02

theorem size_any (n : Int) (h : -9223372036854775807 ≤ n ∧ n ≤ 9223372036854775807) (w : World) :
    Calls Try.prog 130 #[.int .i64 n] w fun e w' => e = .returned (.int .i64 (mag n)) ∧ w = w' := by
  obtain ⟨h1, h2⟩ := h
  by_cases k : n < 0
  · rw [mag_neg k]
    go_enter Try.func130, Try.ntmps130
    go_wp2
    go_ret
    exact ⟨rfl, rfl⟩
  · rw [mag_pos k]
    go_enter Try.func130, Try.ntmps130
    go_wp2
    go_ret
    exact ⟨rfl, rfl⟩

theorem may_ref (a b c : Int) (w : World) :
    Calls Try.prog 120 #[.int .i64 a, .int .i64 b, .int .i64 c] w fun e w' => e = .returned (.bool (mayB a b c)) ∧ w = w' := by
  have em : mayB a b c = (decide (-4611686018427387903 ≤ a) && decide (a ≤ 4611686018427387903) && decide (-4611686018427387903 ≤ b) && decide (b ≤ 4611686018427387903) && decide (1 ≤ c) && decide (c ≤ 4611686018427387903)) := by
    rw [Bool.eq_iff_iff, mayB_iff]; simp; omega
  rw [em]
  clear em
  by_cases h1 : -4611686018427387903 ≤ a <;> by_cases h2 : a ≤ 4611686018427387903 <;> by_cases h3 : -4611686018427387903 ≤ b <;> by_cases h4 : b ≤ 4611686018427387903 <;> by_cases h5 : 1 ≤ c <;> first | omega | skip
  all_goals
    go_enter Try.func120, Try.ntmps120
    go_wp2
    go_ret
    exact ⟨ret_bool (by first | (simp [*]; done) | (simp [*]; omega)), rfl⟩

theorem kept_ref (q : Int) (t : Bool) (w : World) :
    Calls Try.prog 122 #[.int .i64 q, .bool t] w fun e w' => e = .returned (.tuple #[.int .i64 (if t = true ∧ fitB q = true then q else 0), .int .i64 (if t = true ∧ fitB q = true then 0 else 20)]) ∧ w = w' := by
  cases t with
  | false =>
    simp only [Bool.false_eq_true, false_and, if_false]
    go_enter Try.func122, Try.ntmps122
    go_wp2
    go_ret2
    exact ⟨rfl, rfl⟩
  | true =>
    by_cases h1 : 4611686018427387903 < q
    · have hf : fitB q = false := fitB_not.2 (.inr h1)
      simp only [hf, Bool.false_eq_true, and_false, if_false]
      clear hf
      go_enter Try.func122, Try.ntmps122
      go_wp2
      go_ret2
      exact ⟨rfl, rfl⟩
    · by_cases h2 : q < -4611686018427387903
      · have hf : fitB q = false := fitB_not.2 (.inl h2)
        simp only [hf, Bool.false_eq_true, and_false, if_false]
        clear hf
        go_enter Try.func122, Try.ntmps122
        go_wp2
        go_ret2
        exact ⟨rfl, rfl⟩
      · have hf : fitB q = true := fitB_iff.2 ⟨by omega, by omega⟩
        simp only [hf, and_true, if_true]
        clear hf
        go_enter Try.func122, Try.ntmps122
        go_wp2
        go_ret2
        exact ⟨rfl, rfl⟩

/-- The product is below 0. -/
def minusB (a b : Int) : Bool := (decide (a < 0) && decide (0 < b)) || (decide (0 < a) && decide (b < 0))
theorem minus_yes {a b : Int} (h : minusB a b = true) : a * b = -(mag a * mag b) := by
  unfold minusB at h
  refine mag_mul_other ?_
  unfold belowB
  simp only [Bool.or_eq_true, Bool.and_eq_true, decide_eq_true_eq] at h
  rcases h with ⟨h1, h2⟩ | ⟨h1, h2⟩
  · have : ¬ b < 0 := by omega
    simp [h1, this]
  · have : ¬ a < 0 := by omega
    simp [h2, this]
theorem minus_no {a b : Int} (h : minusB a b = false) : a * b = mag a * mag b := by
  by_cases ha : a = 0
  · subst ha; simp [mag]
  · by_cases hb : b = 0
    · subst hb; simp [mag]
    · refine mag_mul_same ?_
      unfold minusB at h
      unfold belowB
      by_cases ka : a < 0 <;> by_cases kb : b < 0
      · simp [ka, kb]
      · have : 0 < b := by omega
        simp [ka, this] at h
      · have : 0 < a := by omega
        simp [kb, this] at h
      · simp [ka, kb]

def BothRet (a b c : Int) (w : World) (e : Ending) (w' : World) : Prop :=
  ∃ (q : Int) (t : Bool), e = .returned (.tuple #[.int .i64 q, .bool t, .int .i64 (a * b % c)]) ∧
    ((t = true ∧ q = a * b / c ∧ -4611686018427387904 ≤ q ∧ q ≤ 4611686018427387904) ∨ (t = false ∧ q = 0 ∧ (a * b / c < -4611686018427387904 ∨ 4611686018427387904 < a * b / c))) ∧ Ext w w'

theorem both_ref (a b c : Int) (h : mayB a b c = true) (w : World) :
    Calls Try.prog 121 #[.int .i64 a, .int .i64 b, .int .i64 c] w (BothRet a b c w) := by
  obtain ⟨ha, hb, hc, hc'⟩ := mayB_iff.1 h
  have hma := mag_le ha
  have hmb := mag_le hb
  have hp := mul_le hma hmb
  have HP1 := Lib.hid hp.1
  have HP2 := Lib.hid hp.2
  have HMA := Lib.hid hma
  have HMB := Lib.hid hmb
  have HA := Lib.hid ha
  have HB := Lib.hid hb
  clear h hma hmb hp ha hb
  go_enter Try.func121, Try.ntmps121
  go_wp2_with fail
  refine (size_any a (by have := HA.out; omega) _).mono ?_; rintro e w0 ⟨rfl, rfl⟩
  go_wp2_with fail
  refine (size_any b (by have := HB.out; omega) _).mono ?_; rintro e w0 ⟨rfl, rfl⟩
  go_wp2_with fail
  refine (product_some _ _ HMA.out.1 (by have := HMA.out; omega) HMB.out.1 (by have := HMB.out; omega) _).mono ?_
  rintro e w1 ⟨o0, o1, o2, o3, o4, o5, o6, o7, h8, rfl, x1⟩
  have H8 := Lib.hid h8
  clear h8
  go_wp2_with fail
  refine (divide_ref _ _ _ _ _ _ _ _ _ _ H8.out HP1.out HP2.out hc hc' _).mono ?_
  rintro e w2 ⟨n, m, t, hat, rfl, x2⟩
  have hn0 := hat.n0
  have hn1 := hat.n1
  have hm0 : 0 ≤ m := by rw [hat.rest]; exact Int.emod_nonneg _ (by omega)
  have hm1 : m < c := by rw [hat.rest]; exact Int.emod_lt_of_pos _ (by omega)
  have AT := Lib.hid hat
  clear hat
  go_upto_region 2 with (fail)
  go_cut [12] (fun s wx => s = .bool (minusB a b) ∧ wx = w2)
  case first =>
    rcases Int.lt_trichotomy a 0 with ka | ka | ka <;> rcases Int.lt_trichotomy b 0 with kb | kb | kb
    all_goals
      try subst ka
      try subst kb
      try (have ka' : ¬ 0 < a := by omega)
      try (have ka' : ¬ a < 0 := by omega)
      try (have kb' : ¬ 0 < b := by omega)
      try (have kb' : ¬ b < 0 := by omega)
      go_wp2_with fail
      go_meet
      exact ⟨congrArg _ (by unfold minusB; simp [*]), rfl⟩
  case rest =>
    obtain ⟨rfl, rfl⟩ := hcut
    cases km : minusB a b with
    | false =>
      have e1 := Lib.hid (minus_no km)
      clear km
      cases t with
      | false =>
        go_wp2_with fail
        go_ret3
        exact ⟨0, false, by rw [e1.out, ← AT.out.rest]; rfl, .inr ⟨rfl, rfl, by rw [e1.out]; rcases AT.out.quo with ⟨k, _⟩ | ⟨_, k⟩; (cases k); omega⟩, x1.trans x2⟩
      | true =>
        by_cases k1 : 4611686018427387904 < n
        · go_wp2_with fail
          go_ret3
          exact ⟨0, false, by rw [e1.out, ← AT.out.rest]; rfl, .inr ⟨rfl, rfl, by rw [e1.out]; rcases AT.out.quo with ⟨_, k⟩ | ⟨k, _⟩; omega; cases k⟩, x1.trans x2⟩
        · go_wp2_with fail
          go_ret3
          exact ⟨n, true, by rw [e1.out, ← AT.out.rest]; rfl, .inl ⟨rfl, by rw [e1.out]; (rcases AT.out.quo with ⟨_, k⟩ | ⟨k, _⟩; exact k; cases k), by omega, by omega⟩, x1.trans x2⟩
    | true =>
      have e1 := Lib.hid (minus_yes km)
      have e2 := Lib.hid (neg_div (p := mag a * mag b) (c := c) (by omega))
      clear km
      by_cases km : m = 0
      · subst km
        cases t with
        | false =>
          go_wp2_with fail
          go_ret3
          refine ⟨0, false, by rw [e1.out, e2.out.2, ← AT.out.rest]; rfl, .inr ⟨rfl, rfl, ?_⟩, x1.trans x2⟩
          rw [e1.out, e2.out.1, ← AT.out.rest, if_pos rfl]
          rcases AT.out.quo with ⟨k, _⟩ | ⟨_, k⟩
          · cases k
          · omega
        | true =>
          have hq : n = mag a * mag b / c := by
            rcases AT.out.quo with ⟨_, k⟩ | ⟨k, _⟩
            · exact k
            · cases k
          have HQ := Lib.hid hq
          clear hq
          by_cases k1 : 4611686018427387904 < n
          · go_wp2_with fail
            go_ret3
            refine ⟨0, false, by rw [e1.out, e2.out.2, ← AT.out.rest]; rfl, .inr ⟨rfl, rfl, ?_⟩, x1.trans x2⟩
            rw [e1.out, e2.out.1, ← AT.out.rest, if_pos rfl, ← HQ.out]
            omega
          · go_wp2_with fail
            go_ret3
            refine ⟨-n, true, by rw [e1.out, e2.out.2, ← AT.out.rest]; rfl, .inl ⟨rfl, ?_, by omega, by omega⟩, x1.trans x2⟩
            rw [e1.out, e2.out.1, ← AT.out.rest, if_pos rfl, ← HQ.out]
      · have km' : 0 < m := by omega
        have er : a * b % c = c - m := by rw [e1.out, e2.out.2, ← AT.out.rest, if_neg km]
        have eq : a * b / c = -(mag a * mag b / c) - 1 := by rw [e1.out, e2.out.1, ← AT.out.rest, if_neg km]
        have ER := Lib.hid er
        have EQ := Lib.hid eq
        clear er eq
        cases t with
        | false =>
          go_wp2_with fail
          go_ret3
          refine ⟨0, false, by rw [ER.out]; rfl, .inr ⟨rfl, rfl, ?_⟩, x1.trans x2⟩
          rw [EQ.out]
          rcases AT.out.quo with ⟨k, _⟩ | ⟨_, k⟩
          · cases k
          · omega
        | true =>
          have hq : n = mag a * mag b / c := by
            rcases AT.out.quo with ⟨_, k⟩ | ⟨k, _⟩
            · exact k
            · cases k
          have HQ := Lib.hid hq
          clear hq
          rcases Int.lt_trichotomy n 4611686018427387904 with k1 | k1 | k1
          · have k2 : (n == 4611686018427387904) = false := by simp; omega
            have k3 : ¬ 4611686018427387904 < n := by omega
            go_wp2_with fail
            go_ret3
            refine ⟨-(n + 1), true, by rw [ER.out]; rfl, .inl ⟨rfl, ?_, by omega, by omega⟩, x1.trans x2⟩
            rw [EQ.out, ← HQ.out]; omega
          · subst k1
            go_wp2_with fail
            go_ret3
            refine ⟨0, false, by rw [ER.out]; rfl, .inr ⟨rfl, rfl, ?_⟩, x1.trans x2⟩
            rw [EQ.out, ← HQ.out]; omega
          · go_wp2_with fail
            go_ret3
            refine ⟨0, false, by rw [ER.out]; rfl, .inr ⟨rfl, rfl, ?_⟩, x1.trans x2⟩
            rw [EQ.out, ← HQ.out]; omega

theorem floor_ref (a b c : Int) (w : World) :
    Calls Try.prog 112 #[.int .i64 a, .int .i64 b, .int .i64 c] w (Ret w (.tuple #[.int .i64 (keptV (mayB a b c) (a * b / c)), .int .i64 (keptE (mayB a b c) (a * b / c))])) := by
  cases h : mayB a b c with
  | false =>
    rw [(kept_no _ rfl).1, (kept_no _ rfl).2]
    go_enter Try.func112, Try.ntmps112
    go_wp2_with fail
    refine (may_ref _ _ _ _).mono ?_; rintro e w1 ⟨rfl, rfl⟩
    go_wp2_with fail
    go_ret2
    exact ⟨rfl, Ext.refl _⟩
  | true =>
    have H := Lib.hid h
    go_enter Try.func112, Try.ntmps112
    go_wp2_with fail
    refine (may_ref _ _ _ _).mono ?_; rintro e w1 ⟨rfl, rfl⟩
    go_wp2_with fail
    refine (both_ref _ _ _ H.out _).mono ?_; rintro e w2 ⟨q, t, rfl, hq, x2⟩
    have HQ := Lib.hid hq
    clear hq
    go_wp2_with fail
    refine (kept_ref _ _ _).mono ?_; rintro e w3 ⟨rfl, rfl⟩
    have hr : (if t = true ∧ fitB q = true then q else 0) = keptV true (a * b / c) ∧ (if t = true ∧ fitB q = true then (0 : Int) else 20) = keptE true (a * b / c) := by
      unfold keptV keptE
      rcases HQ.out with ⟨rfl, rfl, _⟩ | ⟨rfl, rfl, k⟩
      · exact ⟨rfl, by simp⟩
      · have hf : fitB (a * b / c) = false := fitB_not.2 (by omega)
        rw [hf]; exact ⟨rfl, rfl⟩
    rw [hr.1, hr.2]
    clear hr
    go_wp2_with fail
    go_ret2
    exact ⟨rfl, x2⟩

end L02
end Go.Proofs.Ytpkmpbpifbpomaa

