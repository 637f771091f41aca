/- MuldivParts: a product's floor is not changed by a factor of both the product and the number: for every input. -/
import Derived.Test.YtllajmggopgimaaMulB02
import Derived.OpenShut
namespace Go.Proofs.Ytllajmggopgimaa
open Go.ChangeShapes Go.WideShapes Go.ChangeAt Go.RowKit
namespace MuldivParts
open L02

theorem le_mul {x n X N : Int} (h0 : 0 ≤ x) (h1 : x ≤ X) (k0 : 0 ≤ n) (k1 : n ≤ N) : 0 ≤ x * n ∧ x * n ≤ X * N :=
  ⟨Int.mul_nonneg h0 k0, Int.mul_le_mul h1 k1 k0 (by omega)⟩

theorem walk (a : Int) (_ : 0 ≤ a ∧ a ≤ 4294967295) (b : Int) (_ : 0 ≤ b ∧ b ≤ 4294967295) (c : Int) (_ : 0 ≤ c ∧ c ≤ 4294967295) (k : Int) (hk : 0 ≤ k ∧ k ≤ 65535) (w : World) :
    Calls Try.prog 7 #[.int .u32 a, .int .u32 b, .int .u32 c, .int .u16 k] w (Ret w (.bool true)) := by
  obtain ⟨hk1, hk2⟩ := hk
  have hx1 : 0 ≤ a % 1048576 := by omega
  have hx2 : a % 1048576 ≤ 1048575 := by omega
  have hy1 : 0 ≤ b % 1048576 := by omega
  have hy2 : b % 1048576 ≤ 1048575 := by omega
  have hz1 : 0 ≤ c % 1048576 := by omega
  have hz2 : c % 1048576 ≤ 1048575 := by omega
  go_enter Try.func7, Try.ntmps7
  go_wp2_with fail
  refine (awake_any _).mono ?_; rintro e w1 ⟨rfl, x1⟩
  go_wp2_with fail
  generalize a % 1048576 = x at *
  generalize b % 1048576 = y at *
  generalize c % 1048576 = z at *
  have xn := le_mul hx1 hx2 (show 0 ≤ k + 1 by omega) (show k + 1 ≤ 65536 by omega)
  have zn := le_mul (show 0 ≤ z + 1 by omega) (show z + 1 ≤ 1048576 by omega) (show 0 ≤ k + 1 by omega) (show k + 1 ≤ 65536 by omega)
  have xy := le_mul hx1 hx2 hy1 hy2
  have hq0 : 0 ≤ x * y / (z + 1) := Int.ediv_nonneg xy.1 (by omega)
  have hq1 : x * y / (z + 1) ≤ x * y := Int.ediv_le_self _ xy.1
  have hr0 := Int.emod_nonneg (x * y) (show z + 1 ≠ 0 by omega)
  have hr1 := Int.emod_lt_of_pos (x * y) (show 0 < z + 1 by omega)
  have rn := le_mul hr0 (show x * y % (z + 1) ≤ 1048576 by omega) (show 0 ≤ k + 1 by omega) (show k + 1 ≤ 65536 by omega)
  have zp : 0 < (z + 1) * (k + 1) := Int.mul_pos (by omega) (by omega)
  have m1 : mayB x y (z + 1) = true := mayB_iff.2 ⟨by omega, by omega, by omega, by omega⟩
  have m2 : mayB (x * (k + 1)) y ((z + 1) * (k + 1)) = true := mayB_iff.2 ⟨by omega, by omega, by omega, by omega⟩
  have ff : fitB (x * y / (z + 1)) = true := fitB_iff.2 (by omega)
  have d1 : x * (k + 1) * y / ((z + 1) * (k + 1)) = x * y / (z + 1) := by
    rw [Int.mul_right_comm, Int.mul_ediv_mul_of_pos_left _ _ (by omega)]
  have d2 : x * (k + 1) * y % ((z + 1) * (k + 1)) = x * y % (z + 1) * (k + 1) := by
    rw [Int.mul_right_comm, Int.mul_comm (x * y), Int.mul_comm (z + 1), Int.mul_emod_mul_of_pos _ _ (by omega), Int.mul_comm]
  have C1 := Lib.hid (fun w => floor_ok m1 rfl ff w)
  have C2 := Lib.hid (fun w => floor_ok m2 d1 ff w)
  have C3 := Lib.hid (fun w => rest_ok m1 rfl w)
  have C4 := Lib.hid (fun w => rest_ok m2 d2 w)
  have hw1 := xn.1; have hw2 := xn.2; have hw3 := zn.1; have hw4 := zn.2; have hw5 := rn.1; have hw6 := rn.2
  clear m1 m2 ff d1 d2 xn zn rn xy
  generalize gx : x * (k + 1) = xk at *
  generalize gz : (z + 1) * (k + 1) = zk at *
  generalize gr0 : x * y % (z + 1) = r at *
  generalize gq : x * y / (z + 1) = q at *
  generalize gr : r * (k + 1) = rk at *
  clear gr0 gq
  refine (C1.out _).mono ?_; rintro e w2 ⟨rfl, x2⟩
  go_wp2_with fail
  refine (C2.out _).mono ?_; rintro e w3 ⟨rfl, x3⟩
  go_wp2_with fail
  refine (C3.out _).mono ?_; rintro e w4 ⟨rfl, x4⟩
  go_wp2_with fail
  refine (C4.out _).mono ?_; rintro e w5 ⟨rfl, x5⟩
  go_wp2_with fail
  go_ret
  exact ⟨rfl, (((x1.trans x2).trans x3).trans x4).trans x5⟩

set_option maxRecDepth 100000 in
theorem lifted (os : Os) (started : os.Started) (H : Type) (enc : TypeId × Value → H) :
    ReturnsInHanded {} Try.checked os 7 .any (Rows.muldivPartsSpec.pre6 enc Try.prog Try.f7 [] false) (Rows.muldivPartsSpec.post enc Try.prog Try.f7 false true false false) := by
  refine law_lift (C := Try.checked) own started (by kernel_rfl) Try.func7 laidOut rfl rfl Try.underlying4 (by kernel_rfl) ?_
    (ChangeSpec.witness6 (enc := enc) (C := Try.checked) false ⟨#[], #[.int .u32 0, .int .u32 0, .int .u32 0, .int .u16 0], []⟩ 8 (by kernel_rfl) (by kernel_rfl) (by kernel_rfl) (by kernel_rfl)) ?_
  · intro H ds h
    match ds, h with
    | [_, _, _, _], _ => rfl
  · intro W base args ds p hval hA hlt hwt hsh
    rw [Try.params7] at hA hval
    obtain ⟨v0, vs0, d0, ds0, p0, q0, hargs, rfl, rfl, h0, r0⟩ := trodAll_cons hA
    obtain ⟨v1, vs1, d1, ds1, p1, q1, rfl, rfl, rfl, h1, r1⟩ := trodAll_cons r0
    obtain ⟨v2, vs2, d2, ds2, p2, q2, rfl, rfl, rfl, h2, r2⟩ := trodAll_cons r1
    obtain ⟨v3, vs3, d3, ds3, p3, q3, rfl, rfl, rfl, h3, r3⟩ := trodAll_cons r2
    obtain ⟨rfl, rfl, rfl⟩ := trodAll_nil r3
    obtain rfl : args = #[v0, v1, v2, v3] := by cases args; simp_all
    obtain ⟨a0, rfl, rfl, rfl, wf0⟩ := open_int Try.underlying27 (hval 0 27 v0 rfl rfl) h0
    obtain ⟨a1, rfl, rfl, rfl, wf1⟩ := open_int Try.underlying27 (hval 1 27 v1 rfl rfl) h1
    obtain ⟨a2, rfl, rfl, rfl, wf2⟩ := open_int Try.underlying27 (hval 2 27 v2 rfl rfl) h2
    obtain ⟨a3, rfl, rfl, rfl, wf3⟩ := open_int Try.underlying29 (hval 3 29 v3 rfl rfl) h3
    exact walk a0 (bounds_u32 wf0) a1 (bounds_u32 wf1) a2 (bounds_u32 wf2) a3 (bounds_u16 wf3) W 

theorem holds : Rows.MuldivPartsSaid :=
  OpenClaim.holds_of_wide 7 Try.f7 rfl rfl rfl rfl rfl rfl rfl ⟨rfl, rfl, rfl, rfl, rfl⟩ rfl rfl rfl rfl rfl (by kernel_rfl) Try.func7 (by kernel_rfl)
    (of_decide_eq_true (by kernel_rfl)) (by unfold Func.isWrapper; first | (rw [if_pos (by decide +kernel)]; kernel_rfl) | (rw [if_neg (by decide +kernel)]; exact ⟨rfl, rfl⟩))
    (fun os started H enc _ => lifted os started H enc)
end MuldivParts
end Go.Proofs.Ytllajmggopgimaa

