/- MuldivMakes: what is floored, times the number, and the rest, is the product, and the rest is below the number: for every input. -/
import Derived.Test.YtllajmggopgimaaMulB02
import Derived.OpenShut
namespace Go.Proofs.Ytllajmggopgimaa
open Go.ChangeShapes Go.WideShapes Go.ChangeAt Go.RowKit
namespace MuldivMakes
open L02

theorem half {a : Int} (h : -2147483648 ≤ a ∧ a ≤ 2147483647) : -1073741824 ≤ a.tdiv 2 ∧ a.tdiv 2 ≤ 1073741824 := by
  have h1 : (a.tdiv 2).natAbs = a.natAbs / 2 := by rw [Int.natAbs_tdiv]; rfl
  omega
theorem mul_le_of_abs {a b : Int} {m : Nat} (ha : a.natAbs ≤ m) (hb : b.natAbs ≤ m) : (a * b).natAbs ≤ m * m := by
  rw [Int.natAbs_mul]; exact Nat.mul_le_mul ha hb

theorem walk (a : Int) (ha : -2147483648 ≤ a ∧ a ≤ 2147483647) (b : Int) (hb : -2147483648 ≤ b ∧ b ≤ 2147483647) (c : Int) (hc : 0 ≤ c ∧ c ≤ 4294967295) (w : World) :
    Calls Try.prog 4 #[.int .i32 a, .int .i32 b, .int .u32 c] w (Ret w (.bool true)) := by
  have hx := half ha
  have hy := half hb
  have hc1 : 0 ≤ c % 1073741824 := by omega
  have hc2 : c % 1073741824 ≤ 1073741823 := by omega
  go_enter Try.func4, Try.ntmps4
  go_wp2_with fail
  refine (awake_any _).mono ?_; rintro e w1 ⟨rfl, x1⟩
  go_wp2_with fail
  generalize a.tdiv 2 = x at *
  generalize b.tdiv 2 = y at *
  generalize c % 1073741824 = d at *
  have hp := mul_le_of_abs (a := x) (b := y) (m := 1073741824) (by omega) (by omega)
  have hp1 : -1152921504606846976 ≤ x * y := by omega
  have hp2 : x * y ≤ 1152921504606846976 := by omega
  have m1 : mayB x y (d + 1) = true := mayB_iff.2 ⟨by omega, by omega, by omega, by omega⟩
  have hr0 := Int.emod_nonneg (x * y) (show d + 1 ≠ 0 by omega)
  have hr1 := Int.emod_lt_of_pos (x * y) (show 0 < d + 1 by omega)
  have hd := Int.mul_ediv_add_emod (x * y) (d + 1)
  rw [Int.mul_comm] at hd
  have hq : -1152921504606846976 ≤ x * y / (d + 1) ∧ x * y / (d + 1) ≤ 1152921504606846976 := by
    constructor
    · rw [Int.le_ediv_iff_mul_le (by omega)]; omega
    · have : x * y / (d + 1) < 1152921504606846977 := by rw [Int.ediv_lt_iff_lt_mul (by omega)]; omega
      omega
  have hu : up x y (d + 1) = if d + 1 ≤ 2 * (x * y % (d + 1)) then 1 else 0 := rfl
  have hU := Lib.hid hu
  clear hp hu hx hy ha hb hc
  by_cases hh : d + 1 ≤ 2 * (x * y % (d + 1))
  · have C1 := Lib.hid (fun w => floor_ok m1 rfl (fitB_iff.2 (by omega)) w)
    have C2 := Lib.hid (fun w => rest_ok m1 rfl w)
    have C3 := Lib.hid (fun w => nearest_ok m1 (q := x * y / (d + 1) + 1) (by rw [hU.out, if_pos hh]) (fitB_iff.2 (by omega)) w)
    clear m1 hU
    have hq1 := hq.1
    have hq2 := hq.2
    clear hq
    generalize gp : x * y = p at *
    generalize gq : p / (d + 1) = q at *
    generalize gr : p % (d + 1) = r at *
    generalize gm : q * (d + 1) = m at *
    have hm : m + r = p := hd
    have hm' : (m + r == p) = true := by simp [hm]
    have HM := Lib.hid hm
    have hb1 : m ≤ 1152921504606846976 := by omega
    have hb2 : -4152921504606846976 ≤ m := by omega
    clear hd hm gq gr
    refine (C1.out _).mono ?_; rintro e w2 ⟨rfl, x2⟩
    go_wp2_with fail
    refine (C2.out _).mono ?_; rintro e w3 ⟨rfl, x3⟩
    go_wp2_with fail
    refine (C3.out _).mono ?_; rintro e w4 ⟨rfl, x4⟩
    go_wp2_with fail
    go_ret
    exact ⟨rfl, ((x1.trans x2).trans x3).trans x4⟩
  · have C1 := Lib.hid (fun w => floor_ok m1 rfl (fitB_iff.2 (by omega)) w)
    have C2 := Lib.hid (fun w => rest_ok m1 rfl w)
    have C3 := Lib.hid (fun w => nearest_ok m1 (q := x * y / (d + 1)) (by rw [hU.out, if_neg hh, Int.add_zero]) (fitB_iff.2 (by omega)) w)
    clear m1 hU
    have hq1 := hq.1
    have hq2 := hq.2
    clear hq
    generalize gp : x * y = p at *
    generalize gq : p / (d + 1) = q at *
    generalize gr : p % (d + 1) = r at *
    generalize gm : q * (d + 1) = m at *
    have hm : m + r = p := hd
    have hm' : (m + r == p) = true := by simp [hm]
    have HM := Lib.hid hm
    have hb1 : m ≤ 1152921504606846976 := by omega
    have hb2 : -4152921504606846976 ≤ m := by omega
    clear hd hm gq gr
    refine (C1.out _).mono ?_; rintro e w2 ⟨rfl, x2⟩
    go_wp2_with fail
    refine (C2.out _).mono ?_; rintro e w3 ⟨rfl, x3⟩
    go_wp2_with fail
    refine (C3.out _).mono ?_; rintro e w4 ⟨rfl, x4⟩
    go_wp2_with fail
    go_ret
    exact ⟨rfl, ((x1.trans x2).trans x3).trans x4⟩

set_option maxRecDepth 100000 in
theorem lifted (os : Os) (started : os.Started) (H : Type) (enc : TypeId × Value → H) :
    ReturnsInHanded {} Try.checked os 4 .any (Rows.muldivMakesSpec.pre6 enc Try.prog Try.f4 [] false) (Rows.muldivMakesSpec.post enc Try.prog Try.f4 false true false false) := by
  refine law_lift (C := Try.checked) own started (by kernel_rfl) Try.func4 laidOut rfl rfl Try.underlying4 (by kernel_rfl) ?_
    (ChangeSpec.witness6 (enc := enc) (C := Try.checked) false ⟨#[], #[.int .i32 0, .int .i32 0, .int .u32 0], []⟩ 8 (by kernel_rfl) (by kernel_rfl) (by kernel_rfl) (by kernel_rfl)) ?_
  · intro H ds h
    match ds, h with
    | [_, _, _], _ => rfl
  · intro W base args ds p hval hA hlt hwt hsh
    rw [Try.params4] at hA hval
    obtain ⟨v0, vs0, d0, ds0, p0, q0, hargs, rfl, rfl, h0, r0⟩ := trodAll_cons hA
    obtain ⟨v1, vs1, d1, ds1, p1, q1, rfl, rfl, rfl, h1, r1⟩ := trodAll_cons r0
    obtain ⟨v2, vs2, d2, ds2, p2, q2, rfl, rfl, rfl, h2, r2⟩ := trodAll_cons r1
    obtain ⟨rfl, rfl, rfl⟩ := trodAll_nil r2
    obtain rfl : args = #[v0, v1, v2] := by cases args; simp_all
    obtain ⟨a0, rfl, rfl, rfl, wf0⟩ := open_int Try.underlying21 (hval 0 21 v0 rfl rfl) h0
    obtain ⟨a1, rfl, rfl, rfl, wf1⟩ := open_int Try.underlying21 (hval 1 21 v1 rfl rfl) h1
    obtain ⟨a2, rfl, rfl, rfl, wf2⟩ := open_int Try.underlying27 (hval 2 27 v2 rfl rfl) h2
    exact walk a0 (bounds_i32 wf0) a1 (bounds_i32 wf1) a2 (bounds_u32 wf2) W 

theorem holds : Rows.MuldivMakesSaid :=
  OpenClaim.holds_of_wide 4 Try.f4 rfl rfl rfl rfl rfl rfl rfl ⟨rfl, rfl, rfl, rfl, rfl⟩ rfl rfl rfl rfl rfl (by kernel_rfl) Try.func4 (by kernel_rfl)
    (of_decide_eq_true (by kernel_rfl)) (by unfold Func.isWrapper; first | (rw [if_pos (by decide +kernel)]; kernel_rfl) | (rw [if_neg (by decide +kernel)]; exact ⟨rfl, rfl⟩))
    (fun os started H enc _ => lifted os started H enc)
end MuldivMakes
end Go.Proofs.Ytllajmggopgimaa

