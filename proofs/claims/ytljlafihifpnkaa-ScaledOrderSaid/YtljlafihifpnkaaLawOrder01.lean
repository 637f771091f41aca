/- ScaledOrder: of two dimensions the lesser one, with the same added, is no greater, and a difference, turned, is the other one's below 0: for every input. -/
import Derived.Test.YtljlafihifpnkaaSum01
import Derived.OpenShut
namespace Go.Proofs.Ytljlafihifpnkaa
open Go.ChangeShapes Go.WideShapes Go.ChangeAt Go.RowKit
namespace ScaledOrder

theorem turned (a b : Int) : keptE b a (b - a) = keptE a b (a - b) := by
  have h : isDim (b - a) = isDim (a - b) := by
    cases h : isDim (a - b) with
    | true => rw [isDim_iff] at h ⊢; omega
    | false => rw [isDim_not] at h ⊢; omega
  unfold keptE
  rw [h]
  congr 1
  exact propext ⟨fun ⟨x, y, z⟩ => ⟨y, x, z⟩, fun ⟨x, y, z⟩ => ⟨y, x, z⟩⟩

theorem turnedV (a b : Int) (h : keptE a b (a - b) = 0) : keptV a b (a - b) = -keptV b a (b - a) ∧ keptV a b (a - b) = a - b ∧ -1073741823 ≤ a - b ∧ a - b ≤ 1073741823 := by
  have h1 := kept_zero h
  have h2 := kept_zero ((turned a b).trans h)
  have h3 := isDim_iff.1 h1.2.2.1
  rw [h1.2.2.2, h2.2.2.2]; omega

theorem walk1 (a b c : Int) (hab : a < b) (w : World) :
    Calls Try.prog 7 #[.int .i64 a, .int .i64 b, .int .i64 c] w (Ret w (.bool true)) := by
  have hgh := turned a b
  rcases kept_err a c (a + c) with he | he <;> rcases kept_err b c (b + c) with hf | hf <;> rcases kept_err a b (a - b) with hg | hg
  all_goals
    rw [hg] at hgh
    try (have hev := (kept_zero he).2.2.2; have hea := isDim_iff.1 (kept_zero he).1; have hec := isDim_iff.1 (kept_zero he).2.1)
    try (have hfv := (kept_zero hf).2.2.2; have hfa := isDim_iff.1 (kept_zero hf).1)
    try (have hgv := (kept_zero hg).2.2.2; have hhv := (kept_zero hgh).2.2.2; have hga := isDim_iff.1 (kept_zero hg).1; have hgb := isDim_iff.1 (kept_zero hg).2.1)
    have hyx : (b + c - (a + c) == b - a) = true := by rw [beq_iff_eq]; omega
    go_enter Try.func7, Try.ntmps7
    go_wp2_with fail
    refine (awake_any _).mono ?_; rintro e w1 ⟨rfl, x1⟩
    go_wp2_with fail
    refine (add_any _ _ _).mono ?_; rintro e w2 ⟨rfl, x2⟩
    go_wp2_with fail
    refine (add_any _ _ _).mono ?_; rintro e w3 ⟨rfl, x3⟩
    go_wp2_with fail
    refine (sub_any _ _ _).mono ?_; rintro e w4 ⟨rfl, x4⟩
    go_wp2_with fail
    refine (sub_any _ _ _).mono ?_; rintro e w5 ⟨rfl, x5⟩
    go_wp2_with fail
    go_ret
    exact ⟨(by first | rfl | exact ret_bool (by first | (simp only [decide_eq_true_eq]; omega) | (rw [beq_iff_eq, decide_eq_decide]; omega))), (((x1.trans x2).trans x3).trans x4).trans x5⟩

theorem walk2 (a b c : Int) (hab : b < a) (w : World) :
    Calls Try.prog 7 #[.int .i64 a, .int .i64 b, .int .i64 c] w (Ret w (.bool true)) := by
  have hgh := turned a b
  rcases kept_err b c (b + c) with he | he <;> rcases kept_err a c (a + c) with hf | hf <;> rcases kept_err a b (a - b) with hg | hg
  all_goals
    rw [hg] at hgh
    try (have hev := (kept_zero he).2.2.2; have hea := isDim_iff.1 (kept_zero he).1; have hec := isDim_iff.1 (kept_zero he).2.1)
    try (have hfv := (kept_zero hf).2.2.2; have hfa := isDim_iff.1 (kept_zero hf).1)
    try (have hgv := (kept_zero hg).2.2.2; have hhv := (kept_zero hgh).2.2.2; have hga := isDim_iff.1 (kept_zero hg).1; have hgb := isDim_iff.1 (kept_zero hg).2.1)
    have hyx : (a + c - (b + c) == a - b) = true := by rw [beq_iff_eq]; omega
    go_enter Try.func7, Try.ntmps7
    go_wp2_with fail
    refine (awake_any _).mono ?_; rintro e w1 ⟨rfl, x1⟩
    go_wp2_with fail
    refine (add_any _ _ _).mono ?_; rintro e w2 ⟨rfl, x2⟩
    go_wp2_with fail
    refine (add_any _ _ _).mono ?_; rintro e w3 ⟨rfl, x3⟩
    go_wp2_with fail
    refine (sub_any _ _ _).mono ?_; rintro e w4 ⟨rfl, x4⟩
    go_wp2_with fail
    refine (sub_any _ _ _).mono ?_; rintro e w5 ⟨rfl, x5⟩
    go_wp2_with fail
    go_ret
    exact ⟨(by first | rfl | exact ret_bool (by first | (simp only [decide_eq_true_eq]; omega) | (rw [beq_iff_eq, decide_eq_decide]; omega))), (((x1.trans x2).trans x3).trans x4).trans x5⟩

theorem subSelf (a : Int) (w : World) : Calls Try.prog 11 #[.int .i64 a, .int .i64 a] w (Ret w (.tuple #[.int .i64 0, .int .i64 (keptE a a 0)])) := by
  have h := sub_any a a w
  have z : keptV a a 0 = 0 := by unfold keptV; split <;> rfl
  rw [Int.sub_self, z] at h
  exact h

theorem walk3 (a c : Int) (w : World) :
    Calls Try.prog 7 #[.int .i64 a, .int .i64 a, .int .i64 c] w (Ret w (.bool true)) := by
  rcases kept_err a c (a + c) with he | he <;> rcases kept_err a a 0 with hg | hg
  all_goals
    try (have hev := (kept_zero he).2.2.2; have hea := isDim_iff.1 (kept_zero he).1; have hec := isDim_iff.1 (kept_zero he).2.1)
    go_enter Try.func7, Try.ntmps7
    go_wp2_with fail
    refine (awake_any _).mono ?_; rintro e w1 ⟨rfl, x1⟩
    go_wp2_with fail
    refine (add_any _ _ _).mono ?_; rintro e w2 ⟨rfl, x2⟩
    go_wp2_with fail
    refine (add_any _ _ _).mono ?_; rintro e w3 ⟨rfl, x3⟩
    go_wp2_with fail
    refine (subSelf _ _).mono ?_; rintro e w4 ⟨rfl, x4⟩
    go_wp2_with fail
    refine (subSelf _ _).mono ?_; rintro e w5 ⟨rfl, x5⟩
    go_wp2_with fail
    go_ret
    exact ⟨rfl, (((x1.trans x2).trans x3).trans x4).trans x5⟩

theorem walk (a : Int) (_ : -9223372036854775808 ≤ a ∧ a ≤ 9223372036854775807) (b : Int) (_ : -9223372036854775808 ≤ b ∧ b ≤ 9223372036854775807) (c : Int) (_ : -9223372036854775808 ≤ c ∧ c ≤ 9223372036854775807) (w : World) :
    Calls Try.prog 7 #[.int .i64 a, .int .i64 b, .int .i64 c] w (Ret w (.bool true)) := by
  rcases Int.lt_trichotomy a b with hab | hab | hab
  · exact walk1 a b c hab w
  · subst hab; exact walk3 a c w
  · exact walk2 a b c hab w

set_option maxRecDepth 100000 in
theorem lifted (os : Os) (started : os.Started) (H : Type) (enc : TypeId × Value → H) :
    ReturnsInHanded {} Try.checked os 7 .any (Rows.scaledOrderSpec.pre6 enc Try.prog Try.f7 [] false) (Rows.scaledOrderSpec.post enc Try.prog Try.f7 false true false false) := by
  refine law_lift (C := Try.checked) own started (by kernel_rfl) Try.func7 laidOut rfl rfl Try.underlying4 (by kernel_rfl) ?_
    (ChangeSpec.witness6 (enc := enc) (C := Try.checked) false ⟨#[], #[.int .i64 0, .int .i64 0, .int .i64 0], []⟩ 8 (by kernel_rfl) (by kernel_rfl) (by kernel_rfl) (by kernel_rfl)) ?_
  · intro H ds h
    match ds, h with
    | [_, _, _], _ => rfl
  · intro W base args ds p hval hA hlt hwt hsh
    rw [Try.params7] at hA hval
    obtain ⟨v0, vs0, d0, ds0, p0, q0, hargs, rfl, rfl, h0, r0⟩ := trodAll_cons hA
    obtain ⟨v1, vs1, d1, ds1, p1, q1, rfl, rfl, rfl, h1, r1⟩ := trodAll_cons r0
    obtain ⟨v2, vs2, d2, ds2, p2, q2, rfl, rfl, rfl, h2, r2⟩ := trodAll_cons r1
    obtain ⟨rfl, rfl, rfl⟩ := trodAll_nil r2
    obtain rfl : args = #[v0, v1, v2] := by cases args; simp_all
    obtain ⟨a0, rfl, rfl, rfl, wf0⟩ := open_int Try.underlying3 (hval 0 3 v0 rfl rfl) h0
    obtain ⟨a1, rfl, rfl, rfl, wf1⟩ := open_int Try.underlying3 (hval 1 3 v1 rfl rfl) h1
    obtain ⟨a2, rfl, rfl, rfl, wf2⟩ := open_int Try.underlying3 (hval 2 3 v2 rfl rfl) h2
    exact walk a0 (bounds_i64 wf0) a1 (bounds_i64 wf1) a2 (bounds_i64 wf2) W

theorem holds : Rows.ScaledOrderSaid :=
  OpenClaim.holds_of_wide 7 Try.f7 rfl rfl rfl rfl rfl rfl rfl ⟨rfl, rfl, rfl, rfl, rfl⟩ rfl rfl rfl rfl rfl (by kernel_rfl) Try.func7 (by kernel_rfl)
    (of_decide_eq_true (by kernel_rfl)) (by unfold Func.isWrapper; first | (rw [if_pos (by decide +kernel)]; kernel_rfl) | (rw [if_neg (by decide +kernel)]; exact ⟨rfl, rfl⟩))
    (fun os started H enc _ => lifted os started H enc)
end ScaledOrder
end Go.Proofs.Ytljlafihifpnkaa

