/- MuldivSigns: a factor's sign turns a floor's, and takes one more away, if there was a rest; both factors' signs do nothing: for every input. -/
import Derived.Test.YtllajmggopgimaaMulB02
import Derived.OpenShut
namespace Go.Proofs.Ytllajmggopgimaa
open Go.ChangeShapes Go.WideShapes Go.ChangeAt Go.RowKit
namespace MuldivSigns
open L02

theorem fit_neg (a : Int) : fitB (-a) = fitB a := by unfold fitB; rw [decide_eq_decide]; omega
theorem may_neg (a b c : Int) : mayB (-a) b c = mayB a b c := by unfold mayB; rw [fit_neg]
theorem may_neg2 (a b c : Int) : mayB (-a) (-b) c = mayB a b c := by unfold mayB; rw [fit_neg, fit_neg]

theorem core (a b c na nb q e r f p g s : Int) (ea : IntKind.i64.wrap (-a) = na) (eb : IntKind.i64.wrap (-b) = nb)
    (c1 : ∀ w, Calls Try.prog 11 #[.int .i64 a, .int .i64 b, .int .i64 c] w (Ret w (.tuple #[.int .i64 q, .int .i64 e])))
    (c2 : ∀ w, Calls Try.prog 15 #[.int .i64 a, .int .i64 b, .int .i64 c] w (Ret w (.tuple #[.int .i64 r, .int .i64 f])))
    (c3 : ∀ w, Calls Try.prog 11 #[.int .i64 na, .int .i64 b, .int .i64 c] w (Ret w (.tuple #[.int .i64 p, .int .i64 g])))
    (c4 : ∀ w, Calls Try.prog 11 #[.int .i64 na, .int .i64 nb, .int .i64 c] w (Ret w (.tuple #[.int .i64 q, .int .i64 e])))
    (o : ((e == 0) = false ∧ (e != 0) = true) ∨ (e = 0 ∧ f = 0 ∧ (g == 0) = false ∧ (g != 0) = true) ∨
      (e = 0 ∧ f = 0 ∧ g = 0 ∧ -4611686018427387903 ≤ q ∧ q ≤ 4611686018427387903 ∧ 0 ≤ r ∧ p = -q - (if 0 < r then 1 else 0))) (w : World) :
    Calls Try.prog 6 #[.int .i64 a, .int .i64 b, .int .i64 c] w (Ret w (.bool true)) := by
  have C1 := Lib.hid c1; have C2 := Lib.hid c2; have C3 := Lib.hid c3; have C4 := Lib.hid c4
  clear c1 c2 c3 c4
  rcases o with ⟨h1, h2⟩ | ⟨rfl, rfl, h1, h2⟩ | ⟨rfl, rfl, rfl, h1, h2, h3, rfl⟩
  · go_enter Try.func6, Try.ntmps6
    go_wp2_with fail
    refine (awake_any _).mono ?_; rintro e w1 ⟨rfl, x1⟩
    go_wp2_with fail
    refine (C1.out _).mono ?_; rintro e w2 ⟨rfl, x2⟩
    go_wp2_with fail
    refine (C2.out _).mono ?_; rintro e w3 ⟨rfl, x3⟩
    go_wp2_with fail
    refine (C3.out _).mono ?_; rintro e w4 ⟨rfl, x4⟩
    go_wp2_with fail
    refine (C4.out _).mono ?_; rintro e w5 ⟨rfl, x5⟩
    go_wp2_with fail
    go_ret
    exact ⟨rfl, (((x1.trans x2).trans x3).trans x4).trans x5⟩
  · go_enter Try.func6, Try.ntmps6
    go_wp2_with fail
    refine (awake_any _).mono ?_; rintro e w1 ⟨rfl, x1⟩
    go_wp2_with fail
    refine (C1.out _).mono ?_; rintro e w2 ⟨rfl, x2⟩
    go_wp2_with fail
    refine (C2.out _).mono ?_; rintro e w3 ⟨rfl, x3⟩
    go_wp2_with fail
    refine (C3.out _).mono ?_; rintro e w4 ⟨rfl, x4⟩
    go_wp2_with fail
    refine (C4.out _).mono ?_; rintro e w5 ⟨rfl, x5⟩
    go_wp2_with fail
    go_ret
    exact ⟨rfl, (((x1.trans x2).trans x3).trans x4).trans x5⟩
  · by_cases h : 0 < r
    · rw [if_pos h] at C3
      go_enter Try.func6, Try.ntmps6
      go_wp2_with fail
      refine (awake_any _).mono ?_; rintro e w1 ⟨rfl, x1⟩
      go_wp2_with fail
      refine (C1.out _).mono ?_; rintro e w2 ⟨rfl, x2⟩
      go_wp2_with fail
      refine (C2.out _).mono ?_; rintro e w3 ⟨rfl, x3⟩
      go_wp2_with fail
      refine (C3.out _).mono ?_; rintro e w4 ⟨rfl, x4⟩
      go_wp2_with fail
      refine (C4.out _).mono ?_; rintro e w5 ⟨rfl, x5⟩
      go_wp2_with fail
      go_ret
      exact ⟨rfl, (((x1.trans x2).trans x3).trans x4).trans x5⟩
    · rw [if_neg h, Int.sub_zero] at C3
      go_enter Try.func6, Try.ntmps6
      go_wp2_with fail
      refine (awake_any _).mono ?_; rintro e w1 ⟨rfl, x1⟩
      go_wp2_with fail
      refine (C1.out _).mono ?_; rintro e w2 ⟨rfl, x2⟩
      go_wp2_with fail
      refine (C2.out _).mono ?_; rintro e w3 ⟨rfl, x3⟩
      go_wp2_with fail
      refine (C3.out _).mono ?_; rintro e w4 ⟨rfl, x4⟩
      go_wp2_with fail
      refine (C4.out _).mono ?_; rintro e w5 ⟨rfl, x5⟩
      go_wp2_with fail
      go_ret
      exact ⟨rfl, (((x1.trans x2).trans x3).trans x4).trans x5⟩

theorem wrap_neg {a : Int} (h : -9223372036854775808 ≤ a ∧ a ≤ 9223372036854775807) : (a = -9223372036854775808 ∧ IntKind.i64.wrap (-a) = a) ∨ IntKind.i64.wrap (-a) = -a := by
  rw [IntKind.wrap_i64]
  omega

theorem min_no (b c : Int) : mayB (-9223372036854775808) b c = false := by
  have : fitB (-9223372036854775808) = false := by decide
  unfold mayB; rw [this]; rfl
theorem min_no2 (a c : Int) : mayB a (-9223372036854775808) c = false := by
  have : fitB (-9223372036854775808) = false := by decide
  unfold mayB; rw [this]; simp

theorem bad {a b c : Int} (h : mayB a b c = false) (w : World) : Calls Try.prog 11 #[.int .i64 a, .int .i64 b, .int .i64 c] w (Ret w (.tuple #[.int .i64 0, .int .i64 1])) := by
  have k := floor_any a b c w
  rw [h, (kept_no _ rfl).1, (kept_no _ rfl).2] at k; exact k

theorem walk (a : Int) (ha : -9223372036854775808 ≤ a ∧ a ≤ 9223372036854775807) (b : Int) (hb : -9223372036854775808 ≤ b ∧ b ≤ 9223372036854775807) (c : Int) (_ : -9223372036854775808 ≤ c ∧ c ≤ 9223372036854775807) (w : World) :
    Calls Try.prog 6 #[.int .i64 a, .int .i64 b, .int .i64 c] w (Ret w (.bool true)) := by
  have key : mayB a b c = false → mayB (IntKind.i64.wrap (-a)) (IntKind.i64.wrap (-b)) c = false ∧ mayB (IntKind.i64.wrap (-a)) b c = false := by
    intro h
    rcases wrap_neg ha with ⟨rfl, h1⟩ | h1
    · rw [h1]; exact ⟨min_no _ _, min_no _ _⟩
    · rw [h1]
      refine ⟨?_, by rw [may_neg]; exact h⟩
      rcases wrap_neg hb with ⟨rfl, h2⟩ | h2
      · rw [h2]; exact min_no2 _ _
      · rw [h2, may_neg2]; exact h
  cases hm : mayB a b c with
  | false =>
    have k := key hm
    exact core a b c _ _ 0 1 _ _ _ _ 0 rfl rfl (bad hm) (rest_any a b c) (floor_any _ b c) (bad k.1) (.inl ⟨rfl, rfl⟩) w
  | true =>
    have hm' := mayB_iff.1 hm
    have h1 : IntKind.i64.wrap (-a) = -a := by rw [IntKind.wrap_i64]; omega
    have h2 : IntKind.i64.wrap (-b) = -b := by rw [IntKind.wrap_i64]; omega
    refine core a b c (-a) (-b) _ _ _ _ _ _ 0 h1 h2 (floor_any a b c) (rest_any a b c) (floor_any (-a) b c) (fun w => ?_) ?_ w
    · have h := floor_any (-a) (-b) c w
      rw [may_neg2, Int.neg_mul_neg] at h; exact h
    · rw [may_neg, hm, Int.neg_mul, (neg_div (p := a * b) (c := c) (by omega)).1, (rest_yes hm).1, (rest_yes hm).2]
      have r0 := Int.emod_nonneg (a * b) (show c ≠ 0 by omega)
      generalize a * b % c = r at *
      generalize a * b / c = q at *
      rcases kept_cases true q with ⟨_, hf, hv, he⟩ | ⟨_, he, _⟩
      · rcases kept_cases true (if r = 0 then -q else -q - 1) with ⟨_, hf', hv', he'⟩ | ⟨_, he', _⟩
        · have hq := fitB_iff.1 hf
          refine .inr (.inr ⟨he, rfl, he', ?_, ?_, r0, ?_⟩)
          · rw [hv]; exact hq.1
          · rw [hv]; exact hq.2
          · rw [hv', hv]; split <;> split <;> omega
        · exact .inr (.inl ⟨he, rfl, (err_ne he').1, (err_ne he').2⟩)
      · exact .inl (err_ne he)

set_option maxRecDepth 100000 in
theorem lifted (os : Os) (started : os.Started) (H : Type) (enc : TypeId × Value → H) :
    ReturnsInHanded {} Try.checked os 6 .any (Rows.muldivSignsSpec.pre6 enc Try.prog Try.f6 [] false) (Rows.muldivSignsSpec.post enc Try.prog Try.f6 false true false false) := by
  refine law_lift (C := Try.checked) own started (by kernel_rfl) Try.func6 laidOut rfl rfl Try.underlying4 (by kernel_rfl) ?_
    (ChangeSpec.witness6 (enc := enc) (C := Try.checked) false ⟨#[], #[.int .i64 0, .int .i64 0, .int .i64 0], []⟩ 8 (by kernel_rfl) (by kernel_rfl) (by kernel_rfl) (by kernel_rfl)) ?_
  · intro H ds h
    match ds, h with
    | [_, _, _], _ => rfl
  · intro W base args ds p hval hA hlt hwt hsh
    rw [Try.params6] at hA hval
    obtain ⟨v0, vs0, d0, ds0, p0, q0, hargs, rfl, rfl, h0, r0⟩ := trodAll_cons hA
    obtain ⟨v1, vs1, d1, ds1, p1, q1, rfl, rfl, rfl, h1, r1⟩ := trodAll_cons r0
    obtain ⟨v2, vs2, d2, ds2, p2, q2, rfl, rfl, rfl, h2, r2⟩ := trodAll_cons r1
    obtain ⟨rfl, rfl, rfl⟩ := trodAll_nil r2
    obtain rfl : args = #[v0, v1, v2] := by cases args; simp_all
    obtain ⟨a0, rfl, rfl, rfl, wf0⟩ := open_int Try.underlying3 (hval 0 3 v0 rfl rfl) h0
    obtain ⟨a1, rfl, rfl, rfl, wf1⟩ := open_int Try.underlying3 (hval 1 3 v1 rfl rfl) h1
    obtain ⟨a2, rfl, rfl, rfl, wf2⟩ := open_int Try.underlying3 (hval 2 3 v2 rfl rfl) h2
    exact walk a0 (bounds_i64 wf0) a1 (bounds_i64 wf1) a2 (bounds_i64 wf2) W 

theorem holds : Rows.MuldivSignsSaid :=
  OpenClaim.holds_of_wide 6 Try.f6 rfl rfl rfl rfl rfl rfl rfl ⟨rfl, rfl, rfl, rfl, rfl⟩ rfl rfl rfl rfl rfl (by kernel_rfl) Try.func6 (by kernel_rfl)
    (of_decide_eq_true (by kernel_rfl)) (by unfold Func.isWrapper; first | (rw [if_pos (by decide +kernel)]; kernel_rfl) | (rw [if_neg (by decide +kernel)]; exact ⟨rfl, rfl⟩))
    (fun os started H enc _ => lifted os started H enc)
end MuldivSigns
end Go.Proofs.Ytllajmggopgimaa

