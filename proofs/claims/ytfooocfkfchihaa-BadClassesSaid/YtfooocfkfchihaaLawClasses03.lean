/- BadClasses: of two lines that are stretched the worse one is of no lesser class, and of two that shrink of no greater one; of lines that are hardly bad it does not matter which they are: for every input. -/
import Derived.Test.YtfooocfkfchihaaBadMath03
import Derived.OpenShut
namespace Go.Proofs.Ytfooocfkfchihaa
open Go.ChangeShapes Go.WideShapes Go.ChangeAt Go.RowKit
namespace BadClasses
open L03

theorem fit_grid (a : Int) : (a ≤ 12 ∧ fitI a false = 1 ∧ fitI a true = 1) ∨ (12 < a ∧ a ≤ 99 ∧ fitI a false = 2 ∧ fitI a true = 0) ∨ (99 < a ∧ fitI a false = 3 ∧ fitI a true = 0) := by
  unfold fitI
  by_cases h : a ≤ 12
  · simp [h]
  · by_cases h' : a ≤ 99
    · simp [h, h']; omega
    · simp [h, h']; omega

theorem core (a b x y p q : Int)
    (c1 : ∀ w, Calls Try.prog 12 #[.int .i64 a, .bool false] w fun e w' => e = .returned (.int .i64 x) ∧ w = w')
    (c2 : ∀ w, Calls Try.prog 12 #[.int .i64 b, .bool false] w fun e w' => e = .returned (.int .i64 y) ∧ w = w')
    (c3 : ∀ w, Calls Try.prog 12 #[.int .i64 a, .bool true] w fun e w' => e = .returned (.int .i64 p) ∧ w = w')
    (c4 : ∀ w, Calls Try.prog 12 #[.int .i64 b, .bool true] w fun e w' => e = .returned (.int .i64 q) ∧ w = w')
    (ha : (a ≤ 12 ∧ x = 1 ∧ p = 1) ∨ (12 < a ∧ a ≤ 99 ∧ x = 2 ∧ p = 0) ∨ (99 < a ∧ x = 3 ∧ p = 0))
    (hb : (b ≤ 12 ∧ y = 1 ∧ q = 1) ∨ (12 < b ∧ b ≤ 99 ∧ y = 2 ∧ q = 0) ∨ (99 < b ∧ y = 3 ∧ q = 0)) (w : World) :
    Calls Try.prog 8 #[.int .i64 a, .int .i64 b] w (Ret w (.bool true)) := by
  have C1 := Lib.hid c1; have C2 := Lib.hid c2; have C3 := Lib.hid c3; have C4 := Lib.hid c4
  clear c1 c2 c3 c4
  rcases Int.lt_trichotomy a b with hab | hab | hab
  rotate_left
  · subst hab
    rcases ha with ⟨h1, rfl, rfl⟩ | ⟨h1, h2, rfl, rfl⟩ | ⟨h1, rfl, rfl⟩ <;> rcases hb with ⟨k1, rfl, rfl⟩ | ⟨k1, k2, rfl, rfl⟩ | ⟨k1, rfl, rfl⟩ <;> try (exfalso; omega)
    all_goals
      go_enter Try.func8, Try.ntmps8
      go_wp2_with fail
      refine (awake_any _).mono ?_; rintro e w1 ⟨rfl, x1⟩
      go_wp2_with fail
      iterate 6
        first | (with_reducible refine (C1.out _).mono ?_) | (with_reducible refine (C2.out _).mono ?_) | (with_reducible refine (C3.out _).mono ?_) | (with_reducible refine (C4.out _).mono ?_)
        rintro e w4 ⟨rfl, rfl⟩
        go_wp2_with fail
      go_ret
      exact ⟨by first | rfl | (refine ret_bool ?_; simp; omega), x1⟩
  all_goals
    rcases ha with ⟨h1, rfl, rfl⟩ | ⟨h1, h2, rfl, rfl⟩ | ⟨h1, rfl, rfl⟩ <;> rcases hb with ⟨k1, rfl, rfl⟩ | ⟨k1, k2, rfl, rfl⟩ | ⟨k1, rfl, rfl⟩ <;> try (exfalso; omega)
    all_goals
      go_enter Try.func8, Try.ntmps8
      go_wp2_with fail
      refine (awake_any _).mono ?_; rintro e w1 ⟨rfl, x1⟩
      go_wp2_with fail
      iterate 6
        first | (with_reducible refine (C1.out _).mono ?_) | (with_reducible refine (C2.out _).mono ?_) | (with_reducible refine (C3.out _).mono ?_) | (with_reducible refine (C4.out _).mono ?_)
        rintro e w4 ⟨rfl, rfl⟩
        go_wp2_with fail
      go_ret
      exact ⟨by first | rfl | (refine ret_bool ?_; simp; omega), x1⟩

theorem walk (a : Int) (_ : -9223372036854775808 ≤ a ∧ a ≤ 9223372036854775807) (b : Int) (_ : -9223372036854775808 ≤ b ∧ b ≤ 9223372036854775807) (w : World) :
    Calls Try.prog 8 #[.int .i64 a, .int .i64 b] w (Ret w (.bool true)) :=
  core a b _ _ _ _ (fit_any a false) (fit_any b false) (fit_any a true) (fit_any b true) (fit_grid a) (fit_grid b) w

set_option maxRecDepth 100000 in
theorem lifted (os : Os) (started : os.Started) (H : Type) (enc : TypeId × Value → H) :
    ReturnsInHanded {} Try.checked os 8 .any (Rows.badClassesSpec.pre6 enc Try.prog Try.f8 [] false) (Rows.badClassesSpec.post enc Try.prog Try.f8 false true false false) := by
  refine law_lift (C := Try.checked) own started (by kernel_rfl) Try.func8 laidOut rfl rfl Try.underlying4 (by kernel_rfl) ?_
    (ChangeSpec.witness6 (enc := enc) (C := Try.checked) false ⟨#[], #[.int .i64 0, .int .i64 0], []⟩ 8 (by kernel_rfl) (by kernel_rfl) (by kernel_rfl) (by kernel_rfl)) ?_
  · intro H ds h
    match ds, h with
    | [_, _], _ => rfl
  · intro W base args ds p hval hA hlt hwt hsh
    rw [Try.params8] at hA hval
    obtain ⟨v0, vs0, d0, ds0, p0, q0, hargs, rfl, rfl, h0, r0⟩ := trodAll_cons hA
    obtain ⟨v1, vs1, d1, ds1, p1, q1, rfl, rfl, rfl, h1, r1⟩ := trodAll_cons r0
    obtain ⟨rfl, rfl, rfl⟩ := trodAll_nil r1
    obtain rfl : args = #[v0, v1] := by cases args; simp_all
    obtain ⟨a0, rfl, rfl, rfl, wf0⟩ := open_int Try.underlying3 (hval 0 3 v0 rfl rfl) h0
    obtain ⟨a1, rfl, rfl, rfl, wf1⟩ := open_int Try.underlying3 (hval 1 3 v1 rfl rfl) h1
    exact walk a0 (bounds_i64 wf0) a1 (bounds_i64 wf1) W 

theorem holds : Rows.BadClassesSaid :=
  OpenClaim.holds_of_wide 8 Try.f8 rfl rfl rfl rfl rfl rfl rfl ⟨rfl, rfl, rfl, rfl, rfl⟩ rfl rfl rfl rfl rfl (by kernel_rfl) Try.func8 (by kernel_rfl)
    (of_decide_eq_true (by kernel_rfl)) (by unfold Func.isWrapper; first | (rw [if_pos (by decide +kernel)]; kernel_rfl) | (rw [if_neg (by decide +kernel)]; exact ⟨rfl, rfl⟩))
    (fun os started H enc _ => lifted os started H enc)
end BadClasses
end Go.Proofs.Ytfooocfkfchihaa

