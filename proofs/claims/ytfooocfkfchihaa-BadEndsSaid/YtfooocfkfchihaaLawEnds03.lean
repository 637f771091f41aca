/- BadEnds: a line that is stretched by just what it has is as bad as 100, by less no worse, by more no less bad; without any of both it is not bad: for every input. -/
import Derived.Test.YtfooocfkfchihaaBadMath03
import Derived.OpenShut
namespace Go.Proofs.Ytfooocfkfchihaa
open Go.ChangeShapes Go.WideShapes Go.ChangeAt Go.RowKit
namespace BadEnds
open L03

theorem core (t s n r : Int)
    (c1 : ∀ w, Calls Try.prog 10 #[.int .i64 t, .int .i64 s] w (Ret w (.int .i64 n)))
    (c2 : ∀ w, Calls Try.prog 10 #[.int .i64 s, .int .i64 s] w (Ret w (.int .i64 r)))
    (h : (s ≤ 0 ∧ t ≤ 0 ∧ n = 0 ∧ r = 0) ∨ (s ≤ 0 ∧ 0 < t ∧ n = 10000 ∧ r = 0) ∨
      (0 < s ∧ r = 100 ∧ s < t ∧ 0 < t ∧ 100 ≤ n ∧ n ≤ 10000) ∨ (0 < s ∧ r = 100 ∧ t = s ∧ n = 100) ∨ (0 < s ∧ r = 100 ∧ t < s ∧ 0 < t ∧ 0 ≤ n ∧ n ≤ 100) ∨ (0 < s ∧ r = 100 ∧ t ≤ 0 ∧ n = 0)) (w : World) :
    Calls Try.prog 7 #[.int .i64 t, .int .i64 s] w (Ret w (.bool true)) := by
  have C1 := Lib.hid c1; have C2 := Lib.hid c2
  clear c1 c2
  rcases h with ⟨h1, h2, rfl, rfl⟩ | ⟨h1, h2, rfl, rfl⟩ | ⟨h1, rfl, h2, h3, h4, h5⟩ | ⟨h1, rfl, rfl, rfl⟩ | ⟨h1, rfl, h2, h3, h4, h5⟩ | ⟨h1, rfl, h2, rfl⟩
  all_goals
    go_enter Try.func7, Try.ntmps7
    go_wp2_with fail
    refine (awake_any _).mono ?_; rintro e w1 ⟨rfl, x1⟩
    go_wp2_with fail
    refine (C1.out _).mono ?_; rintro e w2 ⟨rfl, x2⟩
    go_wp2_with fail
    refine (C2.out _).mono ?_; rintro e w3 ⟨rfl, x3⟩
    go_wp2_with fail
    go_ret
    exact ⟨by first | rfl | (refine ret_bool ?_; simp; omega), (x1.trans x2).trans x3⟩

theorem walk (t : Int) (_ : -9223372036854775808 ≤ t ∧ t ≤ 9223372036854775807) (s : Int) (_ : -9223372036854775808 ≤ s ∧ s ≤ 9223372036854775807) (w : World) :
    Calls Try.prog 7 #[.int .i64 t, .int .i64 s] w (Ret w (.bool true)) := by
  refine core t s _ _ (bad_any t s) (bad_any s s) ?_ w
  have hb := bad_in t s
  by_cases h1 : s ≤ 0
  · have e := bad_zero s h1
    by_cases h2 : t ≤ 0
    · exact .inl ⟨h1, h2, bad_zero s h2, e⟩
    · exact .inr (.inl ⟨h1, by omega, bad_most (by omega) h1, e⟩)
  · have e := bad_self (s := s) (by omega)
    refine .inr (.inr ?_)
    rcases Int.lt_trichotomy t s with h2 | rfl | h2
    · have m := bad_mono_t s (show t ≤ s by omega)
      by_cases h3 : t ≤ 0
      · exact .inr (.inr (.inr ⟨by omega, e, h3, bad_zero s h3⟩))
      · exact .inr (.inr (.inl ⟨by omega, e, h2, by omega, hb.1, by omega⟩))
    · exact .inr (.inl ⟨by omega, e, rfl, e⟩)
    · have m := bad_mono_t s (show s ≤ t by omega)
      exact .inl ⟨by omega, e, h2, by omega, by omega, hb.2⟩

set_option maxRecDepth 100000 in
theorem lifted (os : Os) (started : os.Started) (H : Type) (enc : TypeId × Value → H) :
    ReturnsInHanded {} Try.checked os 7 .any (Rows.badEndsSpec.pre6 enc Try.prog Try.f7 [] false) (Rows.badEndsSpec.post enc Try.prog Try.f7 false true false false) := by
  refine law_lift (C := Try.checked) own started (by kernel_rfl) Try.func7 laidOut rfl rfl Try.underlying4 (by kernel_rfl) ?_
    (ChangeSpec.witness6 (enc := enc) (C := Try.checked) false ⟨#[], #[.int .i64 0, .int .i64 0], []⟩ 8 (by kernel_rfl) (by kernel_rfl) (by kernel_rfl) (by kernel_rfl)) ?_
  · intro H ds h
    match ds, h with
    | [_, _], _ => rfl
  · intro W base args ds p hval hA hlt hwt hsh
    rw [Try.params7] at hA hval
    obtain ⟨v0, vs0, d0, ds0, p0, q0, hargs, rfl, rfl, h0, r0⟩ := trodAll_cons hA
    obtain ⟨v1, vs1, d1, ds1, p1, q1, rfl, rfl, rfl, h1, r1⟩ := trodAll_cons r0
    obtain ⟨rfl, rfl, rfl⟩ := trodAll_nil r1
    obtain rfl : args = #[v0, v1] := by cases args; simp_all
    obtain ⟨a0, rfl, rfl, rfl, wf0⟩ := open_int Try.underlying3 (hval 0 3 v0 rfl rfl) h0
    obtain ⟨a1, rfl, rfl, rfl, wf1⟩ := open_int Try.underlying3 (hval 1 3 v1 rfl rfl) h1
    exact walk a0 (bounds_i64 wf0) a1 (bounds_i64 wf1) W 

theorem holds : Rows.BadEndsSaid :=
  OpenClaim.holds_of_wide 7 Try.f7 rfl rfl rfl rfl rfl rfl rfl ⟨rfl, rfl, rfl, rfl, rfl⟩ rfl rfl rfl rfl rfl (by kernel_rfl) Try.func7 (by kernel_rfl)
    (of_decide_eq_true (by kernel_rfl)) (by unfold Func.isWrapper; first | (rw [if_pos (by decide +kernel)]; kernel_rfl) | (rw [if_neg (by decide +kernel)]; exact ⟨rfl, rfl⟩))
    (fun os started H enc _ => lifted os started H enc)
end BadEnds
end Go.Proofs.Ytfooocfkfchihaa

