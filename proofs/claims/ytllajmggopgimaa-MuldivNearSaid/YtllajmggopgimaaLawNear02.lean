/- MuldivNear: the nearest number is the floor, or 1 more, just by whether twice the rest is at least the number that it is over: for every input. -/
import Derived.Test.YtllajmggopgimaaMulB02
import Derived.OpenShut
namespace Go.Proofs.Ytllajmggopgimaa
open Go.ChangeShapes Go.WideShapes Go.ChangeAt Go.RowKit
namespace MuldivNear
open L02

theorem core (a b c n e q f r g : Int)
    (c1 : ∀ w, Calls Try.prog 13 #[.int .i64 a, .int .i64 b, .int .i64 c] w (Ret w (.tuple #[.int .i64 n, .int .i64 e])))
    (c2 : ∀ w, Calls Try.prog 11 #[.int .i64 a, .int .i64 b, .int .i64 c] w (Ret w (.tuple #[.int .i64 q, .int .i64 f])))
    (c3 : ∀ w, Calls Try.prog 15 #[.int .i64 a, .int .i64 b, .int .i64 c] w (Ret w (.tuple #[.int .i64 r, .int .i64 g])))
    (o : (e = 0 ∧ f = 0 ∧ g = 0 ∧ n = q + (if c ≤ 2 * r then 1 else 0) ∧ 0 ≤ r ∧ r < c ∧ c ≤ 4611686018427387903 ∧ -4611686018427387903 ≤ q ∧ q ≤ 4611686018427387903) ∨
      ((e == 0) = false ∧ (e != 0) = true ∧ n = 0) ∨ (e = 0 ∧ (f == 0) = false ∧ (f != 0) = true ∧ q = 0)) (w : World) :
    Calls Try.prog 8 #[.int .i64 a, .int .i64 b, .int .i64 c] w (Ret w (.bool true)) := by
  have C1 := Lib.hid c1; have C2 := Lib.hid c2; have C3 := Lib.hid c3
  clear c1 c2 c3
  rcases o with ⟨rfl, rfl, rfl, rfl, h1, h2, h3, h4, h5⟩ | ⟨h1, h2, rfl⟩ | ⟨rfl, h1, h2, rfl⟩
  · by_cases h : c ≤ 2 * r
    · rw [if_pos h] at C1
      go_enter Try.func8, Try.ntmps8
      go_wp2_with fail
      refine (awake_any _).mono ?_; rintro e w1 ⟨rfl, x1⟩
      go_wp2_with fail
      refine (C1.out _).mono ?_; rintro e w2 ⟨rfl, x2⟩
      go_wp2_with fail
      refine (C2.out _).mono ?_; rintro e w3 ⟨rfl, x3⟩
      go_wp2_with fail
      refine (C3.out _).mono ?_; rintro e w4 ⟨rfl, x4⟩
      go_wp2_with fail
      go_ret
      exact ⟨rfl, ((x1.trans x2).trans x3).trans x4⟩
    · rw [if_neg h, Int.add_zero] at C1
      go_enter Try.func8, Try.ntmps8
      go_wp2_with fail
      refine (awake_any _).mono ?_; rintro e w1 ⟨rfl, x1⟩
      go_wp2_with fail
      refine (C1.out _).mono ?_; rintro e w2 ⟨rfl, x2⟩
      go_wp2_with fail
      refine (C2.out _).mono ?_; rintro e w3 ⟨rfl, x3⟩
      go_wp2_with fail
      refine (C3.out _).mono ?_; rintro e w4 ⟨rfl, x4⟩
      go_wp2_with fail
      go_ret
      exact ⟨rfl, ((x1.trans x2).trans x3).trans x4⟩
  all_goals
    go_enter Try.func8, Try.ntmps8
    go_wp2_with fail
    refine (awake_any _).mono ?_; rintro e w1 ⟨rfl, x1⟩
    go_wp2_with fail
    refine (C1.out _).mono ?_; rintro e w2 ⟨rfl, x2⟩
    go_wp2_with fail
    refine (C2.out _).mono ?_; rintro e w3 ⟨rfl, x3⟩
    go_wp2_with fail
    refine (C3.out _).mono ?_; rintro e w4 ⟨rfl, x4⟩
    go_wp2_with fail
    go_ret
    exact ⟨rfl, ((x1.trans x2).trans x3).trans x4⟩

theorem walk (a : Int) (_ : -9223372036854775808 ≤ a ∧ a ≤ 9223372036854775807) (b : Int) (_ : -9223372036854775808 ≤ b ∧ b ≤ 9223372036854775807) (c : Int) (_ : -9223372036854775808 ≤ c ∧ c ≤ 9223372036854775807) (w : World) :
    Calls Try.prog 8 #[.int .i64 a, .int .i64 b, .int .i64 c] w (Ret w (.bool true)) := by
  refine core a b c _ _ _ _ _ _ (nearest_any a b c) (floor_any a b c) (rest_any a b c) ?_ w
  rcases kept_cases (mayB a b c) (a * b / c + up a b c) with ⟨hm, hf, hv, he⟩ | ⟨hv, he, _⟩
  · rcases kept_cases (mayB a b c) (a * b / c) with ⟨_, hf', hv', he'⟩ | ⟨hv', he', _⟩
    · have hc := (mayB_iff.1 hm).2.2
      have hq := fitB_iff.1 hf'
      have hr := rest_yes hm
      refine .inl ⟨he, he', hr.2, ?_, ?_, ?_, hc.2, ?_, ?_⟩
      · rw [hv, hv', hr.1]; rfl
      · rw [hr.1]; exact Int.emod_nonneg _ (by omega)
      · rw [hr.1]; exact Int.emod_lt_of_pos _ (by omega)
      · rw [hv']; exact hq.1
      · rw [hv']; exact hq.2
    · exact .inr (.inr ⟨he, (err_ne he').1, (err_ne he').2, hv'⟩)
  · exact .inr (.inl ⟨(err_ne he).1, (err_ne he).2, hv⟩)

set_option maxRecDepth 100000 in
theorem lifted (os : Os) (started : os.Started) (H : Type) (enc : TypeId × Value → H) :
    ReturnsInHanded {} Try.checked os 8 .any (Rows.muldivNearSpec.pre6 enc Try.prog Try.f8 [] false) (Rows.muldivNearSpec.post enc Try.prog Try.f8 false true false false) := by
  refine law_lift (C := Try.checked) own started (by kernel_rfl) Try.func8 laidOut rfl rfl Try.underlying4 (by kernel_rfl) ?_
    (ChangeSpec.witness6 (enc := enc) (C := Try.checked) false ⟨#[], #[.int .i64 0, .int .i64 0, .int .i64 0], []⟩ 8 (by kernel_rfl) (by kernel_rfl) (by kernel_rfl) (by kernel_rfl)) ?_
  · intro H ds h
    match ds, h with
    | [_, _, _], _ => rfl
  · intro W base args ds p hval hA hlt hwt hsh
    rw [Try.params8] at hA hval
    obtain ⟨v0, vs0, d0, ds0, p0, q0, hargs, rfl, rfl, h0, r0⟩ := trodAll_cons hA
    obtain ⟨v1, vs1, d1, ds1, p1, q1, rfl, rfl, rfl, h1, r1⟩ := trodAll_cons r0
    obtain ⟨v2, vs2, d2, ds2, p2, q2, rfl, rfl, rfl, h2, r2⟩ := trodAll_cons r1
    obtain ⟨rfl, rfl, rfl⟩ := trodAll_nil r2
    obtain rfl : args = #[v0, v1, v2] := by cases args; simp_all
    obtain ⟨a0, rfl, rfl, rfl, wf0⟩ := open_int Try.underlying3 (hval 0 3 v0 rfl rfl) h0
    obtain ⟨a1, rfl, rfl, rfl, wf1⟩ := open_int Try.underlying3 (hval 1 3 v1 rfl rfl) h1
    obtain ⟨a2, rfl, rfl, rfl, wf2⟩ := open_int Try.underlying3 (hval 2 3 v2 rfl rfl) h2
    exact walk a0 (bounds_i64 wf0) a1 (bounds_i64 wf1) a2 (bounds_i64 wf2) W 

theorem holds : Rows.MuldivNearSaid :=
  OpenClaim.holds_of_wide 8 Try.f8 rfl rfl rfl rfl rfl rfl rfl ⟨rfl, rfl, rfl, rfl, rfl⟩ rfl rfl rfl rfl rfl (by kernel_rfl) Try.func8 (by kernel_rfl)
    (of_decide_eq_true (by kernel_rfl)) (by unfold Func.isWrapper; first | (rw [if_pos (by decide +kernel)]; kernel_rfl) | (rw [if_neg (by decide +kernel)]; exact ⟨rfl, rfl⟩))
    (fun os started H enc _ => lifted os started H enc)
end MuldivNear
end Go.Proofs.Ytllajmggopgimaa

