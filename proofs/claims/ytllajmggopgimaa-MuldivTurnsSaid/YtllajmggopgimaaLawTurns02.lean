/- MuldivTurns: it does not matter which factor is first, and a product over one of its factors is the other one: for every input. -/
import Derived.Test.YtllajmggopgimaaMulB02
import Derived.OpenShut
namespace Go.Proofs.Ytllajmggopgimaa
open Go.ChangeShapes Go.WideShapes Go.ChangeAt Go.RowKit
namespace MuldivTurns
open L02

theorem may_turn (a b c : Int) : mayB b a c = mayB a b c := by unfold mayB; rw [Bool.and_comm (fitB b)]
theorem up_turn (a b c : Int) : up b a c = up a b c := by unfold up; rw [Int.mul_comm b a]

theorem core (a b c m e p g x i y j : Int)
    (c1 : ∀ w, Calls Try.prog 11 #[.int .i64 a, .int .i64 b, .int .i64 c] w (Ret w (.tuple #[.int .i64 m, .int .i64 e])))
    (c2 : ∀ w, Calls Try.prog 11 #[.int .i64 b, .int .i64 a, .int .i64 c] w (Ret w (.tuple #[.int .i64 m, .int .i64 e])))
    (c3 : ∀ w, Calls Try.prog 13 #[.int .i64 a, .int .i64 b, .int .i64 c] w (Ret w (.tuple #[.int .i64 p, .int .i64 g])))
    (c4 : ∀ w, Calls Try.prog 13 #[.int .i64 b, .int .i64 a, .int .i64 c] w (Ret w (.tuple #[.int .i64 p, .int .i64 g])))
    (c5 : ∀ w, Calls Try.prog 11 #[.int .i64 a, .int .i64 c, .int .i64 c] w (Ret w (.tuple #[.int .i64 x, .int .i64 i])))
    (c6 : ∀ w, Calls Try.prog 15 #[.int .i64 a, .int .i64 c, .int .i64 c] w (Ret w (.tuple #[.int .i64 y, .int .i64 j])))
    (o : (i = 0 ∧ x = a ∧ y = 0 ∧ j = 0) ∨ ((i == 0) = false ∧ (i != 0) = true)) (w : World) :
    Calls Try.prog 5 #[.int .i64 a, .int .i64 b, .int .i64 c] w (Ret w (.bool true)) := by
  have C1 := Lib.hid c1; have C2 := Lib.hid c2; have C3 := Lib.hid c3; have C4 := Lib.hid c4; have C5 := Lib.hid c5; have C6 := Lib.hid c6
  clear c1 c2 c3 c4 c5 c6
  rcases o with ⟨rfl, rfl, rfl, rfl⟩ | ⟨h1, h2⟩
  all_goals
    go_enter Try.func5, Try.ntmps5
    go_wp2_with fail
    refine (awake_any _).mono ?_; rintro e w1 ⟨rfl, x1⟩
    go_wp2_with fail
    refine (C1.out _).mono ?_; rintro e w2 ⟨rfl, x2⟩
    go_wp2_with fail
    refine (C2.out _).mono ?_; rintro e w3 ⟨rfl, x3⟩
    go_wp2_with fail
    refine (C3.out _).mono ?_; rintro e w4 ⟨rfl, x4⟩
    go_wp2_with fail
    refine (C4.out _).mono ?_; rintro e w5 ⟨rfl, x5⟩
    go_wp2_with fail
    refine (C5.out _).mono ?_; rintro e w6 ⟨rfl, x6⟩
    go_wp2_with fail
    refine (C6.out _).mono ?_; rintro e w7 ⟨rfl, x7⟩
    go_wp2_with fail
    go_ret
    exact ⟨rfl, (((((x1.trans x2).trans x3).trans x4).trans x5).trans x6).trans x7⟩

theorem walk (a : Int) (_ : -9223372036854775808 ≤ a ∧ a ≤ 9223372036854775807) (b : Int) (_ : -9223372036854775808 ≤ b ∧ b ≤ 9223372036854775807) (c : Int) (_ : -9223372036854775808 ≤ c ∧ c ≤ 9223372036854775807) (w : World) :
    Calls Try.prog 5 #[.int .i64 a, .int .i64 b, .int .i64 c] w (Ret w (.bool true)) := by
  refine core a b c _ _ _ _ _ _ _ _ (floor_any a b c) (fun w => ?_) (nearest_any a b c) (fun w => ?_) (floor_any a c c) (rest_any a c c) ?_ w
  · have h := floor_any b a c w
    rw [may_turn, Int.mul_comm b a] at h; exact h
  · have h := nearest_any b a c w
    rw [may_turn, up_turn, Int.mul_comm b a] at h; exact h
  · rcases kept_cases (mayB a c c) (a * c / c) with ⟨hm, hf, hv, he⟩ | ⟨_, he, _⟩
    · have hc : c ≠ 0 := by have := mayB_iff.1 hm; omega
      exact .inl ⟨he, by rw [hv, Int.mul_ediv_cancel _ hc], by rw [(rest_yes hm).1, Int.mul_emod_left], (rest_yes hm).2⟩
    · exact .inr (err_ne he)

set_option maxRecDepth 100000 in
theorem lifted (os : Os) (started : os.Started) (H : Type) (enc : TypeId × Value → H) :
    ReturnsInHanded {} Try.checked os 5 .any (Rows.muldivTurnsSpec.pre6 enc Try.prog Try.f5 [] false) (Rows.muldivTurnsSpec.post enc Try.prog Try.f5 false true false false) := by
  refine law_lift (C := Try.checked) own started (by kernel_rfl) Try.func5 laidOut rfl rfl Try.underlying4 (by kernel_rfl) ?_
    (ChangeSpec.witness6 (enc := enc) (C := Try.checked) false ⟨#[], #[.int .i64 0, .int .i64 0, .int .i64 0], []⟩ 8 (by kernel_rfl) (by kernel_rfl) (by kernel_rfl) (by kernel_rfl)) ?_
  · intro H ds h
    match ds, h with
    | [_, _, _], _ => rfl
  · intro W base args ds p hval hA hlt hwt hsh
    rw [Try.params5] at hA hval
    obtain ⟨v0, vs0, d0, ds0, p0, q0, hargs, rfl, rfl, h0, r0⟩ := trodAll_cons hA
    obtain ⟨v1, vs1, d1, ds1, p1, q1, rfl, rfl, rfl, h1, r1⟩ := trodAll_cons r0
    obtain ⟨v2, vs2, d2, ds2, p2, q2, rfl, rfl, rfl, h2, r2⟩ := trodAll_cons r1
    obtain ⟨rfl, rfl, rfl⟩ := trodAll_nil r2
    obtain rfl : args = #[v0, v1, v2] := by cases args; simp_all
    obtain ⟨a0, rfl, rfl, rfl, wf0⟩ := open_int Try.underlying3 (hval 0 3 v0 rfl rfl) h0
    obtain ⟨a1, rfl, rfl, rfl, wf1⟩ := open_int Try.underlying3 (hval 1 3 v1 rfl rfl) h1
    obtain ⟨a2, rfl, rfl, rfl, wf2⟩ := open_int Try.underlying3 (hval 2 3 v2 rfl rfl) h2
    exact walk a0 (bounds_i64 wf0) a1 (bounds_i64 wf1) a2 (bounds_i64 wf2) W 

theorem holds : Rows.MuldivTurnsSaid :=
  OpenClaim.holds_of_wide 5 Try.f5 rfl rfl rfl rfl rfl rfl rfl ⟨rfl, rfl, rfl, rfl, rfl⟩ rfl rfl rfl rfl rfl (by kernel_rfl) Try.func5 (by kernel_rfl)
    (of_decide_eq_true (by kernel_rfl)) (by unfold Func.isWrapper; first | (rw [if_pos (by decide +kernel)]; kernel_rfl) | (rw [if_neg (by decide +kernel)]; exact ⟨rfl, rfl⟩))
    (fun os started H enc _ => lifted os started H enc)
end MuldivTurns
end Go.Proofs.Ytllajmggopgimaa

