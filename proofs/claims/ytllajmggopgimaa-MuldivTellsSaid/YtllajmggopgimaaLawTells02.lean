/- MuldivTells: any product over any number, floored, nearest, and what is left, is what the document says, or its error: for every input. -/
import Derived.Test.YtllajmggopgimaaRefC02
import Derived.OpenShut
namespace Go.Proofs.Ytllajmggopgimaa
open Go.ChangeShapes Go.WideShapes Go.ChangeAt Go.RowKit
namespace MuldivTells
open L02

theorem walk (a : Int) (_ : -9223372036854775808 ≤ a ∧ a ≤ 9223372036854775807) (b : Int) (_ : -9223372036854775808 ≤ b ∧ b ≤ 9223372036854775807) (c : Int) (_ : -9223372036854775808 ≤ c ∧ c ≤ 9223372036854775807) (w : World) :
    Calls Try.prog 3 #[.int .i64 a, .int .i64 b, .int .i64 c] w (Ret w (.bool true)) := by
  go_enter Try.func3, Try.ntmps3
  go_wp2_with fail
  refine (awake_any _).mono ?_; rintro e w1 ⟨rfl, x1⟩
  go_wp2_with fail
  refine (floor_any _ _ _ _).mono ?_; rintro e w2 ⟨rfl, x2⟩
  go_wp2_with fail
  refine (floor_ref _ _ _ _).mono ?_; rintro e w3 ⟨rfl, x3⟩
  go_wp2_with fail
  refine (nearest_any _ _ _ _).mono ?_; rintro e w4 ⟨rfl, x4⟩
  go_wp2_with fail
  refine (nearest_ref _ _ _ _).mono ?_; rintro e w5 ⟨rfl, x5⟩
  go_wp2_with fail
  refine (rest_any _ _ _ _).mono ?_; rintro e w6 ⟨rfl, x6⟩
  go_wp2_with fail
  refine (rest_ref _ _ _ _).mono ?_; rintro e w7 ⟨rfl, x7⟩
  go_wp2_with fail
  go_ret
  exact ⟨rfl, (((((x1.trans x2).trans x3).trans x4).trans x5).trans x6).trans x7⟩

set_option maxRecDepth 100000 in
theorem lifted (os : Os) (started : os.Started) (H : Type) (enc : TypeId × Value → H) :
    ReturnsInHanded {} Try.checked os 3 .any (Rows.muldivTellsSpec.pre6 enc Try.prog Try.f3 [] false) (Rows.muldivTellsSpec.post enc Try.prog Try.f3 false true false false) := by
  refine law_lift (C := Try.checked) own started (by kernel_rfl) Try.func3 laidOut rfl rfl Try.underlying4 (by kernel_rfl) ?_
    (ChangeSpec.witness6 (enc := enc) (C := Try.checked) false ⟨#[], #[.int .i64 0, .int .i64 0, .int .i64 0], []⟩ 8 (by kernel_rfl) (by kernel_rfl) (by kernel_rfl) (by kernel_rfl)) ?_
  · intro H ds h
    match ds, h with
    | [_, _, _], _ => rfl
  · intro W base args ds p hval hA hlt hwt hsh
    rw [Try.params3] at hA hval
    obtain ⟨v0, vs0, d0, ds0, p0, q0, hargs, rfl, rfl, h0, r0⟩ := trodAll_cons hA
    obtain ⟨v1, vs1, d1, ds1, p1, q1, rfl, rfl, rfl, h1, r1⟩ := trodAll_cons r0
    obtain ⟨v2, vs2, d2, ds2, p2, q2, rfl, rfl, rfl, h2, r2⟩ := trodAll_cons r1
    obtain ⟨rfl, rfl, rfl⟩ := trodAll_nil r2
    obtain rfl : args = #[v0, v1, v2] := by cases args; simp_all
    obtain ⟨a0, rfl, rfl, rfl, wf0⟩ := open_int Try.underlying3 (hval 0 3 v0 rfl rfl) h0
    obtain ⟨a1, rfl, rfl, rfl, wf1⟩ := open_int Try.underlying3 (hval 1 3 v1 rfl rfl) h1
    obtain ⟨a2, rfl, rfl, rfl, wf2⟩ := open_int Try.underlying3 (hval 2 3 v2 rfl rfl) h2
    exact walk a0 (bounds_i64 wf0) a1 (bounds_i64 wf1) a2 (bounds_i64 wf2) W 

theorem holds : Rows.MuldivTellsSaid :=
  OpenClaim.holds_of_wide 3 Try.f3 rfl rfl rfl rfl rfl rfl rfl ⟨rfl, rfl, rfl, rfl, rfl⟩ rfl rfl rfl rfl rfl (by kernel_rfl) Try.func3 (by kernel_rfl)
    (of_decide_eq_true (by kernel_rfl)) (by unfold Func.isWrapper; first | (rw [if_pos (by decide +kernel)]; kernel_rfl) | (rw [if_neg (by decide +kernel)]; exact ⟨rfl, rfl⟩))
    (fun os started H enc _ => lifted os started H enc)
end MuldivTells
end Go.Proofs.Ytllajmggopgimaa

