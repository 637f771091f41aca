/- ScaledTells: whether any number is a dimension, and any two's sum, difference and product, are what the document says, or its error: for every input. -/
import Derived.Test.YtljlafihifpnkaaSum01
namespace Go.Proofs.Ytljlafihifpnkaa
open Go.ChangeShapes Go.WideShapes Go.ChangeAt Go.RowKit
namespace ScaledTells

theorem walk (a b : Int) (w : World) : Calls Try.prog 3 #[.int .i64 a, .int .i64 b] w (Ret w (.bool true)) := by
  go_enter Try.func3, Try.ntmps3
  go_wp2_with fail
  refine (awake_any _).mono ?_; rintro e w1 ⟨rfl, x1⟩
  go_wp2_with fail
  refine (add_any _ _ _).mono ?_; rintro e w2 ⟨rfl, x2⟩
  go_wp2_with fail
  refine (radd_any _ _ _).mono ?_; rintro e w3 ⟨rfl, x3⟩
  go_wp2_with fail
  refine (sub_any _ _ _).mono ?_; rintro e w4 ⟨rfl, x4⟩
  go_wp2_with fail
  refine (rsub_any _ _ _).mono ?_; rintro e w5 ⟨rfl, x5⟩
  go_wp2_with fail
  refine (times_any _ _ _).mono ?_; rintro e w6 ⟨rfl, x6⟩
  go_wp2_with fail
  refine (rtimes_any _ _ _).mono ?_; rintro e w7 ⟨rfl, x7⟩
  go_wp2_with (first | (go_at_call 15; refine (check_any _ _).mono ?_; rintro e w' ⟨rfl, rfl⟩) | (go_at_call 16; refine (rcheck_any _ _).mono ?_; rintro e w' ⟨rfl, rfl⟩))
  go_ret
  exact ⟨rfl, (((((x1.trans x2).trans x3).trans x4).trans x5).trans x6).trans x7⟩

set_option maxRecDepth 100000 in
theorem lifted (os : Os) (started : os.Started) (H : Type) (enc : TypeId × Value → H) :
    ReturnsInHanded {} Try.checked os 3 .any (Rows.scaledTellsSpec.pre6 enc Try.prog Try.f3 [] false) (Rows.scaledTellsSpec.post enc Try.prog Try.f3 false true false false) := by
  refine law_lift (C := Try.checked) own started (by kernel_rfl) Try.func3 laidOut rfl rfl Try.underlying4 (by kernel_rfl) ?_
    (ChangeSpec.witness6 (enc := enc) (C := Try.checked) false ⟨#[], #[.int .i64 0, .int .i64 0], []⟩ 8 (by kernel_rfl) (by kernel_rfl) (by kernel_rfl) (by kernel_rfl)) ?_
  · intro H ds h
    match ds, h with
    | [_, _], _ => rfl
  · intro W base args ds p hval hA _ _ _
    rw [Try.params3] at hA hval
    obtain ⟨v0, v1, d0, d1, p0, p1, rfl, rfl, rfl, h0, h1⟩ := trodAll_two hA
    obtain ⟨a, rfl, rfl, rfl, _⟩ := open_int Try.underlying3 (hval 0 3 v0 rfl rfl) h0
    obtain ⟨b, rfl, rfl, rfl, _⟩ := open_int Try.underlying3 (hval 1 3 v1 rfl rfl) h1
    exact walk a b W

theorem holds : Rows.ScaledTellsSaid :=
  OpenClaim.holds_of_wide 3 Try.f3 rfl rfl rfl rfl rfl rfl rfl ⟨rfl, rfl, rfl, rfl, rfl⟩ rfl rfl rfl rfl rfl (by kernel_rfl) Try.func3 (by kernel_rfl)
    (of_decide_eq_true (by kernel_rfl)) (by unfold Func.isWrapper; first | (rw [if_pos (by decide +kernel)]; kernel_rfl) | (rw [if_neg (by decide +kernel)]; exact ⟨rfl, rfl⟩))
    (fun os started H enc _ => lifted os started H enc)
end ScaledTells
end Go.Proofs.Ytljlafihifpnkaa
