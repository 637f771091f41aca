/- PieceJoins: for every input. -/
import Derived.Test.YtmmgmcfhlhghoaaJoins17
import Derived.Test.YtmmgmcfhlhghoaaPieL17
import Derived.Test.YtmmgmcfhlhghoaaFrame
import Derived.Test.YtmmgmcfhlhghoaaWords13
import Derived.Test.YtmmgmcfhlhghoaaBef16
namespace Go.Proofs.Ytmmgmcfhlhghoaa
open Go.ChangeShapes Go.WideShapes Go.ChangeAt Go.RowKit Go.Deep
namespace PieceJoins
open L13 L16 L17

def WideB (b : Brk) : Prop := (-9223372036854775808 ≤ b.1 ∧ b.1 ≤ 9223372036854775807) ∧ (-9223372036854775808 ≤ b.2.1 ∧ b.2.1 ≤ 9223372036854775807) ∧ -9223372036854775808 ≤ b.2.2 ∧ b.2.2 ≤ 9223372036854775807
theorem walk (A0 : Option Addr) (l0 : List CW) (c0 : Nat) (hc0 : l0.length ≤ c0) (hm0 : c0 ≤ maxLen) (ok0 : ∀ x ∈ l0, x.Ok) (b1 : Brk) (_ : WideB b1) (b2 : Brk) (_ : WideB b2) (b3 : Brk) (_ : WideB b3) (w : World) (hs0 : SeenC w A0 l0) :
    Calls Try.prog 5 #[.slice A0 l0.length c0, brkV b1, brkV b2, brkV b3] w (Ret w (.bool true)) := all pie A0 l0 c0 hc0 hm0 ok0 b1 b2 b3 w hs0

set_option maxRecDepth 100000 in
theorem lifted (os : Os) (started : os.Started) (H : Type) (enc : TypeId × Value → H) :
    ReturnsInHanded {} Try.checked os 5 .any (Rows.pieceJoinsSpec.pre6 enc Try.prog Try.f5 [] false) (Rows.pieceJoinsSpec.post enc Try.prog Try.f5 false true false false) := by
  refine law_lift (C := Try.checked) own started (by kernel_rfl) Try.func5 laidOut rfl rfl Try.underlying4 (by kernel_rfl) ?_
    (ChangeSpec.witness6 (enc := enc) (C := Try.checked) false ⟨#[], #[.slice none 0 0, .agg #[.int .i64 0, .int .i64 0, .int .i64 0], .agg #[.int .i64 0, .int .i64 0, .int .i64 0], .agg #[.int .i64 0, .int .i64 0, .int .i64 0]], []⟩ 8 (by kernel_rfl) (by kernel_rfl) (by kernel_rfl) (by kernel_rfl)) ?_
  · intro H ds h
    match ds, h with
    | [_, _, _, _], _ => rfl
  · intro W base args ds p hval hA hlt hwt hsh
    rw [Try.params5] at hA hval
    obtain ⟨v0, vs0, d0, ds0, p0, q0, hargs, rfl, rfl, h0, r0⟩ := trodAll_cons hA
    obtain ⟨v1, vs1, d1, ds1, p1, q1, rfl, rfl, rfl, h1, r1⟩ := trodAll_cons r0
    obtain ⟨v2, vs2, d2, ds2, p2, q2, rfl, rfl, rfl, h2, r2⟩ := trodAll_cons r1
    obtain ⟨v3, vs3, d3, ds3, p3, q3, rfl, rfl, rfl, h3, r3⟩ := trodAll_cons r2
    obtain ⟨rfl, rfl, rfl⟩ := trodAll_nil r3
    obtain rfl : args = #[v0, v1, v2, v3] := by cases args; simp_all
    obtain ⟨A0, l0, c0, rfl, hc0, hm0, ok0, hs0⟩ := arg_words (hval 0 22 v0 rfl rfl) h0
    obtain ⟨b1, rfl, ok1⟩ := L16.arg_brk (hval 1 24 v1 rfl rfl) h1
    obtain ⟨b2, rfl, ok2⟩ := L16.arg_brk (hval 2 24 v2 rfl rfl) h2
    obtain ⟨b3, rfl, ok3⟩ := L16.arg_brk (hval 3 24 v3 rfl rfl) h3
    exact walk A0 l0 c0 hc0 hm0 ok0 b1 ok1 b2 ok2 b3 ok3 W hs0

theorem holds : Rows.PieceJoinsSaid :=
  OpenClaim.holds_of_wide 5 Try.f5 rfl rfl rfl rfl rfl rfl rfl ⟨rfl, rfl, rfl, rfl, rfl⟩ rfl rfl rfl rfl rfl (by kernel_rfl) Try.func5 (by kernel_rfl)
    (of_decide_eq_true (by kernel_rfl)) (by unfold Func.isWrapper; first | (rw [if_pos (by decide +kernel)]; kernel_rfl) | (rw [if_neg (by decide +kernel)]; exact ⟨rfl, rfl⟩))
    (fun os started H enc _ => lifted os started H enc)
end PieceJoins
end Go.Proofs.Ytmmgmcfhlhghoaa

