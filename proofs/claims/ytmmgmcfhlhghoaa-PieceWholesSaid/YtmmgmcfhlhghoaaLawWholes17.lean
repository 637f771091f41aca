/- PieceWholes: for every input. -/
import Derived.Test.YtmmgmcfhlhghoaaWholes17
import Derived.Test.YtmmgmcfhlhghoaaPieL17
import Derived.Test.YtmmgmcfhlhghoaaArgs17
import Derived.Test.YtmmgmcfhlhghoaaFrame
namespace Go.Proofs.Ytmmgmcfhlhghoaa
open Go.ChangeShapes Go.WideShapes Go.ChangeAt Go.RowKit Go.Deep
namespace PieceWholes
open L16 L17

theorem walk (A0 : Option Addr) (l0 : List RR) (c0 : Nat) (hc0 : ∀ x ∈ l0, ∀ y ∈ x.rs, y.ns.length ≤ y.c) (A1 : Option Addr) (l1 : List Brk) (c1 : Nat) (w : World) (hs0 : SeenRR w A0 l0) (hs1 : SeenK w A1 l1) :
    Calls Try.prog 4 #[.slice A0 l0.length c0, .slice A1 l1.length c1] w (Ret w (.bool true)) := all pie A0 l0 c0 A1 l1 c1 w hs0 hs1 hc0

set_option maxRecDepth 100000 in
theorem lifted (os : Os) (started : os.Started) (H : Type) (enc : TypeId × Value → H) :
    ReturnsInHanded {} Try.checked os 4 .any (Rows.pieceWholesSpec.pre6 enc Try.prog Try.f4 [] false) (Rows.pieceWholesSpec.post enc Try.prog Try.f4 false true false false) := by
  refine law_lift (C := Try.checked) own started (by kernel_rfl) Try.func4 laidOut rfl rfl Try.underlying4 (by kernel_rfl) ?_
    (ChangeSpec.witness6 (enc := enc) (C := Try.checked) false ⟨#[], #[.slice none 0 0, .slice none 0 0], []⟩ 8 (by kernel_rfl) (by kernel_rfl) (by kernel_rfl) (by kernel_rfl)) ?_
  · intro H ds h
    match ds, h with
    | [_, _], _ => rfl
  · intro W base args ds p hval hA hlt hwt hsh
    rw [Try.params4] at hA hval
    obtain ⟨v0, vs0, d0, ds0, p0, q0, hargs, rfl, rfl, h0, r0⟩ := trodAll_cons hA
    obtain ⟨v1, vs1, d1, ds1, p1, q1, rfl, rfl, rfl, h1, r1⟩ := trodAll_cons r0
    obtain ⟨rfl, rfl, rfl⟩ := trodAll_nil r1
    obtain rfl : args = #[v0, v1] := by cases args; simp_all
    obtain ⟨A0, l0, c0, rfl, hc0, hs0⟩ := arg_rows3 (hval 0 34 v0 rfl rfl) h0
    obtain ⟨A1, l1, c1, rfl, hs1⟩ := arg_brks (hval 1 35 v1 rfl rfl) h1
    exact walk A0 l0 c0 hc0 A1 l1 c1 W hs0 hs1

theorem holds : Rows.PieceWholesSaid :=
  OpenClaim.holds_of_wide 4 Try.f4 rfl rfl rfl rfl rfl rfl rfl ⟨rfl, rfl, rfl, rfl, rfl⟩ rfl rfl rfl rfl rfl (by kernel_rfl) Try.func4 (by kernel_rfl)
    (of_decide_eq_true (by kernel_rfl)) (by unfold Func.isWrapper; first | (rw [if_pos (by decide +kernel)]; kernel_rfl) | (rw [if_neg (by decide +kernel)]; exact ⟨rfl, rfl⟩))
    (fun os started H enc _ => lifted os started H enc)
end PieceWholes
end Go.Proofs.Ytmmgmcfhlhghoaa

