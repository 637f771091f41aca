/- PieceBack: for every input. -/
import Derived.Test.YtmmgmcfhlhghoaaGreatDoorBack17
import Derived.Test.YtmmgmcfhlhghoaaGreatDoorPrs16
import Derived.Test.YtmmgmcfhlhghoaaGreatDoorPieL17
import Derived.Test.YtmmgmcfhlhghoaaGreatDoorGF16
import Derived.Test.YtmmgmcfhlhghoaaGreatDoorGG16
import Derived.ChangeMaps5
namespace Go.Proofs.YtmmgmcfhlhghoaaGreatDoor
open Go.ChangeShapes Go.WideShapes Go.ChangeAt Go.RowKit Go.Deep
namespace PieceBack
open L14 L16 L17

theorem walk (D0 : PatsD) (P0 : PatsP) (ok0 : PatsOk D0 P0) (A1 : Option Addr) (l1 : List CW) (c1 : Nat) (hc1 : l1.length ≤ c1) (hm1 : c1 ≤ maxLen) (ok1 : ∀ x ∈ l1, x.Ok) (a2 : Int) (_ : 0 ≤ a2 ∧ a2 ≤ 18446744073709551615) (w : World) (hs0 : SeenPats w D0 P0) (hs1 : SeenC w A1 l1) (hT : Home w) :
    Calls Tryz.prog 3 #[patsV D0 P0, .slice A1 l1.length c1, .int .u64 a2] w (Ret w (.bool true)) := all par pie D0 P0 ok0 A1 l1 c1 hc1 hm1 ok1 a2 w hs0 hs1 hT

set_option maxRecDepth 100000 in
theorem lifted (os : Os) (started : os.Started) (H : Type) (enc : TypeId × Value → H) :
    ReturnsInHanded {} Tryz.checked os 3 .any (fun w args => (Rows.pieceBackSpec.pre enc Tryz.prog Tryz.f3 [] false w args ∧ laidMetH Tryz.prog doorLaid w) ∧ sizedMet enc Tryz.prog Tryz.f3 (OpenSpec.ofChange Rows.pieceBackSpec) false w args)
      (Rows.pieceBackSpec.post enc Tryz.prog Tryz.f3 false true false false) := by
  refine law_liftH started (by kernel_rfl) Tryz.func3 rfl rfl Tryz.underlying4 (by kernel_rfl) ?_
    (ChangeSpec.witness_shaped (enc := enc) (C := Tryz.checked) (os := os) (X := fun w _ => laidMetH Tryz.prog doorLaid w) false (World.laidAll Tryz.prog os doorLaid) #[.agg #[.slice none 0 0, .slice none 0 0], .slice none 0 0, .int .u64 0] 8 (World.laidAll_os _ _ _)
      (World.shaped_of_ZipB (by kernel_rfl) (by kernel_rfl)) (by kernel_rfl) (by kernel_rfl) (by kernel_rfl) (laidStart os _)) ?_
  · intro H ds h
    match ds, h with
    | [_, _, _], _ => rfl
  · intro W base args ds p hval hA hlt hT
    rw [Tryz.params3] at hA hval
    obtain ⟨v0, vs0, d0, ds0, p0, q0, hargs, rfl, rfl, h0, r0⟩ := trodAll_cons hA
    obtain ⟨v1, vs1, d1, ds1, p1, q1, rfl, rfl, rfl, h1, r1⟩ := trodAll_cons r0
    obtain ⟨v2, vs2, d2, ds2, p2, q2, rfl, rfl, rfl, h2, r2⟩ := trodAll_cons r1
    obtain ⟨rfl, rfl, rfl⟩ := trodAll_nil r2
    obtain rfl : args = #[v0, v1, v2] := by cases args; simp_all
    obtain ⟨D0, P0, rfl, ok0, hs0⟩ := arg_pats (hval 0 25 v0 rfl rfl) h0
    obtain ⟨A1, l1, c1, rfl, hc1, hm1, ok1, hs1⟩ := arg_words (hval 1 26 v1 rfl rfl) h1
    obtain ⟨a2, rfl, rfl, rfl, wf2⟩ := open_int Tryz.underlying27 (hval 2 27 v2 rfl rfl) h2
    exact walk D0 P0 ok0 A1 l1 c1 hc1 hm1 ok1 a2 (bounds_u64 wf2) W hs0 hs1 hT

theorem bare : Rows.PieceBackSaid :=
  OpenClaim.holds_of_wide 3 Tryz.f3 rfl rfl rfl rfl rfl rfl rfl ⟨rfl, rfl, rfl, rfl, rfl⟩ rfl rfl rfl rfl rfl (by kernel_rfl) Tryz.func3 (by kernel_rfl)
    (of_decide_eq_true (by kernel_rfl)) (by unfold Func.isWrapper; first | (rw [if_pos (by decide +kernel)]; kernel_rfl) | (rw [if_neg (by decide +kernel)]; exact ⟨rfl, rfl⟩))
    (fun os started H enc _ => lifted os started H enc)
theorem holds : Rows.PieceBackCardSaid :=
  Claim7.holds_tied_plain_at .later [] [.data] true Rows.pieceBackCard.stood.harness false bare (fun _ h => by cases h) (by kernel_rfl) (fun _ h => by cases h) pieceBack_row_tie rfl ⟨rfl, rfl⟩ (by kernel_rfl) rfl
    (fun f fn hf hfn => by
      obtain rfl : f = 3 := Option.some.inj ((show Tryz.prog.funcNamed "compositor/compositorlaw17.PieceBack" = some 3 by kernel_rfl).symm.trans hf) |>.symm
      obtain rfl : fn = Tryz.f3 := (Option.some.inj (Tryz.func3.symm.trans hfn)).symm
      exact ⟨by kernel_rfl, standsIn (ts := [25, 26, 27]) (by kernel_rfl) (by rw [Tryz.params3])⟩)
    (by kernel_rfl)
end PieceBack
end Go.Proofs.YtmmgmcfhlhghoaaGreatDoor

