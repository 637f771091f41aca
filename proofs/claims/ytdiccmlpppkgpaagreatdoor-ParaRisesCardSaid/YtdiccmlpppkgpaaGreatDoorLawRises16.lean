/- ParaRises: for every input. -/
import Derived.Test.YtdiccmlpppkgpaaGreatDoorRises16
import Derived.Test.YtdiccmlpppkgpaaGreatDoorPrs16
import Derived.Test.YtdiccmlpppkgpaaGreatDoorGF16
import Derived.Test.YtdiccmlpppkgpaaGreatDoorGG16
import Derived.ChangeMaps5
namespace Go.Proofs.YtdiccmlpppkgpaaGreatDoor
open Go.ChangeShapes Go.WideShapes Go.ChangeAt Go.RowKit Go.Deep
namespace ParaRises
open L14 L16

theorem walk (D0 : PatsD) (P0 : PatsP) (ok0 : PatsOk D0 P0) (D1 : LayD) (A1 : Option Addr) (c1 : Nat) (ok1 : LayOk D1 c1) (A2 : Option Addr) (l2 : List CW) (c2 : Nat) (hc2 : l2.length ≤ c2) (hm2 : c2 ≤ maxLen) (ok2 : ∀ x ∈ l2, x.Ok) (w : World) (hs0 : SeenPats w D0 P0) (hs1 : SeenP w A1 D1.n D1.sh) (hs2 : SeenC w A2 l2) (hT : Home w) :
    Calls Tryz.prog 5 #[patsV D0 P0, layV D1 A1 c1, .slice A2 l2.length c2] w (Ret w (.bool true)) := all par D0 P0 ok0 D1 A1 c1 ok1 A2 l2 c2 hc2 hm2 ok2 w hs0 hs1 hs2 hT

set_option maxRecDepth 100000 in
theorem lifted (os : Os) (started : os.Started) (H : Type) (enc : TypeId × Value → H) :
    ReturnsInHanded {} Tryz.checked os 5 .any (fun w args => (Rows.paraRisesSpec.pre enc Tryz.prog Tryz.f5 [] false w args ∧ laidMetH Tryz.prog doorLaid w) ∧ sizedMet enc Tryz.prog Tryz.f5 (OpenSpec.ofChange Rows.paraRisesSpec) false w args)
      (Rows.paraRisesSpec.post enc Tryz.prog Tryz.f5 false true false false) := by
  refine law_liftH started (by kernel_rfl) Tryz.func5 rfl rfl Tryz.underlying4 (by kernel_rfl) ?_
    (ChangeSpec.witness_shaped (enc := enc) (C := Tryz.checked) (os := os) (X := fun w _ => laidMetH Tryz.prog doorLaid w) false (World.laidAll Tryz.prog os doorLaid) #[.agg #[.slice none 0 0, .slice none 0 0], .agg #[.int .i64 0, .int .i64 0, .int .i64 0, .int .i64 0, .slice none 0 0, .int .i64 0, .int .i64 0, .int .i64 0, .int .i64 0, .int .i64 0, .int .i64 0, .int .i64 0, .int .i64 0, .int .i64 0, .int .i64 0, .int .i64 0, .int .i64 0, .int .i64 0, .int .i64 0, .int .i64 0, .int .i64 0], .slice none 0 0] 8 (World.laidAll_os _ _ _)
      (World.shaped_of_ZipB (by kernel_rfl) (by kernel_rfl)) (by kernel_rfl) (by kernel_rfl) (by kernel_rfl) (laidStart os _)) ?_
  · intro H ds h
    match ds, h with
    | [_, _, _], _ => rfl
  · intro W base args ds p hval hA hlt hT
    rw [Tryz.params5] at hA hval
    obtain ⟨v0, vs0, d0, ds0, p0, q0, hargs, rfl, rfl, h0, r0⟩ := trodAll_cons hA
    obtain ⟨v1, vs1, d1, ds1, p1, q1, rfl, rfl, rfl, h1, r1⟩ := trodAll_cons r0
    obtain ⟨v2, vs2, d2, ds2, p2, q2, rfl, rfl, rfl, h2, r2⟩ := trodAll_cons r1
    obtain ⟨rfl, rfl, rfl⟩ := trodAll_nil r2
    obtain rfl : args = #[v0, v1, v2] := by cases args; simp_all
    obtain ⟨D0, P0, rfl, ok0, hs0⟩ := arg_pats (hval 0 25 v0 rfl rfl) h0
    obtain ⟨D1, A1, c1, rfl, ok1, hs1⟩ := arg_layout (hval 1 28 v1 rfl rfl) h1
    obtain ⟨A2, l2, c2, rfl, hc2, hm2, ok2, hs2⟩ := arg_words (hval 2 29 v2 rfl rfl) h2
    exact walk D0 P0 ok0 D1 A1 c1 ok1 A2 l2 c2 hc2 hm2 ok2 W hs0 hs1 hs2 hT

theorem bare : Rows.ParaRisesSaid :=
  OpenClaim.holds_of_wide 5 Tryz.f5 rfl rfl rfl rfl rfl rfl rfl ⟨rfl, rfl, rfl, rfl, rfl⟩ rfl rfl rfl rfl rfl (by kernel_rfl) Tryz.func5 (by kernel_rfl)
    (of_decide_eq_true (by kernel_rfl)) (by unfold Func.isWrapper; first | (rw [if_pos (by decide +kernel)]; kernel_rfl) | (rw [if_neg (by decide +kernel)]; exact ⟨rfl, rfl⟩))
    (fun os started H enc _ => lifted os started H enc)
theorem holds : Rows.ParaRisesCardSaid :=
  Claim7.holds_tied_plain_at .later [] [.data] true Rows.paraRisesCard.stood.harness false bare (fun _ h => by cases h) (by kernel_rfl) (fun _ h => by cases h) paraRises_row_tie rfl ⟨rfl, rfl⟩ (by kernel_rfl) rfl
    (fun f fn hf hfn => by
      obtain rfl : f = 5 := Option.some.inj ((show Tryz.prog.funcNamed "compositor/compositorlaw16.ParaRises" = some 5 by kernel_rfl).symm.trans hf) |>.symm
      obtain rfl : fn = Tryz.f5 := (Option.some.inj (Tryz.func5.symm.trans hfn)).symm
      exact ⟨by kernel_rfl, standsIn (ts := [25, 28, 29]) (by kernel_rfl) (by rw [Tryz.params5])⟩)
    (by kernel_rfl)
end ParaRises
end Go.Proofs.YtdiccmlpppkgpaaGreatDoor

