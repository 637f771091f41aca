/- ParaShapes: for every input. -/
import Derived.Test.YtdiccmlpppkgpaaGreatDoorShapes16
import Derived.Test.YtdiccmlpppkgpaaGreatDoorPrs16
import Derived.Test.YtdiccmlpppkgpaaGreatDoorGF16
import Derived.Test.YtdiccmlpppkgpaaGreatDoorGG16
import Derived.ChangeMaps5
namespace Go.Proofs.YtdiccmlpppkgpaaGreatDoor
open Go.ChangeShapes Go.WideShapes Go.ChangeAt Go.RowKit Go.Deep
namespace ParaShapes
open L14 L16

theorem walk (D0 : PatsD) (P0 : PatsP) (ok0 : PatsOk D0 P0) (D1 : LayD) (A1 : Option Addr) (c1 : Nat) (ok1 : LayOk D1 c1) (D2 : LayD) (A2 : Option Addr) (c2 : Nat) (ok2 : LayOk D2 c2) (A3 : Option Addr) (l3 : List CW) (c3 : Nat) (hc3 : l3.length ≤ c3) (hm3 : c3 ≤ maxLen) (ok3 : ∀ x ∈ l3, x.Ok) (w : World) (hs0 : SeenPats w D0 P0) (hs1 : SeenP w A1 D1.n D1.sh) (hs2 : SeenP w A2 D2.n D2.sh) (hs3 : SeenC w A3 l3) (hT : Home w) :
    Calls Tryz.prog 7 #[patsV D0 P0, layV D1 A1 c1, layV D2 A2 c2, .slice A3 l3.length c3] w (Ret w (.bool true)) := all par D0 P0 ok0 D1 A1 c1 ok1 D2 A2 c2 ok2 A3 l3 c3 hc3 hm3 ok3 w hs0 hs1 hs2 hs3 hT

set_option maxRecDepth 100000 in
theorem lifted (os : Os) (started : os.Started) (H : Type) (enc : TypeId × Value → H) :
    ReturnsInHanded {} Tryz.checked os 7 .any (fun w args => (Rows.paraShapesSpec.pre enc Tryz.prog Tryz.f7 [] false w args ∧ laidMetH Tryz.prog doorLaid w) ∧ sizedMet enc Tryz.prog Tryz.f7 (OpenSpec.ofChange Rows.paraShapesSpec) false w args)
      (Rows.paraShapesSpec.post enc Tryz.prog Tryz.f7 false true false false) := by
  refine law_liftH started (by kernel_rfl) Tryz.func7 rfl rfl Tryz.underlying4 (by kernel_rfl) ?_
    (ChangeSpec.witness_shaped (enc := enc) (C := Tryz.checked) (os := os) (X := fun w _ => laidMetH Tryz.prog doorLaid w) false (World.laidAll Tryz.prog os doorLaid) #[.agg #[.slice none 0 0, .slice none 0 0], .agg #[.int .i64 0, .int .i64 0, .int .i64 0, .int .i64 0, .slice none 0 0, .int .i64 0, .int .i64 0, .int .i64 0, .int .i64 0, .int .i64 0, .int .i64 0, .int .i64 0, .int .i64 0, .int .i64 0, .int .i64 0, .int .i64 0, .int .i64 0, .int .i64 0, .int .i64 0, .int .i64 0, .int .i64 0], .agg #[.int .i64 0, .int .i64 0, .int .i64 0, .int .i64 0, .slice none 0 0, .int .i64 0, .int .i64 0, .int .i64 0, .int .i64 0, .int .i64 0, .int .i64 0, .int .i64 0, .int .i64 0, .int .i64 0, .int .i64 0, .int .i64 0, .int .i64 0, .int .i64 0, .int .i64 0, .int .i64 0, .int .i64 0], .slice none 0 0] 8 (World.laidAll_os _ _ _)
      (World.shaped_of_ZipB (by kernel_rfl) (by kernel_rfl)) (by kernel_rfl) (by kernel_rfl) (by kernel_rfl) (laidStart os _)) ?_
  · intro H ds h
    match ds, h with
    | [_, _, _, _], _ => rfl
  · intro W base args ds p hval hA hlt hT
    rw [Tryz.params7] at hA hval
    obtain ⟨v0, vs0, d0, ds0, p0, q0, hargs, rfl, rfl, h0, r0⟩ := trodAll_cons hA
    obtain ⟨v1, vs1, d1, ds1, p1, q1, rfl, rfl, rfl, h1, r1⟩ := trodAll_cons r0
    obtain ⟨v2, vs2, d2, ds2, p2, q2, rfl, rfl, rfl, h2, r2⟩ := trodAll_cons r1
    obtain ⟨v3, vs3, d3, ds3, p3, q3, rfl, rfl, rfl, h3, r3⟩ := trodAll_cons r2
    obtain ⟨rfl, rfl, rfl⟩ := trodAll_nil r3
    obtain rfl : args = #[v0, v1, v2, v3] := by cases args; simp_all
    obtain ⟨D0, P0, rfl, ok0, hs0⟩ := arg_pats (hval 0 25 v0 rfl rfl) h0
    obtain ⟨D1, A1, c1, rfl, ok1, hs1⟩ := arg_layout (hval 1 28 v1 rfl rfl) h1
    obtain ⟨D2, A2, c2, rfl, ok2, hs2⟩ := arg_layout (hval 2 28 v2 rfl rfl) h2
    obtain ⟨A3, l3, c3, rfl, hc3, hm3, ok3, hs3⟩ := arg_words (hval 3 29 v3 rfl rfl) h3
    exact walk D0 P0 ok0 D1 A1 c1 ok1 D2 A2 c2 ok2 A3 l3 c3 hc3 hm3 ok3 W hs0 hs1 hs2 hs3 hT

theorem bare : Rows.ParaShapesSaid :=
  OpenClaim.holds_of_wide 7 Tryz.f7 rfl rfl rfl rfl rfl rfl rfl ⟨rfl, rfl, rfl, rfl, rfl⟩ rfl rfl rfl rfl rfl (by kernel_rfl) Tryz.func7 (by kernel_rfl)
    (of_decide_eq_true (by kernel_rfl)) (by unfold Func.isWrapper; first | (rw [if_pos (by decide +kernel)]; kernel_rfl) | (rw [if_neg (by decide +kernel)]; exact ⟨rfl, rfl⟩))
    (fun os started H enc _ => lifted os started H enc)
theorem holds : Rows.ParaShapesCardSaid :=
  Claim7.holds_tied_plain_at .later [] [.data] true Rows.paraShapesCard.stood.harness false bare (fun _ h => by cases h) (by kernel_rfl) (fun _ h => by cases h) paraShapes_row_tie rfl ⟨rfl, rfl⟩ (by kernel_rfl) rfl
    (fun f fn hf hfn => by
      obtain rfl : f = 7 := Option.some.inj ((show Tryz.prog.funcNamed "compositor/compositorlaw16.ParaShapes" = some 7 by kernel_rfl).symm.trans hf) |>.symm
      obtain rfl : fn = Tryz.f7 := (Option.some.inj (Tryz.func7.symm.trans hfn)).symm
      exact ⟨by kernel_rfl, standsIn (ts := [25, 28, 28, 29]) (by kernel_rfl) (by rw [Tryz.params7])⟩)
    (by kernel_rfl)
end ParaShapes
end Go.Proofs.YtdiccmlpppkgpaaGreatDoor

