/- ParaOrders: for every input. -/
import Derived.Test.YtdiccmlpppkgpaaGreatDoorOrders16
import Derived.Test.YtdiccmlpppkgpaaGreatDoorPrs16
import Derived.Test.YtdiccmlpppkgpaaGreatDoorRef16
import Derived.Test.YtdiccmlpppkgpaaGreatDoorGF16
import Derived.Test.YtdiccmlpppkgpaaGreatDoorGG16
import Derived.ChangeMaps5
namespace Go.Proofs.YtdiccmlpppkgpaaGreatDoor
open Go.ChangeShapes Go.WideShapes Go.ChangeAt Go.RowKit Go.Deep
namespace ParaOrders
open L14 L16

theorem walk (b0 : Brk) (ok0 : WideK b0) (b1 : Brk) (ok1 : WideK b1) (b2 : Brk) (ok2 : WideK b2) (D3 : LayD) (A3 : Option Addr) (c3 : Nat) (ok3 : LayOk D3 c3) (w : World) (_ : SeenP w A3 D3.n D3.sh) (hT : Home w) :
    Calls Tryz.prog 4 #[brkV b0, brkV b1, brkV b2, layV D3 A3 c3] w (Ret w (.bool true)) := all par b0 b1 b2 ok0 ok1 ok2 D3 A3 c3 ok3 w hT

set_option maxRecDepth 100000 in
theorem lifted (os : Os) (started : os.Started) (H : Type) (enc : TypeId × Value → H) :
    ReturnsInHanded {} Tryz.checked os 4 .any (fun w args => (Rows.paraOrdersSpec.pre enc Tryz.prog Tryz.f4 [] false w args ∧ laidMetH Tryz.prog doorLaid w) ∧ sizedMet enc Tryz.prog Tryz.f4 (OpenSpec.ofChange Rows.paraOrdersSpec) false w args)
      (Rows.paraOrdersSpec.post enc Tryz.prog Tryz.f4 false true false false) := by
  refine law_liftH started (by kernel_rfl) Tryz.func4 rfl rfl Tryz.underlying4 (by kernel_rfl) ?_
    (ChangeSpec.witness_shaped (enc := enc) (C := Tryz.checked) (os := os) (X := fun w _ => laidMetH Tryz.prog doorLaid w) false (World.laidAll Tryz.prog os doorLaid) #[.agg #[.int .i64 0, .int .i64 0, .int .i64 0], .agg #[.int .i64 0, .int .i64 0, .int .i64 0], .agg #[.int .i64 0, .int .i64 0, .int .i64 0], .agg #[.int .i64 0, .int .i64 0, .int .i64 0, .int .i64 0, .slice none 0 0, .int .i64 0, .int .i64 0, .int .i64 0, .int .i64 0, .int .i64 0, .int .i64 0, .int .i64 0, .int .i64 0, .int .i64 0, .int .i64 0, .int .i64 0, .int .i64 0, .int .i64 0, .int .i64 0, .int .i64 0, .int .i64 0]] 8 (World.laidAll_os _ _ _)
      (World.shaped_of_ZipB (by kernel_rfl) (by kernel_rfl)) (by kernel_rfl) (by kernel_rfl) (by kernel_rfl) (laidStart os _)) ?_
  · intro H ds h
    match ds, h with
    | [_, _, _, _], _ => rfl
  · intro W base args ds p hval hA hlt hT
    rw [Tryz.params4] at hA hval
    obtain ⟨v0, vs0, d0, ds0, p0, q0, hargs, rfl, rfl, h0, r0⟩ := trodAll_cons hA
    obtain ⟨v1, vs1, d1, ds1, p1, q1, rfl, rfl, rfl, h1, r1⟩ := trodAll_cons r0
    obtain ⟨v2, vs2, d2, ds2, p2, q2, rfl, rfl, rfl, h2, r2⟩ := trodAll_cons r1
    obtain ⟨v3, vs3, d3, ds3, p3, q3, rfl, rfl, rfl, h3, r3⟩ := trodAll_cons r2
    obtain ⟨rfl, rfl, rfl⟩ := trodAll_nil r3
    obtain rfl : args = #[v0, v1, v2, v3] := by cases args; simp_all
    obtain ⟨b0, rfl, ok0⟩ := L16.arg_brk (hval 0 44 v0 rfl rfl) h0
    obtain ⟨b1, rfl, ok1⟩ := L16.arg_brk (hval 1 44 v1 rfl rfl) h1
    obtain ⟨b2, rfl, ok2⟩ := L16.arg_brk (hval 2 44 v2 rfl rfl) h2
    obtain ⟨D3, A3, c3, rfl, ok3, hs3⟩ := arg_layout (hval 3 28 v3 rfl rfl) h3
    exact walk b0 ok0 b1 ok1 b2 ok2 D3 A3 c3 ok3 W hs3 hT

theorem bare : Rows.ParaOrdersSaid :=
  OpenClaim.holds_of_wide 4 Tryz.f4 rfl rfl rfl rfl rfl rfl rfl ⟨rfl, rfl, rfl, rfl, rfl⟩ rfl rfl rfl rfl rfl (by kernel_rfl) Tryz.func4 (by kernel_rfl)
    (of_decide_eq_true (by kernel_rfl)) (by unfold Func.isWrapper; first | (rw [if_pos (by decide +kernel)]; kernel_rfl) | (rw [if_neg (by decide +kernel)]; exact ⟨rfl, rfl⟩))
    (fun os started H enc _ => lifted os started H enc)
theorem holds : Rows.ParaOrdersCardSaid :=
  Claim7.holds_tied_plain_at .later [] [.data] true Rows.paraOrdersCard.stood.harness false bare (fun _ h => by cases h) (by kernel_rfl) (fun _ h => by cases h) paraOrders_row_tie rfl ⟨rfl, rfl⟩ (by kernel_rfl) rfl
    (fun f fn hf hfn => by
      obtain rfl : f = 4 := Option.some.inj ((show Tryz.prog.funcNamed "compositor/compositorlaw16.ParaOrders" = some 4 by kernel_rfl).symm.trans hf) |>.symm
      obtain rfl : fn = Tryz.f4 := (Option.some.inj (Tryz.func4.symm.trans hfn)).symm
      exact ⟨by kernel_rfl, standsIn (ts := [44, 44, 44, 28]) (by kernel_rfl) (by rw [Tryz.params4])⟩)
    (by kernel_rfl)
end ParaOrders
end Go.Proofs.YtdiccmlpppkgpaaGreatDoor

