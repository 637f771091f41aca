/- ScaledSums: the sum of any numbers is what the document says, or its error (at most a hundred numbers): for every input. -/
import Derived.Test.YtljlafihifpnkaaSum01
import Derived.OpenShut
namespace Go.Proofs.Ytljlafihifpnkaa
open Go.ChangeShapes Go.WideShapes Go.ChangeAt Go.RowKit
namespace ScaledSums

theorem walk (A : Option Addr) (l : List Int) (c : Nat) (_ : l.length ≤ c) (hm : c ≤ maxLen) (_ : ∀ n ∈ l, (Lit.int .i64 n).wf = true) (w : World) (hs : Seen w.heap.size w A (l.map (.int .i64))) :
    Calls Try.prog 4 #[.slice A l.length c] w (Ret w (.bool true)) := by
  have hl : l.length ≤ 9223372036854775807 := by unfold maxLen at hm; omega
  clear hm
  have HS := Lib.hid hs
  clear hs
  by_cases h : 100 < l.length
  · go_enter Try.func4, Try.ntmps4
    go_wp2_with fail
    refine (awake_any _).mono ?_; rintro e w1 ⟨rfl, x1⟩
    go_wp2_with fail
    go_ret
    exact ⟨rfl, x1⟩
  · go_enter Try.func4, Try.ntmps4
    go_wp2_with fail
    refine (awake_any _).mono ?_; rintro e w1 ⟨rfl, x1⟩
    go_wp2_with fail
    refine (sum_any A l c _ (HS.out.ext x1) hl).mono ?_; rintro e w2 ⟨rfl, x2⟩
    go_wp2_with fail
    refine (rsum_any A l c _ (HS.out.ext (x1.trans x2)) hl).mono ?_; rintro e w3 ⟨rfl, x3⟩
    go_wp2_with fail
    go_ret
    exact ⟨rfl, (x1.trans x2).trans x3⟩

set_option maxRecDepth 100000 in
theorem lifted (os : Os) (started : os.Started) (H : Type) (enc : TypeId × Value → H) :
    ReturnsInHanded {} Try.checked os 4 .any (Rows.scaledSumsSpec.pre6 enc Try.prog Try.f4 [] false) (Rows.scaledSumsSpec.post enc Try.prog Try.f4 false true false false) := by
  refine law_lift (C := Try.checked) own started (by kernel_rfl) Try.func4 laidOut rfl rfl Try.underlying4 (by kernel_rfl) ?_
    (ChangeSpec.witness6 (enc := enc) (C := Try.checked) false ⟨#[], #[.slice none 0 0], []⟩ 8 (by kernel_rfl) (by kernel_rfl) (by kernel_rfl) (by kernel_rfl)) ?_
  · intro H ds h
    match ds, h with
    | [_], _ => rfl
  · intro W base args ds p hval hA hlt hwt hsh
    rw [Try.params4] at hA hval
    obtain ⟨v0, vs0, d0, ds0, p0, q0, hargs, rfl, rfl, h0, r0⟩ := trodAll_cons hA
    obtain ⟨rfl, rfl, rfl⟩ := trodAll_nil r0
    obtain rfl : args = #[v0] := by cases args; simp_all
    obtain ⟨A0, l0, c0, rfl, hc0, hm0, wf0, hs0⟩ := seen_ints Try.underlying28 Try.underlying3 (by kernel_rfl) (hval 0 28 v0 rfl rfl) h0
    exact walk A0 l0 c0 hc0 hm0 wf0 W hs0

theorem holds : Rows.ScaledSumsSaid :=
  OpenClaim.holds_of_wide 4 Try.f4 rfl rfl rfl rfl rfl rfl rfl ⟨rfl, rfl, rfl, rfl, rfl⟩ rfl rfl rfl rfl rfl (by kernel_rfl) Try.func4 (by kernel_rfl)
    (of_decide_eq_true (by kernel_rfl)) (by unfold Func.isWrapper; first | (rw [if_pos (by decide +kernel)]; kernel_rfl) | (rw [if_neg (by decide +kernel)]; exact ⟨rfl, rfl⟩))
    (fun os started H enc _ => lifted os started H enc)
end ScaledSums
end Go.Proofs.Ytljlafihifpnkaa

