/- PackBack: numbers are taken as they were put, whatever stands behind, and bytes put as they were taken (at most a thousand bytes): for every input. -/
import Derived.Test.YtalanmgcacacaaaBackA06
import Derived.Test.YtalanmgcacacaaaBackB06
import Derived.Test.YtalanmgcacacaaaBackC06
namespace Go.Proofs.Ytalanmgcacacaaa
open Go.ChangeShapes Go.WideShapes Go.ChangeAt Go.RowKit Go.Deep
namespace PackBack
open L06

theorem walk (a : Int) (ha : 0 ≤ a ∧ a ≤ 4294967295) (s : Int) (hs : 0 ≤ s ∧ s ≤ 255) (A : Option Addr) (l : List UInt8) (c : Nat) (hc : l.length ≤ c) (hcm : c ≤ maxLen) (w : World) (hl : SeenB w A l) :
    Calls Try.prog 5 #[.int .u32 a, .int .u8 s, .slice A l.length c] w (Ret w (.bool true)) := by
  unfold maxLen at hcm
  by_cases hn : l.length ≤ 1000
  · obtain ⟨zi, hz⟩ : ∃ zi, 1 + s % 4 = zi := ⟨_, rfl⟩
    obtain ⟨k, hk⟩ : ∃ k, wrap64 (wrap32 a) = k := ⟨_, rfl⟩
    have hkb : -2147483648 ≤ k ∧ k < 2147483648 := by rw [← hk]; unfold wrap64 wrap32; omega
    by_cases h1 : a < (256 : Int) ^ zi.toNat
    · by_cases h2 : zi ≤ (l.length : Int)
      · exact yes_yes a s zi k A l c hn hc ha.1 ha.2 hs.1 hs.2 hz hk hkb.1 hkb.2 w hl h1 h2
      · exact yes_no a s zi k A l c hn hc ha.1 ha.2 hs.1 hs.2 hz hk hkb.1 hkb.2 w hl h1 (by omega)
    · by_cases h2 : zi ≤ (l.length : Int)
      · exact no_yes a s zi k A l c hn hc ha.1 ha.2 hs.1 hs.2 hz hk hkb.1 hkb.2 w hl (by omega) h2
      · exact no_no a s zi k A l c hn hc ha.1 ha.2 hs.1 hs.2 hz hk hkb.1 hkb.2 w hl (by omega) (by omega)
  · exact many a s A _ c (by omega) (by omega) w

set_option maxRecDepth 100000 in
theorem lifted (os : Os) (started : os.Started) (H : Type) (enc : TypeId × Value → H) :
    ReturnsInHanded {} Try.checked os 5 .any (Rows.packBackSpec.pre6 enc Try.prog Try.f5 [] false) (Rows.packBackSpec.post enc Try.prog Try.f5 false true false false) := by
  refine law_lift (C := Try.checked) own started (by kernel_rfl) Try.func5 laidOut rfl rfl Try.underlying4 (by kernel_rfl) ?_
    (ChangeSpec.witness6 (enc := enc) (C := Try.checked) false ⟨#[], #[.int .u32 0, .int .u8 0, .slice none 0 0], []⟩ 8 (by kernel_rfl) (by kernel_rfl) (by kernel_rfl) (by kernel_rfl)) ?_
  · intro H ds h
    match ds, h with
    | [_, _, _], _ => rfl
  · intro W base args ds p hval hA hlt hwt hsh
    rw [Try.params5] at hA hval
    obtain ⟨v0, vs0, d0, ds0, p0, q0, hargs, rfl, rfl, h0, r0⟩ := trodAll_cons hA
    obtain ⟨v1, vs1, d1, ds1, p1, q1, rfl, rfl, rfl, h1, r1⟩ := trodAll_cons r0
    obtain ⟨v2, vs2, d2, ds2, p2, q2, rfl, rfl, rfl, h2, r2⟩ := trodAll_cons r1
    obtain ⟨rfl, rfl, rfl⟩ := trodAll_nil r2
    obtain rfl : args = #[v0, v1, v2] := by cases args; simp_all
    obtain ⟨a0, rfl, rfl, rfl, wf0⟩ := open_int Try.underlying33 (hval 0 33 v0 rfl rfl) h0
    obtain ⟨a1, rfl, rfl, rfl, wf1⟩ := open_int Try.underlying5 (hval 1 5 v1 rfl rfl) h1
    obtain ⟨A2, l2, c2, rfl, hc2, hm2, hs2⟩ := seen_bytes Try.underlying22 Try.underlying5 (by kernel_rfl) (hval 2 22 v2 rfl rfl) h2
    exact walk a0 (bounds_u32 wf0) a1 (bounds_u8 wf1) A2 l2 c2 hc2 hm2 W hs2

theorem holds : Rows.PackBackSaid :=
  OpenClaim.holds_of_wide 5 Try.f5 rfl rfl rfl rfl rfl rfl rfl ⟨rfl, rfl, rfl, rfl, rfl⟩ rfl rfl rfl rfl rfl (by kernel_rfl) Try.func5 (by kernel_rfl)
    (of_decide_eq_true (by kernel_rfl)) (by unfold Func.isWrapper; first | (rw [if_pos (by decide +kernel)]; kernel_rfl) | (rw [if_neg (by decide +kernel)]; exact ⟨rfl, rfl⟩))
    (fun os started H enc _ => lifted os started H enc)
end PackBack
end Go.Proofs.Ytalanmgcacacaaa

