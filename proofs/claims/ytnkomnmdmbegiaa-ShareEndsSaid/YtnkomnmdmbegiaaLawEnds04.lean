/- ShareEnds: parts end where the parts up to them, together, do, ends do not fall, the last one is the total, and a weight of 0 has nothing (at most three hundred weights): for every input. -/
import Derived.Test.YtnkomnmdmbegiaaAwake04
import Derived.OpenShut
namespace Go.Proofs.Ytnkomnmdmbegiaa
open Go.ChangeShapes Go.WideShapes Go.ChangeAt Go.RowKit
namespace ShareEnds
open L04

theorem few (a : Int) (A : Option Addr) (n c : Nat) (f : Nat → Int) (hn : n ≤ 300) (w : World) (hs : SeenF w A n f) :
    Calls Try.prog 7 #[.int .i64 a, .slice A n c] w (Ret w (.bool true)) := by
  have hnz : ¬ (300 < (n : Int)) := by omega
  have HS := Lib.hid hs
  clear hs
  by_cases h : MayP a n f
  · have HM := Lib.hid h
    have HT := Lib.hid (part_sum h)
    clear h
    go_enter Try.func7, Try.ntmps7
    go_wp2_with fail
    refine (L04.awake_any _).mono ?_; rintro e w1 ⟨rfl, x1⟩
    go_wp2_with fail
    refine (split_yes a A n c f _ (HS.out.ext x1) HM.out).mono ?_; rintro e w2 ⟨x2, b2, _, _, rfl, r2⟩
    go_wp2_with fail
    refine (ends_yes a A n c f _ (HS.out.ext (x1.trans x2)) HM.out).mono ?_; rintro e w3 ⟨x3, b3, _, _, rfl, r3⟩
    have R2 := Lib.hid (r2.ext x3)
    have R3 := Lib.hid r3
    have X3 := Lib.hid ((x1.trans x2).trans x3)
    have S3 := Lib.hid (HS.out.ext X3.out)
    clear r2 r3 x1 x2 x3 HS
    go_wp2_with fail
    go_loopw [10, 11] (fun s i wr => ∃ (k : Nat) (z : Int), k ≤ n ∧ i = .int .i64 k ∧ s = .int .i64 z ∧ Hid (z = sumF (partF a n f) k) ∧ w3 = wr) (fun _ i _ => n - (intOf i).toNat)
    case atStart => exact ⟨0, 0, by omega, rfl, rfl, rfl, rfl⟩
    case round =>
      obtain ⟨k, z, hk, rfl, rfl, ha, rfl⟩ := hrel
      by_cases hlt : k < n
      · obtain ⟨c1, _⟩ := R2.out k hlt
        obtain ⟨c2, _⟩ := R3.out k hlt
        obtain ⟨ad, rfl, c3⟩ := S3.out.get hlt
        have h1 := parts_small HM.out hk
        have h2 := parts_small (k := k + 1) HM.out hlt
        have h3 : sumF (partF a n f) (k + 1) = z + partF a n f k := by rw [ha.out]; rfl
        have h4 : endF a n f k = z + partF a n f k := h3
        have h5 := part_nonneg HM.out k hlt
        have h6 := fun h => part_none HM.out hlt h
        rw [h3] at h2
        rw [← ha.out] at h1
        rw [h4] at c2
        have H3 := Lib.hid h3
        clear h3 h4 ha
        generalize partF a n f k = p at *
        generalize f k = v at *
        by_cases hv : v = 0
        · obtain rfl : p = 0 := h6 hv
          subst hv
          clear h6
          go_wp2_with fail
          go_roundw
          case rel => exact ⟨k + 1, z + 0, by omega, by go_num, by first | rfl | simp, H3.out.symm, by first | rfl | trivial⟩
          case measure => simp [intOf]; omega
        · have hvb : (v == 0) = false := by simpa using hv
          clear h6
          go_wp2_with fail
          go_roundw
          case rel => exact ⟨k + 1, z + p, by omega, by go_num, rfl, H3.out.symm, by first | rfl | trivial⟩
          case measure => simp [intOf]; omega
      · obtain rfl : k = n := by omega
        have hz : z = a := by rw [ha.out]; exact HT.out
        by_cases h0 : k = 0
        · have h0b : ((k : Int) == 0) = true := by simp [h0]
          go_wp2_with fail
          go_ret
          exact ⟨rfl, X3.out⟩
        · have h0b : ((k : Int) == 0) = false := by simp [h0]
          subst hz
          go_wp2_with fail
          go_ret
          exact ⟨rfl, X3.out⟩
  · go_enter Try.func7, Try.ntmps7
    go_wp2_with fail
    refine (L04.awake_any _).mono ?_; rintro e w1 ⟨rfl, x1⟩
    go_wp2_with fail
    refine (split_no a A n c f _ (HS.out.ext x1) (by omega) h).mono ?_; rintro e w2 ⟨rfl, x2⟩
    go_wp2_with fail
    refine (ends_no a A n c f _ (HS.out.ext (x1.trans x2)) (by omega) h).mono ?_; rintro e w3 ⟨rfl, x3⟩
    clear h
    go_wp2_with fail
    refine wp_loop_rounds 1 ?_
    rw [rounds_succ]
    go_wp2_with fail
    go_ret
    exact ⟨rfl, (x1.trans x2).trans x3⟩

theorem walk (a : Int) (_ : -9223372036854775808 ≤ a ∧ a ≤ 9223372036854775807) (A : Option Addr) (l : List Int) (c : Nat) (hc : l.length ≤ c) (hcm : c ≤ maxLen) (_ : ∀ n ∈ l, (Lit.int .i64 n).wf = true) (w : World)
    (hs : Seen w.heap.size w A (l.map (.int .i64))) :
    Calls Try.prog 7 #[.int .i64 a, .slice A l.length c] w (Ret w (.bool true)) := by
  by_cases hl : l.length ≤ 300
  · exact few a A l.length c _ hl w (Seen.fn hs)
  · have h0 : 300 < (l.length : Int) := by omega
    have h1 : l.length ≤ 9223372036854775807 := by unfold maxLen at hcm; omega
    clear hs hcm hl
    go_enter Try.func7, Try.ntmps7
    go_wp2_with fail
    refine (L04.awake_any _).mono ?_; rintro e w1 ⟨rfl, x1⟩
    go_wp2_with fail
    go_ret
    exact ⟨rfl, x1⟩

set_option maxRecDepth 100000 in
theorem lifted (os : Os) (started : os.Started) (H : Type) (enc : TypeId × Value → H) :
    ReturnsInHanded {} Try.checked os 7 .any (Rows.shareEndsSpec.pre6 enc Try.prog Try.f7 [] false) (Rows.shareEndsSpec.post enc Try.prog Try.f7 false true false false) := by
  refine law_lift (C := Try.checked) own started (by kernel_rfl) Try.func7 laidOut rfl rfl Try.underlying4 (by kernel_rfl) ?_
    (ChangeSpec.witness6 (enc := enc) (C := Try.checked) false ⟨#[], #[.int .i64 0, .slice none 0 0], []⟩ 8 (by kernel_rfl) (by kernel_rfl) (by kernel_rfl) (by kernel_rfl)) ?_
  · intro H ds h
    match ds, h with
    | [_, _], _ => rfl
  · intro W base args ds p hval hA hlt hwt hsh
    rw [Try.params7] at hA hval
    obtain ⟨v0, vs0, d0, ds0, p0, q0, hargs, rfl, rfl, h0, r0⟩ := trodAll_cons hA
    obtain ⟨v1, vs1, d1, ds1, p1, q1, rfl, rfl, rfl, h1, r1⟩ := trodAll_cons r0
    obtain ⟨rfl, rfl, rfl⟩ := trodAll_nil r1
    obtain rfl : args = #[v0, v1] := by cases args; simp_all
    obtain ⟨a0, rfl, rfl, rfl, wf0⟩ := open_int Try.underlying3 (hval 0 3 v0 rfl rfl) h0
    obtain ⟨A1, l1, c1, rfl, hc1, hm1, wf1, hs1⟩ := seen_ints Try.underlying22 Try.underlying3 (by kernel_rfl) (hval 1 22 v1 rfl rfl) h1
    exact walk a0 (bounds_i64 wf0) A1 l1 c1 hc1 hm1 wf1 W hs1

theorem holds : Rows.ShareEndsSaid :=
  OpenClaim.holds_of_wide 7 Try.f7 rfl rfl rfl rfl rfl rfl rfl ⟨rfl, rfl, rfl, rfl, rfl⟩ rfl rfl rfl rfl rfl (by kernel_rfl) Try.func7 (by kernel_rfl)
    (of_decide_eq_true (by kernel_rfl)) (by unfold Func.isWrapper; first | (rw [if_pos (by decide +kernel)]; kernel_rfl) | (rw [if_neg (by decide +kernel)]; exact ⟨rfl, rfl⟩))
    (fun os started H enc _ => lifted os started H enc)
end ShareEnds
end Go.Proofs.Ytnkomnmdmbegiaa

