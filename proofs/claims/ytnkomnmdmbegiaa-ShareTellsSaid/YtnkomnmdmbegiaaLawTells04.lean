/- ShareTells: any total in parts, by any weights, and where the parts end, are what the document says, or its error (at most three hundred and ten weights): for every input. -/
import Derived.Test.YtnkomnmdmbegiaaRefEnds04
import Derived.OpenShut
namespace Go.Proofs.Ytnkomnmdmbegiaa
open Go.ChangeShapes Go.WideShapes Go.ChangeAt Go.RowKit
namespace ShareTells
open L04

theorem same_rows (n : Nat) (f : Nat → Int) (A B : Option Addr) (w : World) (hs : SeenF w A n f) (ht : SeenF w B n f) (hn : n ≤ 1000) :
    Calls Try.prog 13 #[.slice A n n, .slice B n n] w (Ret w (.bool true)) := by
  have h := same_any A B n n n n f f w hs ht (by omega)
  rwa [show sameB n n f f = true from decide_eq_true ⟨rfl, fun _ _ => rfl⟩] at h

theorem few (a : Int) (A : Option Addr) (n c : Nat) (f : Nat → Int) (hn : n ≤ 310) (w : World) (hs : SeenF w A n f) :
    Calls Try.prog 3 #[.int .i64 a, .slice A n c] w (Ret w (.bool true)) := by
  have hnz : ¬ (310 < (n : Int)) := by omega
  by_cases h : MayP a n f
  · go_enter Try.func3, Try.ntmps3
    go_wp2_with fail
    refine (L04.awake_any _).mono ?_; rintro e w1 ⟨rfl, x1⟩
    go_wp2_with fail
    refine (split_yes a A n c f _ (hs.ext x1) h).mono ?_; rintro e w2 ⟨x2, b2, _, _, rfl, r2⟩
    go_wp2_with fail
    refine (rsplit_yes a A n c f _ (hs.ext (x1.trans x2)) h).mono ?_; rintro e w3 ⟨x3, b3, _, _, rfl, r3⟩
    go_wp2_with fail
    refine (ends_yes a A n c f _ (hs.ext ((x1.trans x2).trans x3)) h).mono ?_; rintro e w4 ⟨x4, b4, _, _, rfl, r4⟩
    go_wp2_with fail
    refine (rends_yes a A n c f _ (hs.ext (((x1.trans x2).trans x3).trans x4)) h).mono ?_; rintro e w5 ⟨x5, b5, _, _, rfl, r5⟩
    have q2 := ((r2.ext x3).ext x4).ext x5
    have q3 := (r3.ext x4).ext x5
    have q4 := r4.ext x5
    clear h hs
    go_wp2_with fail
    refine (same_rows n _ _ _ _ q2.seen q3.seen (by omega)).mono ?_; rintro e w6 ⟨rfl, x6⟩
    go_wp2_with fail
    refine (same_rows n _ _ _ _ (q4.ext x6).seen (r5.ext x6).seen (by omega)).mono ?_; rintro e w7 ⟨rfl, x7⟩
    go_wp2_with fail
    go_ret
    exact ⟨rfl, (((((x1.trans x2).trans x3).trans x4).trans x5).trans x6).trans x7⟩
  · go_enter Try.func3, Try.ntmps3
    go_wp2_with fail
    refine (L04.awake_any _).mono ?_; rintro e w1 ⟨rfl, x1⟩
    go_wp2_with fail
    refine (split_no a A n c f _ (hs.ext x1) (by omega) h).mono ?_; rintro e w2 ⟨rfl, x2⟩
    go_wp2_with fail
    refine (rsplit_no a A n c f _ (hs.ext (x1.trans x2)) (by omega) h).mono ?_; rintro e w3 ⟨rfl, x3⟩
    go_wp2_with fail
    refine (ends_no a A n c f _ (hs.ext ((x1.trans x2).trans x3)) (by omega) h).mono ?_; rintro e w4 ⟨rfl, x4⟩
    go_wp2_with fail
    refine (rends_no a A n c f _ (hs.ext (((x1.trans x2).trans x3).trans x4)) (by omega) h).mono ?_; rintro e w5 ⟨rfl, x5⟩
    clear h hs
    go_wp2_with fail
    refine (same_rows 0 (fun _ => 0) none none _ SeenF.none SeenF.none (by omega)).mono ?_; rintro e w6 ⟨rfl, x6⟩
    go_wp2_with fail
    refine (same_rows 0 (fun _ => 0) none none _ SeenF.none SeenF.none (by omega)).mono ?_; rintro e w7 ⟨rfl, x7⟩
    go_wp2_with fail
    go_ret
    exact ⟨rfl, (((((x1.trans x2).trans x3).trans x4).trans x5).trans x6).trans x7⟩

theorem walk (a : Int) (_ : -9223372036854775808 ≤ a ∧ a ≤ 9223372036854775807) (A : Option Addr) (l : List Int) (c : Nat) (hc : l.length ≤ c) (hcm : c ≤ maxLen) (_ : ∀ n ∈ l, (Lit.int .i64 n).wf = true) (w : World)
    (hs : Seen w.heap.size w A (l.map (.int .i64))) :
    Calls Try.prog 3 #[.int .i64 a, .slice A l.length c] w (Ret w (.bool true)) := by
  by_cases hl : l.length ≤ 310
  · exact few a A l.length c _ hl w (Seen.fn hs)
  · have h0 : 310 < (l.length : Int) := by omega
    have h1 : l.length ≤ 9223372036854775807 := by unfold maxLen at hcm; omega
    clear hs hcm hl
    go_enter Try.func3, Try.ntmps3
    go_wp2_with fail
    refine (L04.awake_any _).mono ?_; rintro e w1 ⟨rfl, x1⟩
    go_wp2_with fail
    go_ret
    exact ⟨rfl, x1⟩

set_option maxRecDepth 100000 in
theorem lifted (os : Os) (started : os.Started) (H : Type) (enc : TypeId × Value → H) :
    ReturnsInHanded {} Try.checked os 3 .any (Rows.shareTellsSpec.pre6 enc Try.prog Try.f3 [] false) (Rows.shareTellsSpec.post enc Try.prog Try.f3 false true false false) := by
  refine law_lift (C := Try.checked) own started (by kernel_rfl) Try.func3 laidOut rfl rfl Try.underlying4 (by kernel_rfl) ?_
    (ChangeSpec.witness6 (enc := enc) (C := Try.checked) false ⟨#[], #[.int .i64 0, .slice none 0 0], []⟩ 8 (by kernel_rfl) (by kernel_rfl) (by kernel_rfl) (by kernel_rfl)) ?_
  · intro H ds h
    match ds, h with
    | [_, _], _ => rfl
  · intro W base args ds p hval hA hlt hwt hsh
    rw [Try.params3] at hA hval
    obtain ⟨v0, vs0, d0, ds0, p0, q0, hargs, rfl, rfl, h0, r0⟩ := trodAll_cons hA
    obtain ⟨v1, vs1, d1, ds1, p1, q1, rfl, rfl, rfl, h1, r1⟩ := trodAll_cons r0
    obtain ⟨rfl, rfl, rfl⟩ := trodAll_nil r1
    obtain rfl : args = #[v0, v1] := by cases args; simp_all
    obtain ⟨a0, rfl, rfl, rfl, wf0⟩ := open_int Try.underlying3 (hval 0 3 v0 rfl rfl) h0
    obtain ⟨A1, l1, c1, rfl, hc1, hm1, wf1, hs1⟩ := seen_ints Try.underlying22 Try.underlying3 (by kernel_rfl) (hval 1 22 v1 rfl rfl) h1
    exact walk a0 (bounds_i64 wf0) A1 l1 c1 hc1 hm1 wf1 W hs1

theorem holds : Rows.ShareTellsSaid :=
  OpenClaim.holds_of_wide 3 Try.f3 rfl rfl rfl rfl rfl rfl rfl ⟨rfl, rfl, rfl, rfl, rfl⟩ rfl rfl rfl rfl rfl (by kernel_rfl) Try.func3 (by kernel_rfl)
    (of_decide_eq_true (by kernel_rfl)) (by unfold Func.isWrapper; first | (rw [if_pos (by decide +kernel)]; kernel_rfl) | (rw [if_neg (by decide +kernel)]; exact ⟨rfl, rfl⟩))
    (fun os started H enc _ => lifted os started H enc)
end ShareTells
end Go.Proofs.Ytnkomnmdmbegiaa

