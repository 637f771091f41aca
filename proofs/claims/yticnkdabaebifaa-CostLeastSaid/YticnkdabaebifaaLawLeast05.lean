/- CostLeast: the least of costs is among them, none is less, and none ahead is as little (at most a hundred costs): for every input. -/
import Derived.Test.YticnkdabaebifaaAwake05
import Derived.OpenShut
namespace Go.Proofs.Yticnkdabaebifaa
open Go.ChangeShapes Go.WideShapes Go.ChangeAt Go.RowKit Go.Joins Go.Deep
namespace CostLeast
open L05

theorem many (A : Option Addr) (n c : Nat) (hn : 100 < n) (hm : n ≤ 9223372036854775807) (w : World) :
    Calls Try.prog 6 #[.slice A n c] w (Ret w (.bool true)) := by
  have hz : 100 < (n : Int) := by omega
  go_enter Try.func6, Try.ntmps6
  go_wp2_with fail
  refine (L05.awake_any _).mono ?_; rintro e w1 ⟨rfl, x1⟩
  go_wp2_with fail
  go_ret
  exact ⟨rfl, x1⟩

theorem empty (A : Option Addr) (c : Nat) (w : World) :
    Calls Try.prog 6 #[.slice A 0 c] w (Ret w (.bool true)) := by
  go_enter Try.func6, Try.ntmps6
  go_wp2_with fail
  refine (L05.awake_any _).mono ?_; rintro e w1 ⟨rfl, x1⟩
  go_wp2_with fail
  refine (least_is (f := three) (v := -1) SeenP.nil (by decide) (by decide)).mono ?_; rintro e w2 ⟨rfl, x2⟩
  go_wp2_with fail
  go_ret
  exact ⟨rfl, x1.trans x2⟩

/-- Of at least one there is a least one. -/
theorem one_is (f : Nat → Int × Int) (n : Nat) (h : 0 < n) : ∃ j : Nat, j < n ∧ firstF (leastB f n) n = (j : Int) ∧ (∀ i, i < n → lessB (f i).1 (f i).2 (f j).1 (f j).2 = false) ∧ ∀ i, i < j → lessB (f j).1 (f j).2 (f i).1 (f i).2 = true := by
  rcases firstF_in (leastB f n) n with ⟨_, hn⟩ | ⟨j, h1, h2, h3, h4⟩
  · obtain ⟨j, hj, e⟩ := minF_at f n h
    have := leastB_min f n j hj
    rw [e] at this
    rw [hn j hj] at this
    simp [sameB] at this
  · have h3' : ∀ k, k < n → lessB (f k).1 (f k).2 (f j).1 (f j).2 = false := by simpa [leastB] using h3
    refine ⟨j, h2, h1, h3', fun i hi => ?_⟩
    have h5 := h4 i hi
    rw [← Bool.not_eq_false]
    intro h6
    have : leastB f n i = true := decide_eq_true fun k hk => by
      have a := h3' k hk
      have b := h3' i (by omega)
      rw [lessB_no] at *
      omega
    rw [this] at h5
    cases h5

set_option maxHeartbeats 1000000 in
theorem few (A : Option Addr) (n c : Nat) (f : Nat → Int × Int) (h0 : 0 < n) (hn : n ≤ 100) (w : World) (hs : SeenP w A n f) :
    Calls Try.prog 6 #[.slice A n c] w (Ret w (.bool true)) := by
  have hz : ¬ (100 < (n : Int)) := by omega
  have hzb : ((n : Int) == 0) = false := by simp; omega
  obtain ⟨j, hj, e1, e2, e3⟩ := one_is f n h0
  have E1 := Lib.hid e1; have E2 := Lib.hid e2; have E3 := Lib.hid e3
  clear e1 e2 e3
  go_enter Try.func6, Try.ntmps6
  go_wp2_with fail
  refine (L05.awake_any _).mono ?_; rintro e w1 ⟨rfl, x1⟩
  go_wp2_with fail
  refine (least_is (v := j) (hs.ext x1) (by omega) E1.out).mono ?_; rintro e w2 ⟨rfl, x2⟩
  have y := x1.trans x2
  clear x1 x2
  go_wp2_with fail
  go_loopw [5] (fun i wr => ∃ k : Nat, k ≤ n ∧ i = .int .i64 k ∧ Ext w wr) (fun i _ => n - (intOf i).toNat)
  case atStart => exact ⟨0, by omega, rfl, y⟩
  case round =>
    clear y
    obtain ⟨k, hk, rfl, y⟩ := hrel
    by_cases hlt : k < n
    · obtain ⟨ad, rfl, h0, h1⟩ := (hs.ext y).get hlt
      obtain ⟨ad', e, h2, h3⟩ := (hs.ext y).get hj
      obtain rfl : ad = ad' := by simpa using e
      have g0 := cell_regrown h0
      have g1 := cell_regrown h1
      have g2 := cell_regrown h2
      have g3 := cell_regrown h3
      have l1 := E2.out k hlt
      by_cases hkj : k < j
      · have l2 := E3.out k hkj
        clear hs e
        generalize (f k).1 = p at *
        generalize (f k).2 = q at *
        generalize (f j).1 = p' at *
        generalize (f j).2 = q' at *
        go_wp2_with fail
        refine wp_region_quiet_below (by kernel_rfl) (by kernel_rfl) ?_
        repeat (go_big_quiet_step (first | (with_reducible exact rg (less_is l1 _)) | (with_reducible exact rg (less_is l2 _))))
        refine wpQuiet_nil ?_
        intro _ hw'
        obtain ⟨⟨dq, osq⟩, hw''⟩ := hw'
        subst hw''
        clear g0 g1 g2 g3
        go_wp2_with fail
        go_roundw
        case rel => exact ⟨k + 1, by omega, by go_num, y.trans (below_regrown _ _ _)⟩
        case measure => simp [intOf]; omega
      · clear hs e
        have hkjb : decide ((k : Int) < (j : Int)) = false := by simp; omega
        generalize (f k).1 = p at *
        generalize (f k).2 = q at *
        generalize (f j).1 = p' at *
        generalize (f j).2 = q' at *
        go_wp2_with fail
        refine wp_region_quiet_below (by kernel_rfl) (by kernel_rfl) ?_
        repeat (go_big_quiet_step (with_reducible exact rg (less_is l1 _)))
        refine wpQuiet_nil ?_
        intro _ hw'
        obtain ⟨⟨dq, osq⟩, hw''⟩ := hw'
        subst hw''
        clear g0 g1 g2 g3
        go_wp2_with fail
        go_roundw
        case rel => exact ⟨k + 1, by omega, by go_num, y.trans (below_regrown _ _ _)⟩
        case measure => simp [intOf]; omega
    · obtain rfl : k = n := by omega
      go_wp2_with fail
      go_ret
      exact ⟨rfl, y⟩

theorem walk (A : Option Addr) (n c : Nat) (f : Nat → Int × Int) (hc : n ≤ c) (hcm : c ≤ maxLen) (w : World) (hs : SeenP w A n f) :
    Calls Try.prog 6 #[.slice A n c] w (Ret w (.bool true)) := by
  unfold maxLen at hcm
  by_cases h0 : n = 0
  · subst h0; exact empty A c w
  · by_cases hn : n ≤ 100
    · exact few A n c f (by omega) hn w hs
    · exact many A n c (by omega) (by omega) w

set_option maxRecDepth 100000 in
theorem lifted (os : Os) (started : os.Started) (H : Type) (enc : TypeId × Value → H) :
    ReturnsInHanded {} Try.checked os 6 .any (Rows.costLeastSpec.pre6 enc Try.prog Try.f6 [] false) (Rows.costLeastSpec.post enc Try.prog Try.f6 false true false false) := by
  refine law_lift (C := Try.checked) own started (by kernel_rfl) Try.func6 laidOut rfl rfl Try.underlying4 (by kernel_rfl) ?_
    (ChangeSpec.witness6 (enc := enc) (C := Try.checked) false ⟨#[], #[.slice none 0 0], []⟩ 8 (by kernel_rfl) (by kernel_rfl) (by kernel_rfl) (by kernel_rfl)) ?_
  · intro H ds h
    match ds, h with
    | [_], _ => rfl
  · intro W base args ds p hval hA hlt hwt hsh
    rw [Try.params6] at hA hval
    obtain ⟨v0, vs0, d0, ds0, p0, q0, hargs, rfl, rfl, h0, r0⟩ := trodAll_cons hA
    obtain ⟨rfl, rfl, rfl⟩ := trodAll_nil r0
    obtain rfl : args = #[v0] := by cases args; simp_all
    obtain ⟨A0, n0, c0, f0, rfl, hc0, hm0, wf0, hs0⟩ := arg_pairs Try.underlying24 Try.underlying23 (by kernel_rfl) rfl rfl (by kernel_rfl) (by kernel_rfl) Try.underlying3 Try.underlying3 (hval 0 24 v0 rfl rfl) h0
    exact walk A0 n0 c0 f0 hc0 hm0 W hs0

theorem holds : Rows.CostLeastSaid :=
  OpenClaim.holds_of_wide 6 Try.f6 rfl rfl rfl rfl rfl rfl rfl ⟨rfl, rfl, rfl, rfl, rfl⟩ rfl rfl rfl rfl rfl (by kernel_rfl) Try.func6 (by kernel_rfl)
    (of_decide_eq_true (by kernel_rfl)) (by unfold Func.isWrapper; first | (rw [if_pos (by decide +kernel)]; kernel_rfl) | (rw [if_neg (by decide +kernel)]; exact ⟨rfl, rfl⟩))
    (fun os started H enc _ => lifted os started H enc)
end CostLeast
end Go.Proofs.Yticnkdabaebifaa

