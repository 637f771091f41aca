/- ShareMakes: parts are as many as weights, are the total together, a greater weight has no lesser part, parts of one weight differ by 1 at most, and a weight of 0 has none (at most sixty weights): for every input. -/
import Derived.Test.YtnkomnmdmbegiaaAwake04
import Derived.OpenShut
import Derived.BigQuiet
namespace Go.Proofs.Ytnkomnmdmbegiaa
open Go.ChangeShapes Go.WideShapes Go.ChangeAt Go.RowKit
namespace ShareMakes
open L04

set_option maxHeartbeats 8000000 in
set_option maxRecDepth 100000 in
theorem few (a : Int) (A : Option Addr) (n c : Nat) (f : Nat → Int) (hn : n ≤ 60) (w : World) (hs : SeenF w A n f) :
    Calls Try.prog 4 #[.int .i64 a, .slice A n c] w (Ret w (.bool true)) := by
  have hnz : ¬ (60 < (n : Int)) := by omega
  have HS := Lib.hid hs
  clear hs
  by_cases h : MayP a n f
  · have HM := Lib.hid h
    have HT := Lib.hid (part_sum h)
    clear h
    go_enter Try.func4, Try.ntmps4
    go_wp2_with fail
    refine (L04.awake_any _).mono ?_; rintro e w1 ⟨rfl, x1⟩
    go_wp2_with fail
    refine (split_yes a A n c f _ (HS.out.ext x1) HM.out).mono ?_; rintro e w2 ⟨x2, b2, _, _, rfl, r2⟩
    have R2 := Lib.hid r2
    have X2 := Lib.hid (x1.trans x2)
    have S2 := Lib.hid (HS.out.ext X2.out)
    clear r2 x1 x2 HS
    go_wp2_with fail
    go_loopw [8, 9] (fun s i wr => ∃ (k : Nat) (z : Int), k ≤ n ∧ i = .int .i64 k ∧ s = .int .i64 z ∧ Hid (z = sumF (partF a n f) k) ∧ Ext w2 wr) (fun _ i _ => n - (intOf i).toNat)
    case atStart => exact ⟨0, 0, by omega, rfl, rfl, rfl, Ext.refl _⟩
    case round =>
      obtain ⟨k, z, hk, rfl, rfl, ha, hx⟩ := hrel
      by_cases hlt : k < n
      · obtain ⟨c1, _⟩ := (R2.out.ext hx) k hlt
        have HX := Lib.hid hx
        clear hx
        have h1 := parts_small HM.out hk
        have h2 := parts_small (k := k + 1) HM.out hlt
        have h3 : sumF (partF a n f) (k + 1) = z + partF a n f k := by rw [ha.out]; rfl
        rw [h3] at h2
        rw [← ha.out] at h1
        have H3 := Lib.hid h3
        clear h3 ha
        have P0 := part_nonneg HM.out k hlt
        have P1 := Lib.hid (fun h => part_none HM.out hlt h)
        have P2 := Lib.hid (fun (j : Nat) (hj : j < n) (h : f j < f k) => part_mono HM.out hlt hj (Int.le_of_lt h) (.inl h))
        have P3 := Lib.hid (fun (j : Nat) (h : f k = f j) => (⟨part_near h, part_near h.symm⟩ : partF a n f k - partF a n f j ≤ 1 ∧ partF a n f j - partF a n f k ≤ 1))
        have P4 := Lib.hid (fun (j : Nat) (hj : j < n) => (⟨part_nonneg HM.out j hj, part_le HM.out j hj, part_le HM.out k hlt, HM.out.1.2.1⟩ : 0 ≤ partF a n f j ∧ partF a n f j ≤ a ∧ partF a n f k ≤ a ∧ a ≤ 1073741823))
        generalize gp : partF a n f k = p at *
        generalize gv : f k = v at *
        have GP := Lib.hid gp
        have GV := Lib.hid gv
        clear gp gv
        go_wp2_with fail
        clear c1
        go_loopw [10] (fun j wr => ∃ (m : Nat), m ≤ n ∧ j = .int .i64 m ∧ Ext w2 wr) (fun j _ => n - (intOf j).toNat)
        case atStart => exact ⟨0, by omega, rfl, HX.out⟩
        case round =>
          obtain ⟨m, hm, rfl, hy⟩ := hrel
          by_cases hlt2 : m < n
          · obtain ⟨c1, _⟩ := (R2.out.ext hy) k hlt
            rw [GP.out] at c1
            obtain ⟨ad, rfl, c3⟩ := (S2.out.ext hy).get hlt
            rw [GV.out] at c3
            obtain ⟨c4, _⟩ := (R2.out.ext hy) m hlt2
            obtain ⟨ad2, he2, c5⟩ := (S2.out.ext hy).get hlt2
            obtain rfl : ad = ad2 := by simpa using he2
            have q2 := P2.out m hlt2
            have q3 := P3.out m
            have q4 := P4.out m hlt2
            clear he2
            generalize partF a n f m = r at *
            generalize f m = u at *
            have Q1 := Lib.hid q2
            have Q3 := Lib.hid q3
            clear q2 q3
            have L1 : decide (p < 0) = false := decide_eq_false (by omega)
            have HY := Lib.hid hy
            have W1 : IntKind.i64.wrap (p - r) = p - r := by rw [IntKind.wrap_i64]; omega
            have W2 : IntKind.i64.wrap (r - p) = r - p := by rw [IntKind.wrap_i64]; omega
            clear hy q4 P0 h1 h2
            rcases Int.lt_trichotomy v u with hvu | hvu | hvu
            · have e1 : decide (u < v) = false := decide_eq_false (by omega)
              have e2 : (v == u) = false := by rw [beq_eq_false_iff_ne]; omega
              by_cases hv : v = 0
              · have e8 : (v == 0) = true := by rw [beq_iff_eq]; exact hv
                have e9 : decide (0 < p) = false := decide_eq_false (by have := P1.out hv; omega)
                clear hv hvu
                go_wp2_with fail
                simp only [List.append_eq, List.cons_append, List.nil_append]
                go_big_quiet (fail)
                go_wp2_with fail
                go_roundw
                case rel => exact ⟨m + 1, by omega, by go_num, HY.out.drewN _⟩
                case measure => simp [intOf]; omega
              · have e8 : (v == 0) = false := by rw [beq_eq_false_iff_ne]; exact hv
                clear hv hvu
                go_wp2_with fail
                simp only [List.append_eq, List.cons_append, List.nil_append]
                go_big_quiet (fail)
                go_wp2_with fail
                go_roundw
                case rel => exact ⟨m + 1, by omega, by go_num, HY.out.drewN _⟩
                case measure => simp [intOf]; omega
            · have e3 := Q3.out hvu
              have e1 : decide (u < v) = false := decide_eq_false (by omega)
              have e2 : (v == u) = true := by rw [beq_iff_eq]; exact hvu
              have e4 : decide (1 < p - r) = false := decide_eq_false (by omega)
              have e5 : decide (1 < r - p) = false := decide_eq_false (by omega)
              clear e3
              by_cases hv : v = 0
              · have e8 : (v == 0) = true := by rw [beq_iff_eq]; exact hv
                have e9 : decide (0 < p) = false := decide_eq_false (by have := P1.out hv; omega)
                clear hv hvu
                go_wp2_with fail
                simp only [List.append_eq, List.cons_append, List.nil_append]
                go_big_quiet (fail)
                go_wp2_with fail
                go_roundw
                case rel => exact ⟨m + 1, by omega, by go_num, HY.out.drewN _⟩
                case measure => simp [intOf]; omega
              · have e8 : (v == 0) = false := by rw [beq_eq_false_iff_ne]; exact hv
                clear hv hvu
                go_wp2_with fail
                simp only [List.append_eq, List.cons_append, List.nil_append]
                go_big_quiet (fail)
                go_wp2_with fail
                go_roundw
                case rel => exact ⟨m + 1, by omega, by go_num, HY.out.drewN _⟩
                case measure => simp [intOf]; omega
            · have e6 := Q1.out hvu
              have e1 : decide (u < v) = true := decide_eq_true hvu
              have e2 : (v == u) = false := by rw [beq_eq_false_iff_ne]; omega
              have e7 : decide (p < r) = false := decide_eq_false (by omega)
              clear e6
              by_cases hv : v = 0
              · have e8 : (v == 0) = true := by rw [beq_iff_eq]; exact hv
                have e9 : decide (0 < p) = false := decide_eq_false (by have := P1.out hv; omega)
                clear hv hvu
                go_wp2_with fail
                simp only [List.append_eq, List.cons_append, List.nil_append]
                go_big_quiet (fail)
                go_wp2_with fail
                go_roundw
                case rel => exact ⟨m + 1, by omega, by go_num, HY.out.drewN _⟩
                case measure => simp [intOf]; omega
              · have e8 : (v == 0) = false := by rw [beq_eq_false_iff_ne]; exact hv
                clear hv hvu
                go_wp2_with fail
                simp only [List.append_eq, List.cons_append, List.nil_append]
                go_big_quiet (fail)
                go_wp2_with fail
                go_roundw
                case rel => exact ⟨m + 1, by omega, by go_num, HY.out.drewN _⟩
                case measure => simp [intOf]; omega
          · obtain rfl : m = n := by omega
            have HY := Lib.hid hy
            clear hy
            go_wp2_with fail
            go_roundw
            case rel => exact ⟨k + 1, z + p, by omega, by go_num, rfl, H3.out.symm, HY.out⟩
            case measure => simp [intOf]; omega
      · obtain rfl : k = n := by omega
        obtain rfl : z = a := by rw [ha.out]; exact HT.out
        go_wp2_with fail
        go_ret
        exact ⟨rfl, X2.out.trans hx⟩
  · go_enter Try.func4, Try.ntmps4
    go_wp2_with fail
    refine (L04.awake_any _).mono ?_; rintro e w1 ⟨rfl, x1⟩
    go_wp2_with fail
    refine (split_no a A n c f _ (HS.out.ext x1) (by omega) h).mono ?_; rintro e w2 ⟨rfl, x2⟩
    clear h
    go_wp2_with fail
    go_ret
    exact ⟨rfl, x1.trans x2⟩

theorem walk (a : Int) (_ : -9223372036854775808 ≤ a ∧ a ≤ 9223372036854775807) (A : Option Addr) (l : List Int) (c : Nat) (hc : l.length ≤ c) (hcm : c ≤ maxLen) (_ : ∀ n ∈ l, (Lit.int .i64 n).wf = true) (w : World)
    (hs : Seen w.heap.size w A (l.map (.int .i64))) :
    Calls Try.prog 4 #[.int .i64 a, .slice A l.length c] w (Ret w (.bool true)) := by
  by_cases hl : l.length ≤ 60
  · exact few a A l.length c _ hl w (Seen.fn hs)
  · have h0 : 60 < (l.length : Int) := by omega
    have h1 : l.length ≤ 9223372036854775807 := by unfold maxLen at hcm; omega
    clear hs hcm hl
    go_enter Try.func4, Try.ntmps4
    go_wp2_with fail
    refine (L04.awake_any _).mono ?_; rintro e w1 ⟨rfl, x1⟩
    go_wp2_with fail
    go_ret
    exact ⟨rfl, x1⟩

set_option maxRecDepth 100000 in
theorem lifted (os : Os) (started : os.Started) (H : Type) (enc : TypeId × Value → H) :
    ReturnsInHanded {} Try.checked os 4 .any (Rows.shareMakesSpec.pre6 enc Try.prog Try.f4 [] false) (Rows.shareMakesSpec.post enc Try.prog Try.f4 false true false false) := by
  refine law_lift (C := Try.checked) own started (by kernel_rfl) Try.func4 laidOut rfl rfl Try.underlying4 (by kernel_rfl) ?_
    (ChangeSpec.witness6 (enc := enc) (C := Try.checked) false ⟨#[], #[.int .i64 0, .slice none 0 0], []⟩ 8 (by kernel_rfl) (by kernel_rfl) (by kernel_rfl) (by kernel_rfl)) ?_
  · intro H ds h
    match ds, h with
    | [_, _], _ => rfl
  · intro W base args ds p hval hA hlt hwt hsh
    rw [Try.params4] at hA hval
    obtain ⟨v0, vs0, d0, ds0, p0, q0, hargs, rfl, rfl, h0, r0⟩ := trodAll_cons hA
    obtain ⟨v1, vs1, d1, ds1, p1, q1, rfl, rfl, rfl, h1, r1⟩ := trodAll_cons r0
    obtain ⟨rfl, rfl, rfl⟩ := trodAll_nil r1
    obtain rfl : args = #[v0, v1] := by cases args; simp_all
    obtain ⟨a0, rfl, rfl, rfl, wf0⟩ := open_int Try.underlying3 (hval 0 3 v0 rfl rfl) h0
    obtain ⟨A1, l1, c1, rfl, hc1, hm1, wf1, hs1⟩ := seen_ints Try.underlying22 Try.underlying3 (by kernel_rfl) (hval 1 22 v1 rfl rfl) h1
    exact walk a0 (bounds_i64 wf0) A1 l1 c1 hc1 hm1 wf1 W hs1

theorem holds : Rows.ShareMakesSaid :=
  OpenClaim.holds_of_wide 4 Try.f4 rfl rfl rfl rfl rfl rfl rfl ⟨rfl, rfl, rfl, rfl, rfl⟩ rfl rfl rfl rfl rfl (by kernel_rfl) Try.func4 (by kernel_rfl)
    (of_decide_eq_true (by kernel_rfl)) (by unfold Func.isWrapper; first | (rw [if_pos (by decide +kernel)]; kernel_rfl) | (rw [if_neg (by decide +kernel)]; exact ⟨rfl, rfl⟩))
    (fun os started H enc _ => lifted os started H enc)
end ShareMakes
end Go.Proofs.Ytnkomnmdmbegiaa

