/- The landed Check of layer 7: its small parts. -/
import Derived.Test.YtggedodfkjdegaaRefCheck07
namespace Go.Proofs.Ytggedodfkjdegaa
open Go.RowKit
namespace L07

/-- A number between two. -/
def wiB (n a b : Int) : Bool := decide (a ≤ n ∧ n ≤ b)
theorem within_any (n a b : Int) (w : World) : Calls Try.prog 20 #[.int .i64 n, .int .i64 a, .int .i64 b] w (fun e w' => e = .returned (.bool (wiB n a b)) ∧ w = w') := by
  by_cases h : a ≤ n
  · go_enter Try.func20, Try.ntmps20
    go_wp2_with fail
    go_ret
    exact ⟨ret_bool (by simp [wiB]; omega), rfl⟩
  · go_enter Try.func20, Try.ntmps20
    go_wp2_with fail
    go_ret
    exact ⟨ret_bool (by simp [wiB]; omega), rfl⟩
theorem place_any (n m : Int) (w : World) : Calls Try.prog 38 #[.int .i64 n, .int .i64 m] w (fun e w' => e = .returned (.bool (inB n m)) ∧ w = w') := by
  by_cases h : 0 ≤ n
  · go_enter Try.func38, Try.ntmps38
    go_wp2_with fail
    go_ret
    exact ⟨ret_bool (by simp [inB]; omega), rfl⟩
  · go_enter Try.func38, Try.ntmps38
    go_wp2_with fail
    go_ret
    exact ⟨ret_bool (by simp [inB]; omega), rfl⟩

theorem wi_fix (n : Int) : wiB n (-16777216) 16777215 = fixB n := rfl

set_option maxHeartbeats 1000000 in
theorem tfixes_any (A : Option Addr) (n c : Nat) (f : Nat → Int) (most : Int) (w : World) (hs : SeenF w A n f) (hc : n ≤ 9223372036854775807) :
    Calls Try.prog 22 #[.slice A n c, .int .i64 most] w (fun e w' => e = .returned (.bool (fixesB n f 0 most false)) ∧ w = w') := by
  by_cases h2 : most < (n : Int)
  · have e : fixesB n f 0 most false = false := by simp [fixesB]; omega
    rw [e]
    clear e
    go_enter Try.func22, Try.ntmps22
    go_wp2_with fail
    go_ret
    exact ⟨rfl, rfl⟩
  have e : fixesB n f 0 most false = allB (fun j => fixB (f j)) n := by
    rw [fixesB, show decide ((0 : Int) ≤ (n : Int) ∧ (n : Int) ≤ most) = true by simp; omega]; simp
  rw [e]
  clear e
  have L : ∀ k, k ≤ n → (k < n → fixB (f k) = false → allB (fun j => fixB (f j)) n = false) ∧ (k < n → fixB (f k) = true → allB (fun j => fixB (f j)) k = true → allB (fun j => fixB (f j)) (k + 1) = true) := fun k _ =>
    ⟨fun h h' => allB_no h h', fun _ h h' => by rw [allB, h', h]; rfl⟩
  have HL := Lib.hid L
  clear L
  go_enter Try.func22, Try.ntmps22
  go_wp2_with fail
  go_loop [13] (fun i => ∃ k : Nat, k ≤ n ∧ i = .int .i64 k ∧ Hid (allB (fun j => fixB (f j)) k = true)) (fun i => n - (intOf i).toNat)
  case atStart => exact ⟨0, by omega, rfl, rfl⟩
  case round =>
    obtain ⟨k, hk, rfl, hall⟩ := hrel
    by_cases hlt : k < n
    · have hL := HL.out k hk
      obtain ⟨ad, hA, g⟩ := hs.get hlt
      first | subst hA | (obtain rfl := Option.some.inj hA)
      cases hb : fixB (f k) with
      | true =>
        have HN := Lib.hid (hL.2 hlt hb hall.out)
        rw [← wi_fix] at hb
        clear hL
        generalize f k = x at *
        go_wp2_with (go_at_call 20; refine (within_any _ _ _ _).mono ?_; rintro e w' ⟨rfl, rfl⟩)
        go_round
        case rel => exact ⟨k + 1, by omega, by go_num, HN.out⟩
        case measure => simp [intOf]; omega
      | false =>
        have HN := Lib.hid (hL.1 hlt hb)
        rw [← wi_fix] at hb
        clear hL
        generalize f k = x at *
        go_wp2_with (go_at_call 20; refine (within_any _ _ _ _).mono ?_; rintro e w' ⟨rfl, rfl⟩)
        go_ret
        exact ⟨ret_bool HN.out.symm, rfl⟩
    · obtain rfl : k = n := by omega
      go_wp2_with fail
      go_ret
      exact ⟨ret_bool hall.out.symm, rfl⟩

theorem fixes_one (n : Nat) (f : Nat → Int) (most : Int) : fixesB n f 1 most true = (decide (0 < n) && (decide (f 0 = 0) && fixesB n f 0 most false)) := by
  unfold fixesB
  by_cases h0 : 0 < n
  · by_cases h1 : f 0 = 0
    · have e : decide ((1 : Int) ≤ (n : Int) ∧ (n : Int) ≤ most) = decide ((0 : Int) ≤ (n : Int) ∧ (n : Int) ≤ most) := by
        rw [Bool.eq_iff_iff]; simp; omega
      rw [e]; simp [h0, h1]
    · simp [h1]
  · simp [h0]

set_option maxHeartbeats 1000000 in
theorem table_any (A : Option Addr) (n c : Nat) (f : Nat → Int) (most : Int) (w : World) (hs : SeenF w A n f) (hc : n ≤ 9223372036854775807) :
    Calls Try.prog 21 #[.slice A n c, .int .i64 most] w (fun e w' => e = .returned (.bool (fixesB n f 1 most true)) ∧ w = w') := by
  rw [fixes_one]
  have T := Lib.hid (tfixes_any A n c f most w hs hc)
  by_cases h0 : 0 < n
  · obtain ⟨ad, rfl, g0⟩ := hs.get h0
    rw [addr_zero] at g0
    rw [decide_eq_true h0, Bool.true_and]
    have hn : ¬ n = 0 := by omega
    clear hs
    by_cases h1 : f 0 = 0
    · rw [decide_eq_true h1, Bool.true_and]
      rw [h1] at g0
      clear h1
      generalize fixesB n f 0 most false = b at *
      go_enter Try.func21, Try.ntmps21
      go_wp2_with fail
      refine T.out.mono ?_; rintro e w1 ⟨rfl, rfl⟩
      go_wp2_with fail
      go_ret
      exact ⟨rfl, rfl⟩
    · rw [decide_eq_false h1, Bool.false_and]
      have hb : (f 0 == 0) = false := by simpa using h1
      clear T h1
      generalize f 0 = x at *
      go_enter Try.func21, Try.ntmps21
      go_wp2_with fail
      go_ret
      exact ⟨rfl, rfl⟩
  · rw [decide_eq_false h0, Bool.false_and]
    obtain rfl : n = 0 := by omega
    clear T
    go_enter Try.func21, Try.ntmps21
    go_wp2_with fail
    go_ret
    exact ⟨rfl, rfl⟩

set_option maxHeartbeats 1000000 in
theorem tagged_any (v0 v1 v2 v3 v4 v5 : Int) (n : Nat) (w : World) (h4 : Wide v4) (h5 : Wide v5) :
    Calls Try.prog 39 #[.agg #[.int .i64 v0, .int .i64 v1, .int .i64 v2, .int .i64 v3, .int .i64 v4, .int .i64 v5], .int .i64 n] w (Ret w (.bool (tagB v4 v5 n))) := by
  have cs : (v4 = 0 ∧ v5 = 0) ∨ (v4 = 1 ∧ inB v5 n = true) ∨ (v4 = 0 ∧ v5 ≠ 0) ∨ (v4 = 1 ∧ inB v5 n = false) ∨ (v4 ≠ 0 ∧ v4 ≠ 1) := by cases inB v5 n <;> simp <;> omega
  obtain ⟨a4, b4⟩ := h4
  obtain ⟨a5, b5⟩ := h5
  rcases cs with ⟨rfl, rfl⟩ | ⟨rfl, g⟩ | ⟨rfl, g⟩ | ⟨rfl, g⟩ | ⟨g, g'⟩
  · go_enter Try.func39, Try.ntmps39
    go_wp2_with fail
    go_ret
    exact ⟨ret_bool (by simp [tagB]), (Ext.refl _).alloc _⟩
  · have e : tagB 1 v5 n = true := by simp [tagB, g]
    rw [e]
    clear e
    go_enter Try.func39, Try.ntmps39
    go_wp2_with (go_at_call 38; refine (place_any _ _ _).mono ?_; rintro e w' ⟨rfl, rfl⟩)
    go_ret
    exact ⟨rfl, (Ext.refl _).alloc _⟩
  · have e : tagB 0 v5 n = false := by simp [tagB, g]
    rw [e]
    clear e
    have g1 : (v5 == 0) = false := by simpa using g
    go_enter Try.func39, Try.ntmps39
    go_wp2_with fail
    go_ret
    exact ⟨rfl, (Ext.refl _).alloc _⟩
  · have e : tagB 1 v5 n = false := by simp [tagB, g]
    rw [e]
    clear e
    go_enter Try.func39, Try.ntmps39
    go_wp2_with (go_at_call 38; refine (place_any _ _ _).mono ?_; rintro e w' ⟨rfl, rfl⟩)
    go_ret
    exact ⟨rfl, (Ext.refl _).alloc _⟩
  · have e : tagB v4 v5 n = false := by simp [tagB, g, g']
    rw [e]
    clear e
    have g1 : (v4 == 0) = false := by simpa using g
    have g2 : (v4 == 1) = false := by simpa using g'
    go_enter Try.func39, Try.ntmps39
    go_wp2_with fail
    go_ret
    exact ⟨rfl, (Ext.refl _).alloc _⟩
end L07
end Go.Proofs.Ytggedodfkjdegaa

