/- Contracts of layer 1 (scaled) and of the document's answers for it. -/
import Derived.Test.YtljlafihifpnkaaSlices
namespace Go.Proofs.Ytljlafihifpnkaa
open Go.RowKit

/-- A dimension. -/
def isDim (n : Int) : Bool := decide (-1073741823 ≤ n ∧ n ≤ 1073741823)
theorem isDim_iff {n : Int} : isDim n = true ↔ -1073741823 ≤ n ∧ n ≤ 1073741823 := by simp [isDim]
theorem isDim_not {n : Int} : isDim n = false ↔ n < -1073741823 ∨ 1073741823 < n := by
  simp [isDim]; omega

theorem ret_bool {a b : Bool} (h : a = b) : Ending.returned (.bool a) = .returned (.bool b) := by rw [h]
theorem ret_int {k : IntKind} {a b : Int} (h : a = b) : Ending.returned (.int k a) = .returned (.int k b) := by rw [h]

theorem check_any (n : Int) (w : World) :
    Calls Try.prog 15 #[.int .i64 n] w fun e w' => e = .returned (.bool (isDim n)) ∧ w = w' := by
  by_cases h1 : -1073741823 ≤ n
  · go_enter Try.func15, Try.ntmps15
    go_wp2
    go_ret
    exact ⟨ret_bool (by simp [isDim]; omega), rfl⟩
  · go_enter Try.func15, Try.ntmps15
    go_wp2
    go_ret
    exact ⟨ret_bool (by simp [isDim]; omega), rfl⟩

theorem rcheck_any (n : Int) (w : World) :
    Calls Try.prog 16 #[.int .i64 n] w fun e w' => e = .returned (.bool (isDim n)) ∧ w = w' := by
  by_cases h1 : -1073741823 ≤ n
  · go_enter Try.func16, Try.ntmps16
    go_wp2
    go_ret
    exact ⟨ret_bool (by simp [isDim]; omega), rfl⟩
  · go_enter Try.func16, Try.ntmps16
    go_wp2
    go_ret
    exact ⟨ret_bool (by simp [isDim]; omega), rfl⟩

/-- What two dimensions and what is made of them come to. -/
def keptV (a b n : Int) : Int := if isDim a = true ∧ isDim b = true ∧ isDim n = true then n else 0
def keptE (a b n : Int) : Int := if isDim a = true ∧ isDim b = true ∧ isDim n = true then 0 else 10
theorem kept_yes {a b n : Int} (ha : isDim a = true) (hb : isDim b = true) (hn : isDim n = true) : keptV a b n = n ∧ keptE a b n = 0 := by simp [keptV, keptE, ha, hb, hn]
theorem kept_no {a b n : Int} (h : isDim a = false ∨ isDim b = false ∨ isDim n = false) : keptV a b n = 0 ∧ keptE a b n = 10 := by
  rcases h with h | h | h <;> simp [keptV, keptE, h]
theorem kept_zero {a b n : Int} (h : keptE a b n = 0) : isDim a = true ∧ isDim b = true ∧ isDim n = true ∧ keptV a b n = n := by
  unfold keptE at h
  unfold keptV
  split at h
  · rename_i k; exact ⟨k.1, k.2.1, k.2.2, if_pos k⟩
  · cases h
theorem kept_err (a b n : Int) : keptE a b n = 0 ∨ keptE a b n = 10 := by
  unfold keptE; split <;> simp

/-- A number, or 0. -/
def smallV (n : Int) : Int := if isDim n = true then n else 0
theorem smallV_yes {n : Int} (h : isDim n = true) : smallV n = n := by simp [smallV, h]
theorem smallV_in (n : Int) : isDim (smallV n) = true := by
  unfold smallV; split
  · assumption
  · rfl
theorem add_in {a b : Int} (ha : isDim a = true) (hb : isDim b = true) : -9223372036854775808 ≤ a + b ∧ a + b ≤ 9223372036854775807 := by
  have := isDim_iff.1 ha; have := isDim_iff.1 hb; omega
theorem sub_in {a b : Int} (ha : isDim a = true) (hb : isDim b = true) : -9223372036854775808 ≤ a - b ∧ a - b ≤ 9223372036854775807 := by
  have := isDim_iff.1 ha; have := isDim_iff.1 hb; omega
theorem mul_le_of_abs {a b m : Int} (ha : a.natAbs ≤ m.natAbs) (hb : b.natAbs ≤ m.natAbs) : (a * b).natAbs ≤ m.natAbs * m.natAbs := by
  rw [Int.natAbs_mul]; exact Nat.mul_le_mul ha hb
theorem times_in {a b : Int} (ha : isDim a = true) (hb : isDim b = true) : -9223372036854775808 ≤ a * b ∧ a * b ≤ 9223372036854775807 := by
  have h1 := isDim_iff.1 ha
  have h2 := isDim_iff.1 hb
  have h := mul_le_of_abs (a := a) (b := b) (m := 1073741823) (by omega) (by omega)
  have e : (1073741823 : Int).natAbs * (1073741823 : Int).natAbs = 1152921502459363329 := by decide
  omega

theorem small_any (n : Int) (w : World) : Calls Try.prog 22 #[.int .i64 n] w fun e w' => e = .returned (.int .i64 (smallV n)) ∧ w = w' := by
  cases h : isDim n with
  | true =>
    go_enter Try.func22, Try.ntmps22
    go_wp2_with (first | (go_at_call 16; refine (rcheck_any _ _).mono ?_; rintro e w' ⟨rfl, rfl⟩))
    go_ret
    exact ⟨ret_int (by simp [smallV, h]), rfl⟩
  | false =>
    go_enter Try.func22, Try.ntmps22
    go_wp2_with (first | (go_at_call 16; refine (rcheck_any _ _).mono ?_; rintro e w' ⟨rfl, rfl⟩))
    go_ret
    exact ⟨ret_int (by simp [smallV, h]), rfl⟩

theorem add_any (a b : Int) (w : World) :
    Calls Try.prog 9 #[.int .i64 a, .int .i64 b] w (Ret w (.tuple #[.int .i64 (keptV a b (a + b)), .int .i64 (keptE a b (a + b))])) := by
  cases ha : isDim a with
  | false =>
    rw [(kept_no (.inl ha)).1, (kept_no (.inl ha)).2]
    go_enter Try.func9, Try.ntmps9
    go_wp2_with (first | (go_at_call 15; refine (check_any _ _).mono ?_; rintro e w' ⟨rfl, rfl⟩) | go_in)
    go_ret2
    exact ⟨rfl, ((Ext.refl _).alloc _).alloc _⟩
  | true =>
    cases hb : isDim b with
    | false =>
      rw [(kept_no (.inr (.inl hb))).1, (kept_no (.inr (.inl hb))).2]
      go_enter Try.func9, Try.ntmps9
      go_wp2_with (first | (go_at_call 15; refine (check_any _ _).mono ?_; rintro e w' ⟨rfl, rfl⟩) | go_in)
      go_ret2
      exact ⟨rfl, ((Ext.refl _).alloc _).alloc _⟩
    | true =>
      have hw : -9223372036854775808 ≤ a + b ∧ a + b ≤ 9223372036854775807 := add_in ha hb
      obtain ⟨hw1, hw2⟩ := hw
      cases hn : isDim (a + b) with
      | false =>
        rw [(kept_no (.inr (.inr hn))).1, (kept_no (.inr (.inr hn))).2]
        go_enter Try.func9, Try.ntmps9
        go_wp2_with (first | (go_at_call 15; refine (check_any _ _).mono ?_; rintro e w' ⟨rfl, rfl⟩) | go_in)
        go_ret2
        exact ⟨rfl, ((Ext.refl _).alloc _).alloc _⟩
      | true =>
        rw [(kept_yes ha hb hn).1, (kept_yes ha hb hn).2]
        go_enter Try.func9, Try.ntmps9
        go_wp2_with (first | (go_at_call 15; refine (check_any _ _).mono ?_; rintro e w' ⟨rfl, rfl⟩) | go_in)
        go_ret2
        exact ⟨rfl, ((Ext.refl _).alloc _).alloc _⟩

theorem radd_any (a b : Int) (w : World) :
    Calls Try.prog 10 #[.int .i64 a, .int .i64 b] w (Ret w (.tuple #[.int .i64 (keptV a b (a + b)), .int .i64 (keptE a b (a + b))])) := by
  have hs1 := smallV_in a
  have hs2 := smallV_in b
  have hw : -9223372036854775808 ≤ smallV a + smallV b ∧ smallV a + smallV b ≤ 9223372036854775807 := add_in hs1 hs2
  obtain ⟨hw1, hw2⟩ := hw
  clear hs1 hs2
  cases ha : isDim a with
  | false =>
    rw [(kept_no (.inl ha)).1, (kept_no (.inl ha)).2]
    go_enter Try.func10, Try.ntmps10
    go_wp2_with (first | (go_at_call 16; refine (rcheck_any _ _).mono ?_; rintro e w' ⟨rfl, rfl⟩) | (go_at_call 22; refine (small_any _ _).mono ?_; rintro e w' ⟨rfl, rfl⟩) | go_in)
    go_ret2
    exact ⟨rfl, Ext.refl _⟩
  | true =>
    cases hb : isDim b with
    | false =>
      rw [(kept_no (.inr (.inl hb))).1, (kept_no (.inr (.inl hb))).2]
      go_enter Try.func10, Try.ntmps10
      go_wp2_with (first | (go_at_call 16; refine (rcheck_any _ _).mono ?_; rintro e w' ⟨rfl, rfl⟩) | (go_at_call 22; refine (small_any _ _).mono ?_; rintro e w' ⟨rfl, rfl⟩) | go_in)
      go_ret2
      exact ⟨rfl, Ext.refl _⟩
    | true =>
      have hsa := smallV_yes ha
      have hsb := smallV_yes hb
      rw [hsa, hsb] at hw1 hw2
      cases hn : isDim (a + b) with
      | false =>
        rw [(kept_no (.inr (.inr hn))).1, (kept_no (.inr (.inr hn))).2]
        go_enter Try.func10, Try.ntmps10
        go_wp2_with (first | (go_at_call 16; refine (rcheck_any _ _).mono ?_; rintro e w' ⟨rfl, rfl⟩) | (go_at_call 22; refine (small_any _ _).mono ?_; rintro e w' ⟨rfl, rfl⟩) | go_in)
        go_ret2
        exact ⟨rfl, Ext.refl _⟩
      | true =>
        rw [(kept_yes ha hb hn).1, (kept_yes ha hb hn).2]
        go_enter Try.func10, Try.ntmps10
        go_wp2_with (first | (go_at_call 16; refine (rcheck_any _ _).mono ?_; rintro e w' ⟨rfl, rfl⟩) | (go_at_call 22; refine (small_any _ _).mono ?_; rintro e w' ⟨rfl, rfl⟩) | go_in)
        go_ret2
        exact ⟨rfl, Ext.refl _⟩

theorem sub_any (a b : Int) (w : World) :
    Calls Try.prog 11 #[.int .i64 a, .int .i64 b] w (Ret w (.tuple #[.int .i64 (keptV a b (a - b)), .int .i64 (keptE a b (a - b))])) := by
  cases ha : isDim a with
  | false =>
    rw [(kept_no (.inl ha)).1, (kept_no (.inl ha)).2]
    go_enter Try.func11, Try.ntmps11
    go_wp2_with (first | (go_at_call 15; refine (check_any _ _).mono ?_; rintro e w' ⟨rfl, rfl⟩) | go_in)
    go_ret2
    exact ⟨rfl, ((Ext.refl _).alloc _).alloc _⟩
  | true =>
    cases hb : isDim b with
    | false =>
      rw [(kept_no (.inr (.inl hb))).1, (kept_no (.inr (.inl hb))).2]
      go_enter Try.func11, Try.ntmps11
      go_wp2_with (first | (go_at_call 15; refine (check_any _ _).mono ?_; rintro e w' ⟨rfl, rfl⟩) | go_in)
      go_ret2
      exact ⟨rfl, ((Ext.refl _).alloc _).alloc _⟩
    | true =>
      have hw : -9223372036854775808 ≤ a - b ∧ a - b ≤ 9223372036854775807 := sub_in ha hb
      obtain ⟨hw1, hw2⟩ := hw
      cases hn : isDim (a - b) with
      | false =>
        rw [(kept_no (.inr (.inr hn))).1, (kept_no (.inr (.inr hn))).2]
        go_enter Try.func11, Try.ntmps11
        go_wp2_with (first | (go_at_call 15; refine (check_any _ _).mono ?_; rintro e w' ⟨rfl, rfl⟩) | go_in)
        go_ret2
        exact ⟨rfl, ((Ext.refl _).alloc _).alloc _⟩
      | true =>
        rw [(kept_yes ha hb hn).1, (kept_yes ha hb hn).2]
        go_enter Try.func11, Try.ntmps11
        go_wp2_with (first | (go_at_call 15; refine (check_any _ _).mono ?_; rintro e w' ⟨rfl, rfl⟩) | go_in)
        go_ret2
        exact ⟨rfl, ((Ext.refl _).alloc _).alloc _⟩

theorem rsub_any (a b : Int) (w : World) :
    Calls Try.prog 12 #[.int .i64 a, .int .i64 b] w (Ret w (.tuple #[.int .i64 (keptV a b (a - b)), .int .i64 (keptE a b (a - b))])) := by
  have hs1 := smallV_in a
  have hs2 := smallV_in b
  have hw : -9223372036854775808 ≤ smallV a - smallV b ∧ smallV a - smallV b ≤ 9223372036854775807 := sub_in hs1 hs2
  obtain ⟨hw1, hw2⟩ := hw
  clear hs1 hs2
  cases ha : isDim a with
  | false =>
    rw [(kept_no (.inl ha)).1, (kept_no (.inl ha)).2]
    go_enter Try.func12, Try.ntmps12
    go_wp2_with (first | (go_at_call 16; refine (rcheck_any _ _).mono ?_; rintro e w' ⟨rfl, rfl⟩) | (go_at_call 22; refine (small_any _ _).mono ?_; rintro e w' ⟨rfl, rfl⟩) | go_in)
    go_ret2
    exact ⟨rfl, Ext.refl _⟩
  | true =>
    cases hb : isDim b with
    | false =>
      rw [(kept_no (.inr (.inl hb))).1, (kept_no (.inr (.inl hb))).2]
      go_enter Try.func12, Try.ntmps12
      go_wp2_with (first | (go_at_call 16; refine (rcheck_any _ _).mono ?_; rintro e w' ⟨rfl, rfl⟩) | (go_at_call 22; refine (small_any _ _).mono ?_; rintro e w' ⟨rfl, rfl⟩) | go_in)
      go_ret2
      exact ⟨rfl, Ext.refl _⟩
    | true =>
      have hsa := smallV_yes ha
      have hsb := smallV_yes hb
      rw [hsa, hsb] at hw1 hw2
      cases hn : isDim (a - b) with
      | false =>
        rw [(kept_no (.inr (.inr hn))).1, (kept_no (.inr (.inr hn))).2]
        go_enter Try.func12, Try.ntmps12
        go_wp2_with (first | (go_at_call 16; refine (rcheck_any _ _).mono ?_; rintro e w' ⟨rfl, rfl⟩) | (go_at_call 22; refine (small_any _ _).mono ?_; rintro e w' ⟨rfl, rfl⟩) | go_in)
        go_ret2
        exact ⟨rfl, Ext.refl _⟩
      | true =>
        rw [(kept_yes ha hb hn).1, (kept_yes ha hb hn).2]
        go_enter Try.func12, Try.ntmps12
        go_wp2_with (first | (go_at_call 16; refine (rcheck_any _ _).mono ?_; rintro e w' ⟨rfl, rfl⟩) | (go_at_call 22; refine (small_any _ _).mono ?_; rintro e w' ⟨rfl, rfl⟩) | go_in)
        go_ret2
        exact ⟨rfl, Ext.refl _⟩

theorem times_any (a b : Int) (w : World) :
    Calls Try.prog 13 #[.int .i64 a, .int .i64 b] w (Ret w (.tuple #[.int .i64 (keptV a b (a * b)), .int .i64 (keptE a b (a * b))])) := by
  cases ha : isDim a with
  | false =>
    rw [(kept_no (.inl ha)).1, (kept_no (.inl ha)).2]
    go_enter Try.func13, Try.ntmps13
    go_wp2_with (first | (go_at_call 15; refine (check_any _ _).mono ?_; rintro e w' ⟨rfl, rfl⟩) | go_in)
    go_ret2
    exact ⟨rfl, ((Ext.refl _).alloc _).alloc _⟩
  | true =>
    cases hb : isDim b with
    | false =>
      rw [(kept_no (.inr (.inl hb))).1, (kept_no (.inr (.inl hb))).2]
      go_enter Try.func13, Try.ntmps13
      go_wp2_with (first | (go_at_call 15; refine (check_any _ _).mono ?_; rintro e w' ⟨rfl, rfl⟩) | go_in)
      go_ret2
      exact ⟨rfl, ((Ext.refl _).alloc _).alloc _⟩
    | true =>
      have hw : -9223372036854775808 ≤ a * b ∧ a * b ≤ 9223372036854775807 := times_in ha hb
      obtain ⟨hw1, hw2⟩ := hw
      cases hn : isDim (a * b) with
      | false =>
        rw [(kept_no (.inr (.inr hn))).1, (kept_no (.inr (.inr hn))).2]
        go_enter Try.func13, Try.ntmps13
        go_wp2_with (first | (go_at_call 15; refine (check_any _ _).mono ?_; rintro e w' ⟨rfl, rfl⟩) | go_in)
        go_ret2
        exact ⟨rfl, ((Ext.refl _).alloc _).alloc _⟩
      | true =>
        rw [(kept_yes ha hb hn).1, (kept_yes ha hb hn).2]
        go_enter Try.func13, Try.ntmps13
        go_wp2_with (first | (go_at_call 15; refine (check_any _ _).mono ?_; rintro e w' ⟨rfl, rfl⟩) | go_in)
        go_ret2
        exact ⟨rfl, ((Ext.refl _).alloc _).alloc _⟩

theorem rtimes_any (a b : Int) (w : World) :
    Calls Try.prog 14 #[.int .i64 a, .int .i64 b] w (Ret w (.tuple #[.int .i64 (keptV a b (a * b)), .int .i64 (keptE a b (a * b))])) := by
  have hs1 := smallV_in a
  have hs2 := smallV_in b
  have hw : -9223372036854775808 ≤ smallV a * smallV b ∧ smallV a * smallV b ≤ 9223372036854775807 := times_in hs1 hs2
  obtain ⟨hw1, hw2⟩ := hw
  clear hs1 hs2
  cases ha : isDim a with
  | false =>
    rw [(kept_no (.inl ha)).1, (kept_no (.inl ha)).2]
    go_enter Try.func14, Try.ntmps14
    go_wp2_with (first | (go_at_call 16; refine (rcheck_any _ _).mono ?_; rintro e w' ⟨rfl, rfl⟩) | (go_at_call 22; refine (small_any _ _).mono ?_; rintro e w' ⟨rfl, rfl⟩) | go_in)
    go_ret2
    exact ⟨rfl, Ext.refl _⟩
  | true =>
    cases hb : isDim b with
    | false =>
      rw [(kept_no (.inr (.inl hb))).1, (kept_no (.inr (.inl hb))).2]
      go_enter Try.func14, Try.ntmps14
      go_wp2_with (first | (go_at_call 16; refine (rcheck_any _ _).mono ?_; rintro e w' ⟨rfl, rfl⟩) | (go_at_call 22; refine (small_any _ _).mono ?_; rintro e w' ⟨rfl, rfl⟩) | go_in)
      go_ret2
      exact ⟨rfl, Ext.refl _⟩
    | true =>
      have hsa := smallV_yes ha
      have hsb := smallV_yes hb
      rw [hsa, hsb] at hw1 hw2
      cases hn : isDim (a * b) with
      | false =>
        rw [(kept_no (.inr (.inr hn))).1, (kept_no (.inr (.inr hn))).2]
        go_enter Try.func14, Try.ntmps14
        go_wp2_with (first | (go_at_call 16; refine (rcheck_any _ _).mono ?_; rintro e w' ⟨rfl, rfl⟩) | (go_at_call 22; refine (small_any _ _).mono ?_; rintro e w' ⟨rfl, rfl⟩) | go_in)
        go_ret2
        exact ⟨rfl, Ext.refl _⟩
      | true =>
        rw [(kept_yes ha hb hn).1, (kept_yes ha hb hn).2]
        go_enter Try.func14, Try.ntmps14
        go_wp2_with (first | (go_at_call 16; refine (rcheck_any _ _).mono ?_; rintro e w' ⟨rfl, rfl⟩) | (go_at_call 22; refine (small_any _ _).mono ?_; rintro e w' ⟨rfl, rfl⟩) | go_in)
        go_ret2
        exact ⟨rfl, Ext.refl _⟩

end Go.Proofs.Ytljlafihifpnkaa
