/- Badness, of numbers: what follows (layer 3). -/
import Derived.Test.YtfooocfkfchihaaFit03
namespace Go.Proofs.Ytfooocfkfchihaa
namespace L03

theorem held_mono {a b : Int} (h : a ≤ b) : heldI a ≤ heldI b := by
  unfold heldI
  repeat' split
  all_goals omega
theorem held_pos {a : Int} : 0 < a ↔ 0 < heldI a := by
  unfold heldI
  repeat' split
  all_goals omega
theorem cube_mono {a b : Int} (h0 : 0 ≤ a) (h : a ≤ b) : a * a * a ≤ b * b * b :=
  Int.mul_le_mul (Int.mul_le_mul h h h0 (by omega)) h h0 (Int.mul_nonneg (by omega) (by omega))
theorem bad_in (t s : Int) : 0 ≤ badI t s ∧ badI t s ≤ 10000 := by
  unfold badI
  split
  · omega
  · split
    · omega
    · have ht := held_in t
      have hs := held_in s
      have h1 := cube_pos (n := heldI s) (by omega)
      have h2 := cube_in ht.1 ht.2
      exact badN_in h1 (by omega)
theorem badN_ge {r q b : Int} (hr : 0 < r) (hb : b ≤ 10000) : b ≤ badN r q ↔ b * (2 * r) ≤ q := by
  unfold badN
  rw [← Int.le_ediv_iff_mul_le (show 0 < 2 * r by omega)]
  omega
theorem badN_lt {r q b : Int} (hr : 0 < r) (hb : b ≤ 10000) : badN r q < b ↔ q < b * (2 * r) := by
  have := badN_ge (q := q) hr hb
  omega
theorem bad_mono_t {t u : Int} (s : Int) (h : t ≤ u) : badI t s ≤ badI u s := by
  have ht := held_in t
  have hu := held_in u
  have hs := held_in s
  have h' := held_mono h
  have hb := bad_in u s
  unfold badI at hb ⊢
  by_cases h1 : heldI t = 0
  · rw [if_pos h1]; exact hb.1
  · rw [if_neg h1, if_neg (show ¬ heldI u = 0 by omega)]
    by_cases h2 : heldI s = 0
    · rw [if_pos h2, if_pos h2]; omega
    · rw [if_neg h2, if_neg h2]
      have h3 := cube_pos (n := heldI s) (by omega)
      have h4 := cube_mono ht.1 h'
      unfold badN
      have := Int.ediv_le_ediv (a := 200 * (heldI t * heldI t * heldI t) + heldI s * heldI s * heldI s) (b := 200 * (heldI u * heldI u * heldI u) + heldI s * heldI s * heldI s) (c := 2 * (heldI s * heldI s * heldI s)) (by omega) (by omega)
      omega
theorem bad_mono_s (t : Int) {s u : Int} (h : s ≤ u) : badI t u ≤ badI t s := by
  have ht := held_in t
  have hu := held_in u
  have hs := held_in s
  have h' := held_mono h
  have hb := bad_in t u
  have hb' := bad_in t s
  unfold badI at hb hb' ⊢
  by_cases h1 : heldI t = 0
  · rw [if_pos h1, if_pos h1]; omega
  · rw [if_neg h1] at hb hb' ⊢
    rw [if_neg h1]
    by_cases h2 : heldI s = 0
    · rw [if_pos h2]; exact hb.2
    · rw [if_neg h2] at hb' ⊢
      have h0 : ¬ heldI u = 0 := by omega
      rw [if_neg h0] at hb ⊢
      have h3 := cube_pos (n := heldI s) (by omega)
      have h4 := cube_pos (n := heldI u) (by omega)
      have h5 := cube_mono hs.1 h'
      have h6 := cube_in ht.1 ht.2
      generalize heldI s * heldI s * heldI s = S at *
      generalize heldI u * heldI u * heldI u = U at *
      generalize heldI t * heldI t * heldI t = T at *
      generalize hn : badN U (200 * T + U) = n at *
      have h7 : n * (2 * U) ≤ 200 * T + U := (badN_ge h4 hb.2).1 (by omega)
      refine (badN_ge h3 hb.2).2 ?_
      by_cases h8 : n = 0
      · subst h8; omega
      · have h9 : (2 * n - 1) * S ≤ (2 * n - 1) * U := Int.mul_le_mul_of_nonneg_left h5 (by omega)
        rw [Int.sub_mul, Int.sub_mul, Int.one_mul, Int.one_mul, Int.mul_comm 2 n, Int.mul_assoc, Int.mul_assoc] at h9
        omega
theorem bad_self {s : Int} (h : 0 < s) : badI s s = 100 := by
  have hs := held_in s
  have h1 := held_pos.1 h
  have h2 := cube_pos h1
  unfold badI
  rw [if_neg (by omega), if_neg (by omega)]
  generalize heldI s * heldI s * heldI s = S at *
  have h3 := (badN_ge (r := S) (q := 200 * S + S) (b := 100) h2 (by omega)).2 (by omega)
  have h4 := (badN_lt (r := S) (q := 200 * S + S) (b := 101) h2 (by omega)).2 (by omega)
  omega
theorem bad_zero {t : Int} (s : Int) (h : t ≤ 0) : badI t s = 0 := by
  have h1 := held_in t
  have h2 := held_pos (a := t)
  unfold badI
  rw [if_pos (by omega)]
theorem bad_most {t s : Int} (h : 0 < t) (h' : s ≤ 0) : badI t s = 10000 := by
  have h1 := held_in s
  have h2 := held_pos (a := s)
  have h3 := held_pos (a := t)
  unfold badI
  rw [if_neg (by omega), if_pos (by omega)]
/-- Dimensions that are themselves. -/
theorem bad_plain {t s : Int} (ht : 0 < t) (ht' : t ≤ 1073741823) (hs : 0 < s) (hs' : s ≤ 1073741823) : badI t s = badN (s * s * s) (200 * (t * t * t) + s * s * s) := by
  unfold badI
  rw [held_self (by omega) ht', held_self (by omega) hs', if_neg (by omega), if_neg (by omega)]
theorem cube_times (k n : Int) : (k * n) * (k * n) * (k * n) = (k * k * k) * (n * n * n) := by
  simp only [Int.mul_assoc, Int.mul_left_comm]
theorem bad_twice {k t s : Int} (hk : 0 < k) (ht : 0 ≤ t) (ht' : k * t ≤ 1073741823) (hs : 0 ≤ s) (hs' : k * s ≤ 1073741823) : badI (k * t) (k * s) = badI t s := by
  have e1 : t ≤ k * t := by have := Int.mul_le_mul_of_nonneg_right (show 1 ≤ k by omega) ht; omega
  have e2 : s ≤ k * s := by have := Int.mul_le_mul_of_nonneg_right (show 1 ≤ k by omega) hs; omega
  by_cases h1 : t = 0
  · subst h1; rw [Int.mul_zero, bad_zero _ (Int.le_refl 0), bad_zero _ (Int.le_refl 0)]
  · have p1 : 0 < k * t := Int.mul_pos hk (by omega)
    by_cases h2 : s = 0
    · subst h2; rw [Int.mul_zero, bad_most p1 (Int.le_refl 0), bad_most (by omega) (Int.le_refl 0)]
    · have p2 : 0 < k * s := Int.mul_pos hk (by omega)
      rw [bad_plain p1 ht' p2 hs', bad_plain (by omega) (by omega) (by omega) (by omega), cube_times, cube_times]
      have p3 := cube_pos hk
      generalize k * k * k = c at *
      generalize t * t * t = T at *
      generalize s * s * s = S at *
      unfold badN
      rw [show 200 * (c * T) + c * S = c * (200 * T + S) from by rw [Int.mul_add, Int.mul_left_comm], show 2 * (c * S) = c * (2 * S) from Int.mul_left_comm _ _ _, Int.mul_ediv_mul_of_pos _ _ p3]
theorem bad_eight {t s : Int} (ht : 0 ≤ t) (ht' : 2 * t ≤ 1073741823) (hs : 0 ≤ s) (hs' : s ≤ 1073741823) : badI (2 * t) s = 10000 ∨ (8 * badI t s - 4 ≤ badI (2 * t) s ∧ badI (2 * t) s ≤ 8 * badI t s + 4) := by
  by_cases h1 : t = 0
  · subst h1; right; rw [Int.mul_zero, bad_zero _ (Int.le_refl 0)]; omega
  · by_cases h2 : s = 0
    · subst h2; left; exact bad_most (by omega) (Int.le_refl 0)
    · rw [bad_plain (by omega) ht' (by omega) hs', bad_plain (by omega) (by omega) (by omega) hs', cube_times]
      have p := cube_pos (show 0 < s by omega)
      generalize t * t * t = T at *
      generalize s * s * s = S at *
      unfold badN
      have d1 := Int.mul_ediv_add_emod (200 * T + S) (2 * S)
      have d2 := Int.emod_nonneg (200 * T + S) (show 2 * S ≠ 0 by omega)
      have d3 := Int.emod_lt_of_pos (200 * T + S) (show 0 < 2 * S by omega)
      generalize (200 * T + S) / (2 * S) = q at *
      generalize (200 * T + S) % (2 * S) = r at *
      have e1 : 8 * q - 4 ≤ (200 * (2 * 2 * 2 * T) + S) / (2 * S) := by
        rw [Int.le_ediv_iff_mul_le (by omega), Int.sub_mul, Int.mul_assoc, Int.mul_comm q]
        omega
      have e2 : (200 * (2 * 2 * 2 * T) + S) / (2 * S) < 8 * q + 5 := by
        rw [Int.ediv_lt_iff_lt_mul (by omega), Int.add_mul, Int.mul_assoc 8 q, Int.mul_comm q]
        omega
      generalize (200 * (2 * 2 * 2 * T) + S) / (2 * S) = e at *
      omega
end L03
end Go.Proofs.Ytfooocfkfchihaa

