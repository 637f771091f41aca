/- Contracts of layer 2 (muldiv). -/
import Derived.Test.YtpkmpbpifbpomaaDiv02
namespace Go.Proofs.Ytpkmpbpifbpomaa
open Go.RowKit
namespace L02

/-- A factor, or a quotient. -/
def fitB (n : Int) : Bool := decide (-4611686018427387903 ≤ n ∧ n ≤ 4611686018427387903)
theorem fitB_iff {n : Int} : fitB n = true ↔ -4611686018427387903 ≤ n ∧ n ≤ 4611686018427387903 := by simp [fitB]
theorem fitB_not {n : Int} : fitB n = false ↔ n < -4611686018427387903 ∨ 4611686018427387903 < n := by simp [fitB]; omega

theorem fits_any (n : Int) (w : World) :
    Calls Try.prog 123 #[.int .i64 n] w fun e w' => e = .returned (.bool (fitB n)) ∧ w = w' := by
  by_cases h1 : -4611686018427387903 ≤ n
  · go_enter Try.func123, Try.ntmps123
    go_wp2
    go_ret
    exact ⟨ret_bool (by simp [fitB]; omega), rfl⟩
  · go_enter Try.func123, Try.ntmps123
    go_wp2
    go_ret
    exact ⟨ret_bool (by simp [fitB]; omega), rfl⟩

theorem wide_any (n : Int) (w : World) :
    Calls Try.prog 114 #[.int .i64 n] w fun e w' => e = .returned (.tuple #[.int .i64 (if fitB n = true then n else 0), .int .i64 (if fitB n = true then 0 else 20)]) ∧ w = w' := by
  cases h : fitB n with
  | true =>
    go_enter Try.func114, Try.ntmps114
    go_wp2_with (first | (go_at_call 123; refine (fits_any _ _).mono ?_; rintro e w' ⟨rfl, rfl⟩))
    go_ret2
    exact ⟨rfl, rfl⟩
  | false =>
    go_enter Try.func114, Try.ntmps114
    go_wp2_with (first | (go_at_call 123; refine (fits_any _ _).mono ?_; rintro e w' ⟨rfl, rfl⟩))
    go_ret2
    exact ⟨rfl, rfl⟩

theorem mul64_one (y : Int) (hy : 0 ≤ y) (hy' : y ≤ 18446744073709551615) (w : World) :
    Calls Try.prog 131 #[.int .u64 1, .int .u64 y] w (fun e w' => e = .returned (.tuple #[.int .u64 0, .int .u64 y]) ∧ w = w') := by
  refine (mul64_any 1 y (by omega) (by omega) hy hy' w).mono ?_
  rintro e w' ⟨rfl, rfl⟩
  exact ⟨ret_two (by omega) (by omega), rfl⟩

/-- How great a number is. -/
def mag (a : Int) : Int := if a < 0 then -a else a
theorem mag_neg {a : Int} (h : a < 0) : mag a = -a := if_pos h
theorem mag_pos {a : Int} (h : ¬ a < 0) : mag a = a := if_neg h
/-- Just one of both is below 0. -/
def belowB (a b : Int) : Bool := decide (a < 0) != decide (b < 0)

theorem multiply_any (a b : Int) (ha : -4611686018427387903 ≤ a) (ha' : a ≤ 4611686018427387903) (hb : -4611686018427387903 ≤ b) (hb' : b ≤ 4611686018427387903) (w : World) :
    Calls Try.prog 124 #[.int .i64 a, .int .i64 b] w (Ret w (.tuple #[.agg #[.int .u64 (mag a * mag b / 18446744073709551616), .int .u64 (mag a * mag b % 18446744073709551616)], .bool (belowB a b)])) := by
  by_cases ka : a < 0 <;> by_cases kb : b < 0
  all_goals
    have eb : belowB a b = (decide (a < 0) != decide (b < 0)) := rfl
    first | rw [mag_neg ka] | rw [mag_pos ka]
    first | rw [mag_neg kb] | rw [mag_pos kb]
    simp only [ka, kb, decide_true, decide_false, bne_self_eq_false, Bool.true_bne, Bool.false_bne, Bool.not_false] at eb
    rw [eb]
    clear eb
    go_enter Try.func124, Try.ntmps124
    go_wp2_with fail
    refine wp_loop_rounds 3 ?_
    rw [rounds_succ]
    go_wp2_with fail
    refine (mul64_one _ (by omega) (by omega) _).mono ?_; rintro e w' ⟨rfl, rfl⟩
    go_wp2_with fail
    rw [rounds_succ]
    go_wp2_with fail
    refine (mul64_any _ _ (by omega) (by omega) (by omega) (by omega) _).mono ?_; rintro e w' ⟨rfl, rfl⟩
    go_wp2_with fail
    rw [rounds_succ]
    go_wp2_with fail
    refine bodyPost_ret (v := .tuple #[.agg #[.int .u64 _, .int .u64 _], .bool _]) (by simp [results, Try.results124, go_sem]) rfl ⟨rfl, (((Ext.refl _).alloc _).alloc _).alloc _⟩

/-- A product's halves over c: at most 2^62, and what is left. -/
theorem over_any (p c : Int) (hp : 0 ≤ p) (hp' : p < 340282366920938463463374607431768211456) (hc : 0 < c) (hc' : c ≤ 4611686018427387903) (w : World) :
    Calls Try.prog 125 #[.agg #[.int .u64 (p / 18446744073709551616), .int .u64 (p % 18446744073709551616)], .int .u64 c] w (Ret w (.tuple #[.int .i64 (min (p / c) 4611686018427387904), .int .i64 (p % c)])) := by
  have e : p / 18446744073709551616 * 18446744073709551616 + p % 18446744073709551616 = p := by omega
  have hr := Int.emod_lt_of_pos p hc
  have hr' := Int.emod_nonneg p (show c ≠ 0 by omega)
  have hq' : 0 ≤ p / c := Int.ediv_nonneg hp (by omega)
  have h1 : 0 ≤ p / 18446744073709551616 := by omega
  have h2 : p / 18446744073709551616 ≤ 18446744073709551615 := by omega
  have h3 : 0 ≤ p % 18446744073709551616 := by omega
  have h4 : p % 18446744073709551616 ≤ 18446744073709551615 := by omega
  by_cases hk : c ≤ p / 18446744073709551616
  · have hq : 18446744073709551616 ≤ p / c := by
      rw [Int.le_ediv_iff_mul_le hc, Int.mul_comm]; omega
    rw [show min (p / c) 4611686018427387904 = 4611686018427387904 from by omega]
    have E := Lib.hid e
    clear e hp hp'
    generalize gh : p / 18446744073709551616 = h at *
    generalize gl : p % 18446744073709551616 = l at *
    clear gh gl
    go_enter Try.func125, Try.ntmps125
    go_wp2_with fail
    refine (rem64_any _ _ _ (by omega) (by omega) (by omega) (by omega) (by omega) (by omega) _).mono ?_; rintro e w1 ⟨rfl, x1⟩
    rw [E.out]
    go_wp2_with fail
    go_ret2
    exact ⟨rfl, ((Ext.refl _).alloc _).trans x1⟩
  · have hq : p / c ≤ 18446744073709551615 := by
      have : p / c < 18446744073709551616 := by rw [Int.ediv_lt_iff_lt_mul hc]; omega
      omega
    have E := Lib.hid e
    clear e hp hp'
    generalize gh : p / 18446744073709551616 = h at *
    generalize gl : p % 18446744073709551616 = l at *
    clear gh gl
    go_enter Try.func125, Try.ntmps125
    go_wp2_with fail
    refine (div64_any _ _ _ (by omega) (by omega) (by omega) (by omega) (by omega) _).mono ?_; rintro e w1 ⟨rfl, x1⟩
    rw [E.out]
    generalize gh : p / c = h at *
    generalize gl : p % c = l at *
    clear gh gl
    go_wp2_with fail
    go_ret2
    exact ⟨rfl, ((Ext.refl _).alloc _).trans x1⟩

/-- A call may be. -/
def mayB (a b c : Int) : Bool := fitB a && fitB b && decide (1 ≤ c ∧ c ≤ 4611686018427387903)
theorem mayB_iff {a b c : Int} : mayB a b c = true ↔ (-4611686018427387903 ≤ a ∧ a ≤ 4611686018427387903) ∧ (-4611686018427387903 ≤ b ∧ b ≤ 4611686018427387903) ∧ 1 ≤ c ∧ c ≤ 4611686018427387903 := by
  simp [mayB, fitB]; omega

/-- A product over c, floored, where what is too great stands at 2^62, or one or two below -2^62 + 1. -/
def divN (a b c : Int) : Int :=
  if belowB a b = true then (if mag a * mag b % c = 0 then -(min (mag a * mag b / c) 4611686018427387904) else -(min (mag a * mag b / c) 4611686018427387904) - 1) else min (mag a * mag b / c) 4611686018427387904
/-- One more, if the rest is at least a half. -/
def up (a b c : Int) : Int := if c ≤ 2 * (a * b % c) then 1 else 0

theorem mag_le {a : Int} (h : -4611686018427387903 ≤ a ∧ a ≤ 4611686018427387903) : 0 ≤ mag a ∧ mag a ≤ 4611686018427387903 := by
  unfold mag; split <;> omega
theorem mag_mul_same {a b : Int} (h : belowB a b = false) : a * b = mag a * mag b := by
  unfold mag; unfold belowB at h
  by_cases ka : a < 0 <;> by_cases kb : b < 0 <;> simp [ka, kb, Int.neg_mul, Int.mul_neg] at h ⊢
theorem mag_mul_other {a b : Int} (h : belowB a b = true) : a * b = -(mag a * mag b) := by
  unfold mag; unfold belowB at h
  by_cases ka : a < 0 <;> by_cases kb : b < 0 <;> simp [ka, kb, Int.neg_mul, Int.mul_neg] at h ⊢
theorem neg_div {p c : Int} (hc : 0 < c) : -p / c = (if p % c = 0 then -(p / c) else -(p / c) - 1) ∧ -p % c = (if p % c = 0 then 0 else c - p % c) := by
  have h1 := Int.mul_ediv_add_emod p c
  have h2 := Int.emod_nonneg p (show c ≠ 0 by omega)
  have h3 := Int.emod_lt_of_pos p hc
  have key : ∀ q r : Int, 0 ≤ r → r < c → -p = q * c + r → -p / c = q ∧ -p % c = r := by
    intro q r h0 hr e
    rw [e]
    have e1 : (q * c + r) / c = q := by
      rw [Int.add_comm, Int.add_mul_ediv_right _ _ (by omega), Int.ediv_eq_zero_of_lt h0 hr, Int.zero_add]
    have e2 : (q * c + r) % c = r := by
      rw [Int.add_comm, Int.add_mul_emod_self_right, Int.emod_eq_of_lt h0 hr]
    exact ⟨e1, e2⟩
  have hm : c * (p / c) = (p / c) * c := Int.mul_comm _ _
  split
  · rename_i h; exact key _ _ (by omega) (by omega) (by rw [Int.neg_mul]; omega)
  · exact key _ _ (by omega) (by omega) (by rw [Int.sub_mul, Int.neg_mul]; omega)

theorem mul_le {x y : Int} (hx : 0 ≤ x ∧ x ≤ 4611686018427387903) (hy : 0 ≤ y ∧ y ≤ 4611686018427387903) : 0 ≤ x * y ∧ x * y < 340282366920938463463374607431768211456 := by
  have h1 := Int.mul_nonneg hx.1 hy.1
  have h2 : x * y ≤ 4611686018427387903 * 4611686018427387903 := Int.mul_le_mul hx.2 hy.2 hy.1 (by omega)
  omega

/-- What stands for what is too great is too great just then, floored or nearest. -/
theorem divN_fit {a b c : Int} (h : mayB a b c = true) (u : Int) (hu : u = 0 ∨ u = 1 ∧ c ≤ 2 * (a * b % c)) :
    fitB (divN a b c + u) = fitB (a * b / c + u) ∧ (fitB (a * b / c + u) = true → divN a b c + u = a * b / c + u) := by
  rw [mayB_iff] at h
  obtain ⟨ha, hb, hc, hc'⟩ := h
  have hp := mul_le (mag_le ha) (mag_le hb)
  have hq0 : 0 ≤ mag a * mag b / c := Int.ediv_nonneg hp.1 (by omega)
  have hr0 := Int.emod_nonneg (mag a * mag b) (show c ≠ 0 by omega)
  have hr1 := Int.emod_lt_of_pos (mag a * mag b) (show 0 < c by omega)
  unfold divN
  cases k : belowB a b with
  | false =>
    rw [mag_mul_same k] at *
    rw [if_neg (by simp)]
    generalize mag a * mag b / c = q at *
    generalize mag a * mag b % c = r at *
    clear hp
    constructor
    · unfold fitB; rw [decide_eq_decide]; omega
    · intro h; rw [fitB_iff] at h; omega
  | true =>
    rw [mag_mul_other k] at *
    rw [if_pos rfl]
    rw [(neg_div (p := mag a * mag b) (c := c) (by omega)).1]
    rw [(neg_div (p := mag a * mag b) (c := c) (by omega)).2] at hu
    generalize mag a * mag b / c = q at *
    generalize mag a * mag b % c = r at *
    clear hp
    by_cases h0 : r = 0
    · rw [if_pos h0, if_pos h0] at *
      constructor
      · unfold fitB; rw [decide_eq_decide]; omega
      · intro h; rw [fitB_iff] at h; omega
    · rw [if_neg h0, if_neg h0] at *
      constructor
      · unfold fitB; rw [decide_eq_decide]; omega
      · intro h; rw [fitB_iff] at h; omega

theorem divide_no (a b c : Int) (h : mayB a b c = false) (w : World) :
    Calls Try.prog 113 #[.int .i64 a, .int .i64 b, .int .i64 c] w (Ret w (.tuple #[.int .i64 0, .int .i64 0, .int .i64 1])) := by
  unfold mayB at h
  cases ka : fitB a with
  | false =>
    go_enter Try.func113, Try.ntmps113
    go_wp2_with (first | (go_at_call 123; refine (fits_any _ _).mono ?_; rintro e w' ⟨rfl, rfl⟩))
    go_ret3
    exact ⟨rfl, Ext.refl _⟩
  | true =>
    cases kb : fitB b with
    | false =>
      go_enter Try.func113, Try.ntmps113
      go_wp2_with (first | (go_at_call 123; refine (fits_any _ _).mono ?_; rintro e w' ⟨rfl, rfl⟩))
      go_ret3
      exact ⟨rfl, Ext.refl _⟩
    | true =>
      rw [ka, kb] at h
      simp only [Bool.and_true, Bool.true_and, decide_eq_false_iff_not] at h
      cases kc : fitB c with
      | false =>
        go_enter Try.func113, Try.ntmps113
        go_wp2_with (first | (go_at_call 123; refine (fits_any _ _).mono ?_; rintro e w' ⟨rfl, rfl⟩))
        go_ret3
        exact ⟨rfl, Ext.refl _⟩
      | true =>
        have hc := fitB_iff.1 kc
        have hd : c < 1 := by omega
        clear h
        go_enter Try.func113, Try.ntmps113
        go_wp2_with (first | (go_at_call 123; refine (fits_any _ _).mono ?_; rintro e w' ⟨rfl, rfl⟩))
        go_ret3
        exact ⟨rfl, Ext.refl _⟩

theorem divide_yes (a b c : Int) (h : mayB a b c = true) (w : World) :
    Calls Try.prog 113 #[.int .i64 a, .int .i64 b, .int .i64 c] w (Ret w (.tuple #[.int .i64 (divN a b c), .int .i64 (a * b % c), .int .i64 0])) := by
  have h' := mayB_iff.1 h
  obtain ⟨ha, hb, hc, hc'⟩ := h'
  have ka := fitB_iff.2 ha
  have kb := fitB_iff.2 hb
  have kc : fitB c = true := fitB_iff.2 ⟨by omega, hc'⟩
  have kd : ¬ c < 1 := by omega
  have hp := mul_le (mag_le ha) (mag_le hb)
  have hq0 : 0 ≤ mag a * mag b / c := Int.ediv_nonneg hp.1 (by omega)
  have hr0 := Int.emod_nonneg (mag a * mag b) (show c ≠ 0 by omega)
  have hr1 := Int.emod_lt_of_pos (mag a * mag b) (show 0 < c by omega)
  have hn0 : 0 ≤ min (mag a * mag b / c) 4611686018427387904 := by omega
  have hn1 : min (mag a * mag b / c) 4611686018427387904 ≤ 4611686018427387904 := by omega
  have hp1 := hp.1
  have HP := Lib.hid hp.2
  clear hp h
  have c1 := Lib.hid (fun w => over_any (mag a * mag b) c hp1 HP.out (by omega) hc' w)
  obtain ⟨ha1, ha2⟩ := ha
  obtain ⟨hb1, hb2⟩ := hb
  cases k : belowB a b with
  | false =>
    rw [mag_mul_same k]
    have ed : divN a b c = min (mag a * mag b / c) 4611686018427387904 := by unfold divN; rw [if_neg (by simp [k])]
    rw [ed]
    have K := Lib.hid k
    clear ed
    go_enter Try.func113, Try.ntmps113
    go_upto_region 3 with (first | (go_at_call 123; refine (fits_any _ _).mono ?_; rintro e w' ⟨rfl, rfl⟩))
    go_wp2_with fail
    refine (multiply_any a b ha1 ha2 hb1 hb2 _).mono ?_; rintro e w1 ⟨rfl, x1⟩
    go_wp2_with fail
    refine (c1.out _).mono ?_; rintro e w2 ⟨rfl, x2⟩
    go_wp2_with fail
    go_ret3
    exact ⟨rfl, (x1.alloc _).trans x2⟩
  | true =>
    rw [mag_mul_other k, (neg_div (p := mag a * mag b) (c := c) (by omega)).2]
    have ed : divN a b c = (if mag a * mag b % c = 0 then -(min (mag a * mag b / c) 4611686018427387904) else -(min (mag a * mag b / c) 4611686018427387904) - 1) := by unfold divN; rw [if_pos k]
    rw [ed]
    have K := Lib.hid k
    clear ed
    by_cases h0 : mag a * mag b % c = 0
    · rw [if_pos h0, if_pos h0]
      have c2 := Lib.hid (fun w => h0 ▸ c1.out w)
      clear c1 hr0 hr1 h0
      go_enter Try.func113, Try.ntmps113
      go_upto_region 3 with (first | (go_at_call 123; refine (fits_any _ _).mono ?_; rintro e w' ⟨rfl, rfl⟩))
      go_wp2_with fail
      refine (multiply_any a b ha1 ha2 hb1 hb2 _).mono ?_; rintro e w1 ⟨rfl, x1⟩
      go_wp2_with fail
      refine (c2.out _).mono ?_; rintro e w2 ⟨rfl, x2⟩
      go_wp2_with fail
      go_ret3
      exact ⟨rfl, (x1.alloc _).trans x2⟩
    · rw [if_neg h0, if_neg h0]
      go_enter Try.func113, Try.ntmps113
      go_upto_region 3 with (first | (go_at_call 123; refine (fits_any _ _).mono ?_; rintro e w' ⟨rfl, rfl⟩))
      go_wp2_with fail
      refine (multiply_any a b ha1 ha2 hb1 hb2 _).mono ?_; rintro e w1 ⟨rfl, x1⟩
      go_wp2_with fail
      refine (c1.out _).mono ?_; rintro e w2 ⟨rfl, x2⟩
      go_wp2_with fail
      go_ret3
      exact ⟨rfl, (x1.alloc _).trans x2⟩
end L02
end Go.Proofs.Ytpkmpbpifbpomaa

