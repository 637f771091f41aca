/- Plain arithmetic of a division of two words by one, in halves of words. -/
import Derived.Test.YtpkmpbpifbpomaaFrame
import Derived.Laws.Bits64b
namespace Go.Proofs.Ytpkmpbpifbpomaa
namespace DivM

theorem wrap_id {n : Int} (h0 : 0 ≤ n) (h1 : n ≤ 18446744073709551615) : IntKind.u64.wrap n = n := by rw [IntKind.wrap_u64]; omega

theorem step_eq (q r a b H : Int) (hs : q * a + r = H) : q * (a * 4294967296 + b) + r * 4294967296 = H * 4294967296 + q * b := by
  subst hs
  rw [Int.mul_add, Int.add_mul, Int.mul_assoc]; omega

theorem quo_small {H u a b : Int} (hY : 0 < a * 4294967296 + b) (hH : H < a * 4294967296 + b) (hu : u ≤ 4294967295) : (H * 4294967296 + u) / (a * 4294967296 + b) < 4294967296 := by
  rw [Int.ediv_lt_iff_lt_mul hY]; omega

theorem first {H u a b : Int} (ha : 0 < a) (hb : 0 ≤ b) (hH : 0 ≤ H) (hu : u ≤ 4294967295) : (H * 4294967296 + u) / (a * 4294967296 + b) ≤ H / a := by
  have h0 : 0 ≤ H / a := Int.ediv_nonneg hH (by omega)
  have h1 : H < (H / a + 1) * a := by
    have := Int.mul_ediv_add_emod H a
    have := Int.emod_lt_of_pos H ha
    rw [Int.add_mul, Int.mul_comm]; omega
  have h3 : 0 ≤ (H / a + 1) * b := Int.mul_nonneg (by omega) hb
  have h2 : (H * 4294967296 + u) / (a * 4294967296 + b) < H / a + 1 := by
    rw [Int.ediv_lt_iff_lt_mul (by omega), Int.mul_add, ← Int.mul_assoc]
    omega
  omega

/-- Where the rounds of a half stand. -/
structure At (H u a b q r : Int) : Prop where
  sum : q * a + r = H
  low : (H * 4294967296 + u) / (a * 4294967296 + b) ≤ q
  small : r ≤ 4294967295
  pos : 0 ≤ r
  posq : 0 ≤ q
  most : q ≤ 18446744073709551615

/-- What all rounds of a half stand upon. -/
structure Ok (H u a b : Int) : Prop where
  alow : 2147483648 ≤ a
  amost : a ≤ 4294967295
  blow : 0 ≤ b
  bmost : b ≤ 4294967295
  ulow : 0 ≤ u
  umost : u ≤ 4294967295
  hlow : 0 ≤ H
  hmost : H < a * 4294967296 + b

theorem Ok.quo {H u a b : Int} (k : Ok H u a b) : 0 ≤ (H * 4294967296 + u) / (a * 4294967296 + b) := by
  obtain ⟨_, _, _, _, _, _, _, _⟩ := k
  exact Int.ediv_nonneg (by omega) (by omega)

theorem done {H u a b q r : Int} (k : Ok H u a b) (h : At H u a b q r) (hc : q * b ≤ 4294967296 * r + u) : q = (H * 4294967296 + u) / (a * 4294967296 + b) := by
  obtain ⟨_, _, _, _, _, _, _, _⟩ := k
  have e := step_eq q r a b H h.sum
  have hl := h.low
  have : q ≤ (H * 4294967296 + u) / (a * 4294967296 + b) := by
    rw [Int.le_ediv_iff_mul_le (by omega)]; omega
  omega

theorem next {H u a b q r : Int} (k : Ok H u a b) (h : At H u a b q r) (hc : 4294967296 ≤ q ∨ 4294967296 * r + u < q * b) :
    1 ≤ q ∧ (H * 4294967296 + u) / (a * 4294967296 + b) ≤ q - 1 ∧ (q - 1) * a + (r + a) = H := by
  have h9 := k.quo
  obtain ⟨_, _, _, _, _, _, _, _⟩ := k
  have e := step_eq q r a b H h.sum
  have hs := h.sum
  have hl := h.low
  have h1 : (H * 4294967296 + u) / (a * 4294967296 + b) < q := by
    rcases hc with hc | hc
    · have := quo_small (H := H) (u := u) (a := a) (b := b) (by omega) (by omega) (by omega); omega
    · rw [Int.ediv_lt_iff_lt_mul (by omega)]; omega
  refine ⟨by omega, by omega, ?_⟩
  rw [Int.sub_mul]; omega

theorem At.go {H u a b q r : Int} (k : Ok H u a b) (h : At H u a b q r) (hc : 4294967296 ≤ q ∨ 4294967296 * r + u < q * b) (hr : r + a < 4294967296) : At H u a b (q - 1) (r + a) := by
  obtain ⟨h1, h2, h3⟩ := next k h hc
  have := h.most; have := k.alow; have := h.pos
  exact ⟨h3, h2, by omega, by omega, by omega, by omega⟩

theorem stop {H u a b q r : Int} (k : Ok H u a b) (h : At H u a b q r) (hc : 4294967296 ≤ q ∨ 4294967296 * r + u < q * b) (hr : 4294967296 ≤ r + a) :
    q - 1 = (H * 4294967296 + u) / (a * 4294967296 + b) := by
  obtain ⟨h1, h2, h3⟩ := next k h hc
  obtain ⟨_, _, _, _, _, _, _, _⟩ := k
  generalize q - 1 = p at *
  generalize r + a = t at *
  have h4 : p * a < 4294967296 * a := by omega
  have h5 : p < 4294967296 := Int.lt_of_mul_lt_mul_right h4 (by omega)
  have h6 : p * b ≤ 4294967295 * b := Int.mul_le_mul_of_nonneg_right (by omega) (by omega)
  have e := step_eq p t a b H h3
  have : p ≤ (H * 4294967296 + u) / (a * 4294967296 + b) := by
    rw [Int.le_ediv_iff_mul_le (by omega)]; omega
  omega

theorem mul_lt {q b : Int} (h0 : 0 ≤ q) (h1 : 0 ≤ b) (hq : q < 4294967296) (hb : b ≤ 4294967295) : 0 ≤ q * b ∧ q * b ≤ 18446744073709551615 := by
  have h : q * b ≤ 4294967295 * b := Int.mul_le_mul_of_nonneg_right (by omega) h1
  have h2 := Int.mul_nonneg h0 h1
  omega

theorem Ok.start {H u a b : Int} (k : Ok H u a b) : At H u a b (H / a) (H % a) := by
  obtain ⟨_, _, _, _, _, _, _, _⟩ := k
  have h1 := Int.emod_lt_of_pos H (show 0 < a by omega)
  have h2 := Int.emod_nonneg H (show a ≠ 0 by omega)
  have h3 : H / a ≤ H := by
    have := Int.ediv_le_self a (show 0 ≤ H by omega); exact this
  have h4 : 0 ≤ H / a := Int.ediv_nonneg (by omega) (by omega)
  exact ⟨by rw [Int.mul_comm]; exact Int.mul_ediv_add_emod H a, first (by omega) (by omega) (by omega) (by omega), by omega, by omega, h4, by omega⟩

theorem Ok.begins {H u a b : Int} (k : Ok H u a b) : IntKind.u64.wrap (H / a) = H / a ∧ IntKind.u64.wrap (H - IntKind.u64.wrap ((H / a) * a)) = H % a := by
  have s := k.start
  obtain ⟨_, _, _, _, _, _, _, _⟩ := k
  have h2 := Int.mul_ediv_add_emod H a
  rw [Int.mul_comm] at h2
  have := s.pos; have := s.small; have := s.posq; have := s.most
  refine ⟨wrap_id (by omega) (by omega), ?_⟩
  generalize H / a * a = g at *
  generalize H % a = z at *
  simp only [IntKind.wrap_u64]; omega

/-- What a half leaves. -/
def remD (H u a b : Int) : Int := (H * 4294967296 + u) % (a * 4294967296 + b)
def quoD (H u a b : Int) : Int := (H * 4294967296 + u) / (a * 4294967296 + b)
theorem Ok.left {H u a b : Int} (k : Ok H u a b) :
    IntKind.u64.wrap (IntKind.u64.wrap (IntKind.u64.wrap (H * 4294967296) + u) - IntKind.u64.wrap (quoD H u a b * (a * 4294967296 + b))) = remD H u a b ∧
    H * 4294967296 + u = quoD H u a b * (a * 4294967296 + b) + remD H u a b ∧ 0 ≤ remD H u a b ∧ remD H u a b < a * 4294967296 + b ∧ 0 ≤ quoD H u a b ∧ quoD H u a b ≤ 4294967295 := by
  have hq := k.quo
  have hs := quo_small (H := H) (u := u) (a := a) (b := b) (by have := k.alow; have := k.blow; omega) k.hmost k.umost
  obtain ⟨_, _, _, _, _, _, _, _⟩ := k
  unfold remD quoD
  have h1 := Int.mul_ediv_add_emod (H * 4294967296 + u) (a * 4294967296 + b)
  rw [Int.mul_comm] at h1
  have h2 := Int.emod_lt_of_pos (H * 4294967296 + u) (show 0 < a * 4294967296 + b by omega)
  have h3 := Int.emod_nonneg (H * 4294967296 + u) (show a * 4294967296 + b ≠ 0 by omega)
  generalize (H * 4294967296 + u) % (a * 4294967296 + b) = z at *
  generalize (H * 4294967296 + u) / (a * 4294967296 + b) = q at *
  generalize hg : q * (a * 4294967296 + b) = g at *
  refine ⟨?_, h1.symm, h3, h2, hq, by omega⟩
  simp only [IntKind.wrap_u64]
  omega

/-- The whole: x = hi * 2^64 + lo, y; p: the shift. -/
theorem whole {x y p H L q1 q0 z r : Nat} (hp : 0 < p) (hy : 0 < y) (hx : x * p = (H * 4294967296 + L / 4294967296) * 4294967296 + L % 4294967296)
    (e1 : H * 4294967296 + L / 4294967296 = q1 * (y * p) + z) (e0 : z * 4294967296 + L % 4294967296 = q0 * (y * p) + r) (hr : r < y * p) :
    q1 * 4294967296 + q0 = x / y ∧ r / p = x % y := by
  have h1 : x * p = (q1 * 4294967296 + q0) * (y * p) + r := by
    rw [hx, e1, Nat.add_mul, Nat.add_mul, Nat.mul_right_comm q1]; omega
  have h2 : x * p / (y * p) = q1 * 4294967296 + q0 := by
    rw [h1, Nat.mul_comm (q1 * 4294967296 + q0), Nat.mul_add_div (Nat.mul_pos hy hp), Nat.div_eq_of_lt hr, Nat.add_zero]
  have h3 : x * p % (y * p) = r := by
    rw [h1, Nat.mul_comm (q1 * 4294967296 + q0), Nat.mul_add_mod, Nat.mod_eq_of_lt hr]
  rw [Nat.mul_div_mul_right _ _ hp] at h2
  rw [Nat.mul_mod_mul_right] at h3
  exact ⟨h2.symm, by rw [← h3, Nat.mul_div_cancel _ hp]⟩

theorem scaled (hi lo s : Nat) (hs : s < 64) :
    (hi * 18446744073709551616 + lo) * 2 ^ s = ((hi * 2 ^ s + lo / 2 ^ (64 - s)) * 4294967296 + lo * 2 ^ s % 18446744073709551616 / 4294967296) * 4294967296 + lo * 2 ^ s % 18446744073709551616 % 4294967296 := by
  have hp : 0 < 2 ^ s := Nat.two_pow_pos s
  have hpq : 2 ^ (64 - s) * 2 ^ s = 18446744073709551616 := by rw [← Nat.pow_add, show 64 - s + s = 64 from by omega]
  have h1 : lo * 2 ^ s / 18446744073709551616 = lo / 2 ^ (64 - s) := by rw [← hpq, Nat.mul_div_mul_right _ _ hp]
  rw [← h1, Nat.add_mul, Nat.mul_right_comm]
  generalize hi * 2 ^ s = g
  generalize lo * 2 ^ s = h
  omega

theorem wholeI {x y p H L : Nat} {q1 q0 z r : Int} (hp : 0 < p) (hy : 0 < y) (hx : x * p = (H * 4294967296 + L / 4294967296) * 4294967296 + L % 4294967296)
    (h1 : 0 ≤ q1) (h0 : 0 ≤ q0) (hz : 0 ≤ z) (hr : 0 ≤ r)
    (e1 : (H : Int) * 4294967296 + ((L / 4294967296 : Nat) : Int) = q1 * ((y * p : Nat) : Int) + z) (e0 : z * 4294967296 + ((L % 4294967296 : Nat) : Int) = q0 * ((y * p : Nat) : Int) + r) (hm : r < ((y * p : Nat) : Int)) :
    q1 * 4294967296 + q0 = ((x / y : Nat) : Int) ∧ r / ((p : Nat) : Int) = ((x % y : Nat) : Int) := by
  obtain ⟨a, rfl⟩ := Int.eq_ofNat_of_zero_le h1
  obtain ⟨b, rfl⟩ := Int.eq_ofNat_of_zero_le h0
  obtain ⟨c, rfl⟩ := Int.eq_ofNat_of_zero_le hz
  obtain ⟨d, rfl⟩ := Int.eq_ofNat_of_zero_le hr
  have e1' : H * 4294967296 + L / 4294967296 = a * (y * p) + c := by
    generalize y * p = Y at *
    have : (a : Int) * (Y : Int) = ((a * Y : Nat) : Int) := (Int.natCast_mul _ _).symm
    rw [this] at e1
    generalize a * Y = g at *
    clear hx e0 hm
    omega
  have e0' : c * 4294967296 + L % 4294967296 = b * (y * p) + d := by
    clear e1'
    generalize y * p = Y at *
    have : (b : Int) * (Y : Int) = ((b * Y : Nat) : Int) := (Int.natCast_mul _ _).symm
    rw [this] at e0
    generalize b * Y = g at *
    clear hx e1 hm
    generalize L % 4294967296 = l at *
    omega
  obtain ⟨w1, w2⟩ := whole hp hy hx e1' e0' (by omega)
  refine ⟨by rw [← w1]; omega, by rw [← w2]; rfl⟩

end DivM
end Go.Proofs.Ytpkmpbpifbpomaa

