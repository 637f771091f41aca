/- Numbers as bytes, the highest first: the plain facts of layer 6. -/
import Derived.Test.YtggedodfkjdegaaBytes
namespace Go.Proofs.Ytggedodfkjdegaa
open Go.RowKit
namespace L06

/-- A number's bytes, so many, the highest first. -/
def be (n : Nat) : Nat → List UInt8
  | 0 => []
  | z + 1 => UInt8.ofNat (n / 256 ^ z) :: be n z
theorem be_length (n : Nat) : ∀ z, (be n z).length = z
  | 0 => rfl
  | z + 1 => by rw [be, List.length_cons, be_length n z]
theorem be_get (n : Nat) : ∀ (z k : Nat) (h : k < (be n z).length), (be n z)[k] = UInt8.ofNat (n / 256 ^ (z - 1 - k))
  | 0, k, h => by simp [be] at h
  | z + 1, 0, h => by simp [be]
  | z + 1, k + 1, h => by
    have hk : k < (be n z).length := by simpa [be] using h
    have := be_get n z k hk
    simp only [be, List.getElem_cons_succ, this]
    congr 3
    omega

/-- The number of bytes. -/
def num (l : List UInt8) : Nat := l.foldl (fun a b => 256 * a + b.toNat) 0
theorem num_snoc (l : List UInt8) (b : UInt8) : num (l ++ [b]) = 256 * num l + b.toNat := by simp [num, List.foldl_append]
theorem fold_be (n : Nat) : ∀ (z a : Nat), (be n z).foldl (fun a b => 256 * a + b.toNat) a = a * 256 ^ z + n % 256 ^ z
  | 0, a => by simp [be, Nat.mod_one]
  | z + 1, a => by
    rw [be, List.foldl_cons, fold_be n z, Nat.pow_succ, Nat.mod_mul]
    have : (UInt8.ofNat (n / 256 ^ z)).toNat = n / 256 ^ z % 256 := by simp
    rw [this]
    generalize n / 256 ^ z % 256 = x
    generalize 256 ^ z = p
    rw [Nat.add_mul, Nat.mul_comm p 256, ← Nat.mul_assoc, Nat.mul_comm 256 a, Nat.mul_comm x p]
    omega
theorem num_be (n z : Nat) (h : n < 256 ^ z) : num (be n z) = n := by
  unfold num; rw [fold_be, Nat.mod_eq_of_lt h]; omega
theorem fold_num : ∀ (l : List UInt8) (a : Nat), l.foldl (fun a b => 256 * a + b.toNat) a = a * 256 ^ l.length + num l
  | [], a => by simp [num]
  | b :: l, a => by
    rw [List.foldl_cons, fold_num l]
    have : num (b :: l) = b.toNat * 256 ^ l.length + num l := by
      unfold num; rw [List.foldl_cons, fold_num l]; unfold num; simp
    rw [this, List.length_cons, Nat.pow_succ, Nat.add_mul]
    generalize 256 ^ l.length = p
    rw [Nat.mul_comm 256 a, Nat.mul_assoc, Nat.mul_comm 256 p]
    omega
theorem num_cons (b : UInt8) (l : List UInt8) : num (b :: l) = b.toNat * 256 ^ l.length + num l := by
  unfold num; rw [List.foldl_cons, fold_num l]; unfold num; simp
theorem num_lt : ∀ (l : List UInt8), num l < 256 ^ l.length
  | [] => by simp [num]
  | b :: l => by
    have ih := num_lt l
    have hb : b.toNat < 256 := b.toNat_lt
    rw [num_cons, List.length_cons, Nat.pow_succ]
    generalize 256 ^ l.length = p at *
    have : b.toNat * p ≤ 255 * p := Nat.mul_le_mul_right p (by omega)
    omega
theorem be_mod (a n : Nat) : ∀ z, be (a * 256 ^ z + n) z = be n z
  | 0 => rfl
  | z + 1 => by
    have h1 : be (a * 256 ^ (z + 1) + n) z = be n z := by
      rw [Nat.pow_succ, Nat.mul_comm (256 ^ z) 256, ← Nat.mul_assoc]
      exact be_mod (a * 256) n z
    have h2 : UInt8.ofNat ((a * 256 ^ (z + 1) + n) / 256 ^ z) = UInt8.ofNat (n / 256 ^ z) := by
      have hp : 0 < 256 ^ z := Nat.pow_pos (by decide)
      rw [Nat.pow_succ, Nat.mul_comm (256 ^ z) 256, ← Nat.mul_assoc, Nat.add_comm, Nat.add_mul_div_right _ _ hp]
      apply UInt8.toNat_inj.1
      simp
    rw [be, be, h1, h2]
theorem be_num : ∀ (l : List UInt8), be (num l) l.length = l
  | [] => rfl
  | b :: l => by
    have hp : 0 < 256 ^ l.length := Nat.pow_pos (by decide)
    rw [num_cons, List.length_cons, be, be_mod, be_num l]
    congr 1
    rw [Nat.add_comm, Nat.add_mul_div_right _ _ hp, Nat.div_eq_of_lt (num_lt l)]
    simp

/-- The row once so many bytes have been put. -/
def putRow (X B : List UInt8) (k : Nat) : List UInt8 := X ++ (B.take k ++ List.replicate (B.length - k) 0)
theorem putRow_zero (X B : List UInt8) : putRow X B 0 = X ++ List.replicate B.length 0 := by simp [putRow]
theorem putRow_all (X B : List UInt8) : putRow X B B.length = X ++ B := by simp [putRow]
theorem putRow_step (X B : List UInt8) (k : Nat) (h : k < B.length) : (bv (putRow X B k)).set (X.length + k) (.int .u8 (B[k].toNat : Int)) = bv (putRow X B (k + 1)) := by
  apply List.ext_getElem?
  intro j
  simp only [List.getElem?_set, bv, putRow, List.length_map, List.length_append, List.length_take, List.length_replicate, List.getElem?_map, List.getElem?_append]
  by_cases e : X.length + k = j
  · subst e
    rw [if_pos rfl, if_pos (by omega), if_neg (by omega), if_pos (by omega)]
    simp [h]
  · rw [if_neg e]
    by_cases h1 : j < X.length
    · rw [if_pos h1, if_pos h1]
    · rw [if_neg h1, if_neg h1]
      by_cases h2 : j - X.length < k
      · rw [if_pos (by omega), if_pos (by omega)]
        simp [h2, show j - X.length < k + 1 by omega]
      · rw [if_neg (by omega), if_neg (by omega)]
        simp only [List.getElem?_replicate]
        congr 1
        have : (j - X.length - min k B.length < B.length - k) = (j - X.length - min (k + 1) B.length < B.length - (k + 1)) := by
          apply propext; omega
        simp only [this]
theorem or_add (a b i : Nat) (h : b < 2 ^ i) : (a * 2 ^ i) ||| b = a * 2 ^ i + b := by
  have := Nat.shiftLeft_add_eq_or_of_lt h a
  rw [Nat.shiftLeft_eq] at this
  exact this.symm
end L06
end Go.Proofs.Ytggedodfkjdegaa

