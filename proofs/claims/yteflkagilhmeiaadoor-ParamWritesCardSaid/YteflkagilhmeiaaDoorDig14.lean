/- Numerals and lines: that a numeral is read as it was written; where a line is cut. -/
import Derived.Test.YteflkagilhmeiaaDoorRSame14
import Derived.Test.YteflkagilhmeiaaDoorParse14
namespace Go.Proofs.YteflkagilhmeiaaDoor
open Go.RowKit
namespace L14

theorem parse_app : ∀ (l : List UInt8) (acc v : Nat) (r : List UInt8), Lib.parseUint10 acc l = .ok v → Lib.parseUint10 acc (l ++ r) = Lib.parseUint10 v r
  | [], acc, v, r, h => by
    simp only [Lib.parseUint10, Lib.NumEnd.ok.injEq] at h
    rw [h]; rfl
  | c :: l, acc, v, r, h => by
    rw [List.cons_append]
    simp only [Lib.parseUint10] at h ⊢
    split at h
    · rename_i h1
      rw [if_pos h1]
      split at h
      · cases h
      · rename_i h2
        rw [if_neg h2]
        split at h
        · cases h
        · rename_i h3
          rw [if_neg h3]
          exact parse_app l _ v r h
    · cases h
theorem digit_nat {d : Nat} (h : d < 10) : (UInt8.ofNat (48 + d)).toNat = 48 + d := by
  have : d = 0 ∨ d = 1 ∨ d = 2 ∨ d = 3 ∨ d = 4 ∨ d = 5 ∨ d = 6 ∨ d = 7 ∨ d = 8 ∨ d = 9 := by omega
  rcases this with rfl | rfl | rfl | rfl | rfl | rfl | rfl | rfl | rfl | rfl <;> rfl
theorem dec_small {u : Nat} (h : u < 10) : Lib.decDigits u = [UInt8.ofNat (48 + u)] := Lib.decDigits_one h
theorem dec_big {u : Nat} (h : ¬ u < 10) : Lib.decDigits u = Lib.decDigits (u / 10) ++ [UInt8.ofNat (48 + u % 10)] := by rw [Lib.decDigits, dif_neg h]
theorem parse_one {acc d : Nat} (hd : d < 10) (ha : acc * 10 + d < 18446744073709551616) : Lib.parseUint10 acc [UInt8.ofNat (48 + d)] = .ok (acc * 10 + d) := by
  simp only [Lib.parseUint10, digit_nat hd]
  rw [if_pos (by omega), if_neg (by omega), if_neg (by omega)]
  congr 1
  omega
theorem parse_dec (u : Nat) (h : u < 18446744073709551616) : Lib.parseUint10 0 (Lib.decDigits u) = .ok u := by
  induction u using Nat.strongRecOn with
  | ind u ih =>
    by_cases h1 : u < 10
    · rw [dec_small h1, parse_one h1 (by omega)]; simp
    · rw [dec_big h1, parse_app _ _ _ _ (ih (u / 10) (by omega) (by omega)), parse_one (by omega) (by omega)]
      congr 1
      omega
theorem dec_digits (u : Nat) : ∀ b ∈ Lib.decDigits u, 48 ≤ b.toNat ∧ b.toNat ≤ 57 := by
  induction u using Nat.strongRecOn with
  | ind u ih =>
    intro b hb
    by_cases h1 : u < 10
    · rw [dec_small h1, List.mem_singleton] at hb
      rw [hb, digit_nat h1]; omega
    · rw [dec_big h1] at hb
      rcases List.mem_append.1 hb with hb | hb
      · exact ih _ (by omega) b hb
      · rw [List.mem_singleton] at hb
        rw [hb, digit_nat (by omega)]; omega
theorem dec_ne (u : Nat) : Lib.decDigits u ≠ [] := fun h => by
  have h1 := Lib.decDigits_length u
  have h2 := Lib.nDigits_pos u
  rw [h] at h1
  simp only [List.length_nil] at h1
  omega
theorem mag_dec {u : Nat} (h : u < 18446744073709551616) : Lib.parseMag (Lib.decDigits u) = .ok u := by
  rw [Lib.parseMag, if_neg (dec_ne u), parse_dec u h]
theorem atoi_itoa {v : Int} (h : Wide v) : Lib.atoiAll (Lib.itoa v) = .ok v := by
  have h1 := h.1
  have h2 := h.2
  unfold Lib.itoa
  by_cases hv : v < 0
  · rw [if_pos hv, Lib.atoiAll_minus, mag_dec (by omega), Lib.signed, if_neg (by omega)]
    congr 1
    omega
  · rw [if_neg hv]
    have hm := mag_dec (u := v.toNat) (by omega)
    have hd := dec_digits v.toNat
    cases hl : Lib.decDigits v.toNat with
    | nil => exact absurd hl (dec_ne _)
    | cons c r =>
      rw [hl] at hm hd
      have := hd c (by simp)
      rw [Lib.atoiAll_plain c r (by omega) (by omega), hm, Lib.signless, if_neg (by omega)]
      congr 1
      omega
theorem dec_itoa {v : Int} (h : Wide v) : decB (Lib.itoa v) = some v := by
  rw [decB, atoi_itoa h]
  exact if_pos rfl
theorem itoa_free (v : Int) : (32 : UInt8) ∉ Lib.itoa v ∧ (10 : UInt8) ∉ Lib.itoa v := by
  have h : ∀ b ∈ Lib.itoa v, 45 ≤ b.toNat := fun b hb => by
    unfold Lib.itoa at hb
    split at hb
    · rcases List.mem_cons.1 hb with rfl | hb
      · decide
      · have := dec_digits _ b hb; omega
    · have := dec_digits _ b hb; omega
  exact ⟨fun hb => by have := h _ hb; revert this; decide, fun hb => by have := h _ hb; revert this; decide⟩
theorem name_free (j : Nat) : (32 : UInt8) ∉ nameL j ∧ (10 : UInt8) ∉ nameL j := by
  unfold nameL
  split <;> decide

theorem byte_at (c : UInt8) (r : List UInt8) : ∀ a : List UInt8, c ∉ a → Lib.indexByte (a ++ c :: r) c = (a.length : Int)
  | [], _ => by simp [Lib.indexByte]
  | b :: a, h => by
    have hb : b ≠ c := fun e => h (by simp [e])
    have ih := byte_at c r a (fun hm => h (by simp [hm]))
    rw [List.cons_append, Lib.indexByte, if_neg (by simpa using hb), ih, if_neg (by simp)]
    simp only [List.length_cons]
    omega
theorem byte_none (c : UInt8) : ∀ a : List UInt8, c ∉ a → Lib.indexByte a c = -1
  | [], _ => rfl
  | b :: a, h => by
    have hb : b ≠ c := fun e => h (by simp [e])
    have ih := byte_none c a (fun hm => h (by simp [hm]))
    rw [Lib.indexByte, if_neg (by simpa using hb), ih]
    rfl
theorem cut_at {c : UInt8} {a : List UInt8} (r : List UInt8) (h : c ∉ a) : Lib.cut (a ++ c :: r) [c] = (a, r, true) := by
  rw [Lib.cut, Lib.index_one, byte_at c r a h, if_pos (by omega)]
  simp
theorem cut_none {c : UInt8} {a : List UInt8} (h : c ∉ a) : Lib.cut a [c] = (a, [], false) := by
  rw [Lib.cut, Lib.index_one, byte_none c a h, if_neg (by omega)]
theorem split_words : ∀ (ws : List (List UInt8)) (a : List UInt8), (32 : UInt8) ∉ a → (∀ x ∈ ws, (32 : UInt8) ∉ x) → Lib.splitK [32] 0 ws.length (a ++ ws.flatMap (fun x => 32 :: x)) = a :: ws
  | [], a, _, _ => by simp [Lib.splitK]
  | x :: ws, a, h, hw => by
    have e : a ++ (x :: ws).flatMap (fun x => 32 :: x) = a ++ 32 :: (x ++ ws.flatMap (fun x => 32 :: x)) := by simp
    rw [e, List.length_cons, Lib.splitK, Lib.index_one, byte_at _ _ _ h, if_neg (by simp)]
    have ih := split_words ws x (hw x (by simp)) (fun y hy => hw y (by simp [hy]))
    simp only [Int.toNat_natCast, Nat.add_zero, List.length_cons, List.length_nil, Nat.zero_add]
    rw [List.take_left, show a.length + 1 = (a ++ [32]).length by simp, show a ++ 32 :: (x ++ ws.flatMap fun x => 32 :: x) = (a ++ [32]) ++ (x ++ ws.flatMap fun x => 32 :: x) by simp, List.drop_left, ih]
theorem count_words : ∀ (ws : List (List UInt8)) (a : List UInt8), (32 : UInt8) ∉ a → (∀ x ∈ ws, (32 : UInt8) ∉ x) → Lib.countByte (a ++ ws.flatMap (fun x => 32 :: x)) 32 = ws.length
  | [], a, h, _ => by simp [Lib.countByte, List.count_eq_zero.2 h]
  | x :: ws, a, h, hw => by
    have ih := count_words ws x (hw x (by simp)) (fun y hy => hw y (by simp [hy]))
    unfold Lib.countByte at ih ⊢
    simp only [List.flatMap_cons, List.cons_append, List.count_append, List.count_cons_self, List.count_eq_zero.2 h, List.length_cons] at ih ⊢
    omega
end L14
end Go.Proofs.YteflkagilhmeiaaDoor

