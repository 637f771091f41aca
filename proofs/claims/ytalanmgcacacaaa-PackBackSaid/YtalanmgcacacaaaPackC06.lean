/- Contracts of layer 6 (pack): Take's loop. -/
import Derived.Test.YtalanmgcacacaaaPackB06
import Derived.Laws.BitsLemmas
namespace Go.Proofs.Ytalanmgcacacaaa
open Go.RowKit
namespace L06

set_option maxRecDepth 100000 in
set_option maxHeartbeats 1000000 in
theorem take1_any (k s acc : Int) (bn bb c n : Nat) (A : Option Addr) (l : List UInt8) (w : World)
    (hn : w.cell? ⟨bn, 0, none⟩ = some (.int .i64 acc)) (hnf : w.frozen? ⟨bn, 0, none⟩ = false) (hb : w.cell? ⟨bb, 0, none⟩ = some (.slice A n c)) (hs : SeenB w A l)
    (hln : n = l.length) (hk0 : 0 ≤ k) (hk : k.toNat < l.length) (hs0 : 0 ≤ s) (hs1 : s ≤ 24) (_ : 0 ≤ acc) (_ : acc < 4294967296) :
    Calls Try.prog 22 #[.int .i64 k, .int .i64 s, .pointer (some ⟨bn, 0, none⟩), .pointer (some ⟨bb, 0, none⟩)] w
      (fun e w' => e = .returned (.tuple #[]) ∧ w' = (w.setCell ⟨bn, 0, none⟩ (.int .i64 (bits .or .i64 acc (wrap64 ((l[k.toNat].toNat : Int) * 2 ^ s.toNat))))).drew) := by
  obtain ⟨ad, rfl, _, hc⟩ := hs.get (k := k.toNat) (by omega)
  have hb0 : 0 ≤ ((l[k.toNat]'(by omega)).toNat : Int) := by omega
  have hb1 : ((l[k.toNat]'(by omega)).toNat : Int) ≤ 255 := by have := (l[k.toNat]'(by omega)).toNat_lt; omega
  generalize ((l[k.toNat]'(by omega)).toNat : Int) = b at *
  have hkn : k < n := by omega
  clear hs hk hln
  go_enter Try.func22, Try.ntmps22
  go_wp2_with fail
  go_still_tail 9, (by kernel_rfl)
  change wpList _ _ _ _ _ w.drew
  go_wp2_with fail
  go_end0
  exact ⟨rfl, rfl⟩

theorem wraps_i64 (n : Int) (h₀ : 0 ≤ n) (h₁ : n < 2 ^ 62) : IntKind.i64.wrap n = n := by rw [IntKind.wrap_i64]; omega
theorem or_step (l : List UInt8) (z k : Nat) (hz : z ≤ 4) (hk : k < z) (hl : k < l.length) :
    bits .or .i64 ((num (l.take k) * 256 ^ (z - k) : Nat) : Int) (wrap64 ((l[k].toNat : Int) * 2 ^ (8 * (z - 1 - k)))) = ((num (l.take (k + 1)) * 256 ^ (z - (k + 1)) : Nat) : Int) ∧
      num (l.take k) * 256 ^ (z - k) < 4294967296 := by
  have hb := l[k].toNat_lt
  have h1 := num_lt (l.take k)
  rw [List.length_take, Nat.min_eq_left (by omega)] at h1
  have e1 : l.take (k + 1) = l.take k ++ [l[k]] := List.take_succ_eq_append_getElem hl
  rw [e1, num_snoc]
  generalize l[k].toNat = b at *
  generalize num (l.take k) = x at *
  obtain ⟨i, hi⟩ : ∃ i, i = 8 * (z - k) := ⟨_, rfl⟩
  rcases (show (z = 1 ∧ k = 0) ∨ (z = 2 ∧ k = 0) ∨ (z = 2 ∧ k = 1) ∨ (z = 3 ∧ k = 0) ∨ (z = 3 ∧ k = 1) ∨ (z = 3 ∧ k = 2) ∨ (z = 4 ∧ k = 0) ∨ (z = 4 ∧ k = 1) ∨ (z = 4 ∧ k = 2) ∨ (z = 4 ∧ k = 3) by omega) with ⟨rfl, rfl⟩ | ⟨rfl, rfl⟩ | ⟨rfl, rfl⟩ | ⟨rfl, rfl⟩ | ⟨rfl, rfl⟩ | ⟨rfl, rfl⟩ | ⟨rfl, rfl⟩ | ⟨rfl, rfl⟩ | ⟨rfl, rfl⟩ | ⟨rfl, rfl⟩
  all_goals
    simp at h1 hi
    refine ⟨?_, by simp; omega⟩
    simp only [wrap64]
    rw [bits_join .i64 62 (by decide) wraps_i64 i _ _ (by omega) (by rw [hi]; simp) (by simp; omega) (by simp; omega) (by rw [hi]; simp; omega) (by simp; omega)]
    simp
    omega

set_option maxHeartbeats 1000000 in
theorem down_take (zi : Int) (z : Nat) (bn bb n c : Nat) (A : Option Addr) (l : List UInt8) (w0 w : World) (hzi : zi = z) (hnl : n = l.length)
    (hn : w.cell? ⟨bn, 0, none⟩ = some (.int .i64 0)) (hnf : w.frozen? ⟨bn, 0, none⟩ = false) (hb0 : w0.cell? ⟨bb, 0, none⟩ = some (.slice A n c)) (hs0 : SeenB w0 A l)
    (x0 : Ext w0 w) (hlt : w0.heap.size ≤ bn) (hz : z ≤ 4) (hl : z ≤ l.length) :
    Calls Try.prog 19 #[.int .i64 zi, .func (.func 22) #[] #[.pointer (some ⟨bn, 0, none⟩), .pointer (some ⟨bb, 0, none⟩)]] w
      (fun e w' => e = .returned (.tuple #[]) ∧ w'.cell? ⟨bn, 0, none⟩ = some (.int .i64 (num (l.take z))) ∧ Ext w0 w') := by
  subst hzi
  have HNL := Lib.hid hnl
  clear hnl
  go_enter Try.func19, Try.ntmps19
  go_wp2_with fail
  go_loopw [6] (fun i wr => ∃ k : Nat, k ≤ z ∧ i = .int .i64 k ∧ wr.cell? ⟨bn, 0, none⟩ = some (.int .i64 ((num (l.take k) * 256 ^ (z - k) : Nat) : Int)) ∧ wr.frozen? ⟨bn, 0, none⟩ = false ∧ Ext w0 wr) (fun i _ => z - (intOf i).toNat)
  case atStart => exact ⟨0, by omega, rfl, by simpa [num] using hn, hnf, x0⟩
  case round =>
    clear hn hnf x0
    obtain ⟨k, hk, rfl, hn, hnf, x⟩ := hrel
    by_cases hlt' : k < z
    · have hkl : k < l.length := by omega
      obtain ⟨H1, H2⟩ := or_step l z k hz hlt' hkl
      have H1 := Lib.hid H1
      have hs := hs0.ext x
      have hb := x.at hb0
      obtain ⟨acc, hacc⟩ : ∃ acc : Int, acc = ((num (l.take k) * 256 ^ (z - k) : Nat) : Int) := ⟨_, rfl⟩
      have ha0 : 0 ≤ acc := by omega
      have ha1 : acc < 4294967296 := by omega
      have HA := Lib.hid hacc
      rw [← hacc] at hn
      clear hacc H2 hs0 hb0
      go_wp2_with fail
      refine (take1_any _ _ acc bn bb c n A l wr hn hnf hb hs HNL.out (by omega) (by simpa using hkl) (by omega) (by omega) ha0 ha1).mono ?_; rintro e w1 ⟨rfl, rfl⟩
      go_wp2_with fail
      go_roundw
      case rel =>
        refine ⟨k + 1, by omega, by go_num, ?_, by rw [← hnf]; exact World.frozen?_setCell _ _ _ _, (x.setCell hlt _).drew⟩
        rw [HA.out]
        rw [H1.out]
        exact World.cell?_setCell_same _ _ _ hn
      case measure => simp [intOf]; omega
    · obtain rfl : k = z := by omega
      go_wp2_with fail
      go_end0
      exact ⟨rfl, by simpa using hn, x⟩
end L06
end Go.Proofs.Ytalanmgcacacaaa

