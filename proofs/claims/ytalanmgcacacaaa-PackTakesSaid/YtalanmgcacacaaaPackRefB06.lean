/- The document's Put and PutFix. -/
import Derived.Test.YtalanmgcacacaaaPackRef06
namespace Go.Proofs.Ytalanmgcacacaaa
open Go.RowKit
namespace L06

theorem rput_no (A : Option Addr) (m c : Nat) (n size : Int) (w : World) (h : (size < 1 ∨ 4 < size) ∨ ((1 ≤ size ∧ size ≤ 4) ∧ (n < 0 ∨ (256 : Int) ^ size.toNat ≤ n))) :
    Calls Try.prog 11 #[.slice A m c, .int .i64 n, .int .i64 size] w (Ret w (.tuple #[.slice none 0 0, .int .i64 60])) := by
  rcases h with (h | h) | ⟨⟨h1, h2⟩, h⟩
  · go_enter Try.func11, Try.ntmps11
    go_wp2_with fail
    go_ret2
    exact ⟨rfl, Ext.refl _⟩
  · have h' : ¬ size < 1 := by omega
    go_enter Try.func11, Try.ntmps11
    go_wp2_with fail
    go_ret2
    exact ⟨rfl, Ext.refl _⟩
  · by_cases h0 : n < 0
    · go_enter Try.func11, Try.ntmps11
      go_wp2_with fail
      go_ret2
      exact ⟨rfl, Ext.refl _⟩
    · have hp : (256 : Int) ^ size.toNat ≤ n := by omega
      generalize hq : (256 : Int) ^ size.toNat = q at *
      have HQ := Lib.hid hq
      clear h hq
      go_enter Try.func11, Try.ntmps11
      go_wp2_with fail
      refine (power_any size size.toNat _ (by omega) (by omega)).mono ?_; rintro e w1 ⟨rfl, rfl⟩
      rw [HQ.out]
      go_wp2_with fail
      go_ret2
      exact ⟨rfl, Ext.refl _⟩

theorem byte_is (n : Int) (z k : Nat) (h : k < z) (hn : 0 ≤ n) : n / (256 : Int) ^ (z - 1 - k) % 256 = (((be n.toNat z)[k]'(by rw [be_length]; exact h)).toNat : Int) := by
  have := byte_at n.toNat z k h
  rw [Int.toNat_of_nonneg hn, Int.pow_mul] at this
  exact this

set_option maxRecDepth 100000 in
set_option maxHeartbeats 2000000 in
theorem rput_yes (A : Option Addr) (l : List UInt8) (c z : Nat) (n : Int) (w : World) (hs : SeenB w A l) (hl : l.length ≤ 100000) (h1 : 1 ≤ z) (h2 : z ≤ 4) (hn0 : 0 ≤ n) (hn : n < 256 ^ z) :
    Calls Try.prog 11 #[.slice A l.length c, .int .i64 n, .int .i64 z] w (GivesB w (l ++ be n.toNat z)) := by
  have hb4 : n < 4294967296 := by
    rcases (show z = 1 ∨ z = 2 ∨ z = 3 ∨ z = 4 by omega) with rfl | rfl | rfl | rfl <;> simp at hn <;> omega
  generalize hq : (256 : Int) ^ z = q at *
  have HQ := Lib.hid hq
  clear hq
  obtain ⟨v1, w1, r1, o1, _⟩ := run_putB (P := Try.prog) 22 22 5 Try.underlying22 uint8_info (OwnB.lit 5 w w [] #[] 0 rfl rfl (by simp) (Ext.refl _)) A l l.length c (hs.ext ((Ext.refl _).alloc _)) rfl (by simp; omega)
  go_enter Try.func11, Try.ntmps11
  go_wp2_with fail
  refine (power_any z z _ rfl h2).mono ?_; rintro e w2 ⟨rfl, rfl⟩
  rw [HQ.out]
  go_wp2_with (at_builtin; refine wpList_ran rfl _ _ rfl r1 ?_)
  clear hn
  go_loopw [8, 9] (fun v i wr => ∃ k : Nat, k ≤ z ∧ i = .int .i64 k ∧ OwnB 5 w wr v (l ++ (be n.toNat z).take k)) (fun _ i _ => z - (intOf i).toNat)
  case atStart => exact ⟨0, by omega, rfl, by simpa using o1⟩
  case round =>
    clear r1 o1
    obtain ⟨k, hk, rfl, o⟩ := hrel
    by_cases hlt : k < z
    · have hbe : k < (be n.toNat z).length := by rw [be_length]; exact hlt
      have hx := byte_is n z k hlt hn0
      have hsplit : (be n.toNat z).take (k + 1) = (be n.toNat z).take k ++ [(be n.toNat z)[k]] := List.take_succ_eq_append_getElem hbe
      have ho : OwnB 5 w (wr.alloc (.cells #[.int .u8 (((be n.toNat z)[k]'hbe).toNat : Int)] 5)) _ (l ++ (be n.toNat z).take k) := ⟨o.1.alloc _, o.2.alloc _⟩
      obtain ⟨v2, w2, r2, o2, _⟩ := run_putB (P := Try.prog) 22 22 5 Try.underlying22 uint8_info ho (some ⟨wr.heap.size, 0, none⟩) [(be n.toNat z)[k]] 1 1 (lit_seen _ _ _ _ (by simp [bv]) rfl) rfl (by simp [be_length]; omega)
      rw [List.append_assoc, ← hsplit] at o2
      have b0 : 0 ≤ (((be n.toNat z)[k]'hbe).toNat : Int) := by omega
      have b1 : (((be n.toNat z)[k]'hbe).toNat : Int) ≤ 255 := by have := ((be n.toNat z)[k]'hbe).toNat_lt; omega
      have O2 := Lib.hid o2
      clear o2 hsplit ho o
      generalize (((be n.toNat z)[k]'hbe).toNat : Int) = b at *
      have hp : 0 < (256 : Int) ^ (z - 1 - k) := Int.pow_pos (by decide)
      have P := fun w => power_any ((z : Int) - 1 - k) (z - 1 - k) w (by omega) (by omega)
      generalize (256 : Int) ^ (z - 1 - k) = p at *
      have d0 : 0 ≤ n / p := Int.ediv_nonneg hn0 (by omega)
      have d1 : n / p ≤ n := Int.ediv_le_self _ hn0
      have P := Lib.hid P
      clear hbe
      go_wp2_with fail
      refine (P.out _).mono ?_; rintro e w3 ⟨rfl, rfl⟩
      go_wp2_with (at_builtin; refine wpList_ran rfl _ _ rfl r2 ?_)
      go_roundw
      case rel => exact ⟨k + 1, by omega, by go_num, O2.out⟩
      case measure => simp [intOf]; omega
    · obtain rfl : k = z := by omega
      rw [List.take_of_length_le (by rw [be_length]; exact Nat.le_refl _)] at o
      obtain ⟨A', c', rfl, hc', hs'⟩ := o.seen
      go_wp2_with fail
      go_ret2
      exact ⟨A', c', by simp [be_length], hc', hs', o.2⟩
end L06
end Go.Proofs.Ytalanmgcacacaaa

