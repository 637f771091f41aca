/- The document's answers of layer 7: four bytes, two, and those of a list. -/
import Derived.Test.YtggedodfkjdegaaBytesW07
import Derived.Test.YtggedodfkjdegaaPackRefLib
namespace Go.Proofs.Ytggedodfkjdegaa
open Go.RowKit
namespace L07
open L06

/-- Bytes in memory of their own, or none. -/
def Bytes (w : World) (l : List UInt8) (e : Ending) (w' : World) : Prop := ∃ A c, e = .returned (.slice A l.length c) ∧ l.length ≤ c ∧ SeenB w' A l ∧ Ext w w'

theorem four_any (n : Int) (w : World) (h1 : -4294967296 ≤ n) (h2 : n < 4294967296) : Calls Try.prog 33 #[.int .i64 n] w (Bytes w (fourW n)) := by
  have hl : (fourW n).length = 4 := fourW_length n
  by_cases h : n < 0
  · have e : fourW n = be (n + 4294967296).toNat 4 := by rw [fourW, if_pos h]
    rw [e] at hl ⊢
    go_enter Try.func33, Try.ntmps33
    go_wp2_with fail
    refine (rput_yes none [] 0 4 (n + 4294967296) _ SeenB.nil (by simp) (by omega) (by omega) (by omega) (by omega)).mono ?_; rintro e w1 ⟨A1, c1, rfl, hc1, s1, x1⟩
    rw [List.nil_append] at hc1 s1 ⊢
    go_wp2_with fail
    go_ret
    exact ⟨A1, c1, rfl, hc1, s1, x1⟩
  · have e : fourW n = be n.toNat 4 := by rw [fourW, if_neg h]
    rw [e] at hl ⊢
    go_enter Try.func33, Try.ntmps33
    go_wp2_with fail
    refine (rput_yes none [] 0 4 n _ SeenB.nil (by simp) (by omega) (by omega) (by omega) (by omega)).mono ?_; rintro e w1 ⟨A1, c1, rfl, hc1, s1, x1⟩
    rw [List.nil_append] at hc1 s1 ⊢
    go_wp2_with fail
    go_ret
    exact ⟨A1, c1, rfl, hc1, s1, x1⟩

theorem two_any (n : Int) (w : World) (h1 : 0 ≤ n) (h2 : n < 9223372036854775808) : Calls Try.prog 35 #[.int .i64 n] w (Bytes w (twoW n)) := by
  have e1 := b8_int (n / 256)
  have e2 := b8_int n
  have hs := lit_seen w w.heap.size #[.int .u8 (n / 256 % 256), .int .u8 (n % 256)] (twoW n) (by simp [bv, twoW, e1, e2]) rfl
  have S := Lib.hid hs
  clear hs e1 e2
  go_enter Try.func35, Try.ntmps35
  go_wp2_with fail
  go_ret
  exact ⟨_, 2, rfl, Nat.le_refl _, S.out, (Ext.refl _).alloc _⟩

set_option maxHeartbeats 1000000 in
theorem all_any (A : Option Addr) (n c : Nat) (f : Nat → Int) (w : World) (hs : SeenF w A n f) (hn : n ≤ 1000) (hf : ∀ j, j < n → -4294967296 ≤ f j ∧ f j < 4294967296) :
    Calls Try.prog 34 #[.slice A n c] w (Bytes w (allW f n)) := by
  go_enter Try.func34, Try.ntmps34
  go_wp2_with fail
  go_loopw [3, 4] (fun v i wr => ∃ k : Nat, k ≤ n ∧ i = .int .i64 k ∧ OwnB 5 w wr v (allW f k)) (fun _ i _ => n - (intOf i).toNat)
  case atStart => exact ⟨0, by omega, rfl, OwnB.nil _ _ _ (Ext.refl _)⟩
  case round =>
    obtain ⟨k, hk, rfl, o⟩ := hrel
    by_cases hlt : k < n
    · obtain ⟨ad, hA, g⟩ := (hs.ext o.2).get hlt
      subst hA
      obtain ⟨b1, b2⟩ := hf k hlt
      have O := Lib.hid o
      have HF := Lib.hid hf
      clear o hf hs
      obtain ⟨x, hx⟩ : ∃ x, x = f k := ⟨_, rfl⟩
      rw [← hx] at g b1 b2
      have HX := Lib.hid hx
      clear hx
      go_wp2_with fail
      refine (four_any x _ b1 b2).mono ?_; rintro e w1 ⟨A1, c1, rfl, hc1, s1, x1⟩
      have o1 : OwnB 5 w w1 _ (allW f k) := ⟨OwnsRow.ext O.out.1 x1, O.out.2.trans x1⟩
      obtain ⟨v2, w2, r2, o2, _⟩ := run_putB (P := Try.prog) 22 22 5 Try.underlying22 uint8_info o1 A1 (fourW x) _ c1 s1 rfl (by rw [allW_length, fourW_length]; omega)
      have O2 := Lib.hid o2
      clear o1 o2 s1 O
      go_wp2_with (at_builtin; refine wpList_ran rfl _ _ rfl r2 ?_)
      go_roundw
      case rel => exact ⟨k + 1, by omega, by go_num, by rw [allW, catB, ← HX.out]; exact O2.out⟩
      case measure => simp [intOf]; omega
    · obtain rfl : k = n := by omega
      obtain ⟨A', c', rfl, hc', hs'⟩ := o.seen
      go_wp2_with fail
      go_ret
      exact ⟨A', c', rfl, hc', hs', o.2⟩
end L07
end Go.Proofs.Ytggedodfkjdegaa

