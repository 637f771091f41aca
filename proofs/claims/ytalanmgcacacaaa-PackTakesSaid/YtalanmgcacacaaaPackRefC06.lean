/- The document's PutFix, Take and TakeFix. -/
import Derived.Test.YtalanmgcacacaaaPackRefB06
namespace Go.Proofs.Ytalanmgcacacaaa
open Go.RowKit
namespace L06

theorem rputfix_no (A : Option Addr) (m c : Nat) (n : Int) (w : World) (h : n < -2147483648 ∨ 2147483648 ≤ n) :
    Calls Try.prog 13 #[.slice A m c, .int .i64 n] w (Ret w (.tuple #[.slice none 0 0, .int .i64 60])) := by
  rcases h with h | h
  · go_enter Try.func13, Try.ntmps13
    go_wp2_with fail
    go_ret2
    exact ⟨rfl, Ext.refl _⟩
  · have h' : ¬ n < -2147483648 := by omega
    go_enter Try.func13, Try.ntmps13
    go_wp2_with fail
    go_ret2
    exact ⟨rfl, Ext.refl _⟩

theorem rputfix_yes (A : Option Addr) (l : List UInt8) (m c : Nat) (n : Int) (w : World) (hs : SeenB w A l) (hm : m = l.length) (hl : l.length ≤ 100000) (h1 : -2147483648 ≤ n) (h2 : n < 2147483648) :
    Calls Try.prog 13 #[.slice A m c, .int .i64 n] w (GivesB w (l ++ be (up32 n).toNat 4)) := by
  subst hm
  have hu := up32_in h1 h2
  by_cases h : n < 0
  · have e : up32 n = n + 4294967296 := if_pos h
    rw [e] at hu ⊢
    obtain ⟨hu1, hu2⟩ := hu
    clear e
    go_enter Try.func13, Try.ntmps13
    go_wp2_with fail
    refine (rput_yes A l c 4 (n + 4294967296) _ hs hl (by omega) (by omega) hu1 hu2).mono ?_; rintro e w1 ⟨A1, c1, rfl, hc1, s1, x1⟩
    go_wp2_with fail
    go_ret2
    exact ⟨A1, c1, by simp, hc1, s1, x1⟩
  · have e : up32 n = n := if_neg h
    rw [e] at hu ⊢
    obtain ⟨hu1, hu2⟩ := hu
    clear e
    go_enter Try.func13, Try.ntmps13
    go_wp2_with fail
    refine (rput_yes A l c 4 n _ hs hl (by omega) (by omega) hu1 hu2).mono ?_; rintro e w1 ⟨A1, c1, rfl, hc1, s1, x1⟩
    go_wp2_with fail
    go_ret2
    exact ⟨A1, c1, by simp, hc1, s1, x1⟩

theorem rtake_no (A : Option Addr) (m c : Nat) (size : Int) (w : World) (h : (size < 1 ∨ 4 < size) ∨ ((1 ≤ size ∧ size ≤ 4) ∧ (m : Int) < size)) :
    Calls Try.prog 15 #[.slice A m c, .int .i64 size] w (Ret w (.tuple #[.int .i64 0, .slice none 0 0, .int .i64 60])) := by
  rcases h with (h | h) | ⟨⟨h1, h2⟩, h⟩
  · go_enter Try.func15, Try.ntmps15
    go_wp2_with fail
    go_ret3
    exact ⟨rfl, Ext.refl _⟩
  · have h' : ¬ size < 1 := by omega
    go_enter Try.func15, Try.ntmps15
    go_wp2_with fail
    go_ret3
    exact ⟨rfl, Ext.refl _⟩
  · go_enter Try.func15, Try.ntmps15
    go_wp2_with fail
    go_ret3
    exact ⟨rfl, Ext.refl _⟩

theorem num_step (l : List UInt8) (k : Nat) (h : k < l.length) : ((num (l.take (k + 1)) : Nat) : Int) = 256 * (num (l.take k) : Nat) + (l[k].toNat : Int) := by
  rw [List.take_succ_eq_append_getElem h, num_snoc]; omega
theorem num_four (l : List UInt8) (k : Nat) (h : k ≤ 4) : num (l.take k) < 4294967296 := by
  have h1 := num_lt (l.take k)
  have h2 : (l.take k).length ≤ 4 := by rw [List.length_take]; omega
  have h3 : 256 ^ (l.take k).length ≤ 256 ^ 4 := Nat.pow_le_pow_right (by decide) h2
  omega

set_option maxHeartbeats 2000000 in
theorem rtake_yes (A : Option Addr) (l : List UInt8) (c n z : Nat) (w : World) (hs : SeenB w A l) (hn : n = l.length) (hc : n ≤ c) (hl : l.length ≤ 100000) (h1 : 1 ≤ z) (h2 : z ≤ 4) (h3 : z ≤ n) :
    Calls Try.prog 15 #[.slice A n c, .int .i64 z] w (GivesT w (num (l.take z)) (l.drop z)) := by
  have d1 : decide ((n : Int) < (z : Int)) = false := by simp; omega
  have hcut := hs.cut (k := z) (cap := c) (by omega) (by omega)
  obtain ⟨v1, w1, r1, o1, _⟩ := run_putB (P := Try.prog) 22 22 5 Try.underlying22 uint8_info (OwnB.lit 5 w w [] #[] 0 rfl rfl (by simp) (Ext.refl _)) _ (l.drop z) (n - z) (c - z) (hcut.ext ((Ext.refl _).alloc _)) (by simp; omega) (by simp; omega)
  obtain ⟨A1, c1, rfl, hc1, hs1⟩ := o1.seen
  have HN := Lib.hid hn
  clear hn hcut
  unfold cutA at r1
  go_enter Try.func15, Try.ntmps15
  go_wp2_with fail
  go_loop [7, 8] (fun v i => ∃ k : Nat, k ≤ z ∧ i = .int .i64 k ∧ v = .int .i64 (num (l.take k))) (fun _ i => z - (intOf i).toNat)
  case atStart => exact ⟨0, by omega, rfl, by simp [num]⟩
  case round =>
    obtain ⟨k, hk, rfl, rfl⟩ := hrel
    by_cases hlt : k < z
    · have hkl : k < l.length := by rw [← HN.out]; omega
      obtain ⟨ad, rfl, _, g1⟩ := hs.get hkl
      have st := num_step l k hkl
      have b0 : 0 ≤ (l[k].toNat : Int) := by omega
      have b1 : (l[k].toNat : Int) ≤ 255 := by have := l[k].toNat_lt; omega
      have n1 := num_four l k (by omega)
      have ST := Lib.hid st
      clear st r1 o1 hs1
      generalize (l[k].toNat : Int) = b at *
      obtain ⟨N, hN⟩ : ∃ N : Int, N = (num (l.take k) : Int) := ⟨_, rfl⟩
      have N0 : 0 ≤ N := by omega
      have N1 : N < 4294967296 := by omega
      rw [← hN] at ST ⊢
      have hkn : k < n := by omega
      clear hN n1
      go_wp2_with fail
      go_round
      case rel => exact ⟨k + 1, by omega, by go_num, by rw [ST.out]⟩
      case measure => simp [intOf]; omega
    · obtain rfl : k = z := by omega
      generalize num (l.take k) = N at *
      by_cases hcz : c = k
      · rw [if_pos hcz] at r1
        subst hcz
        obtain rfl : n = c := by omega
        simp only [Nat.sub_self] at r1
        go_wp2_with (at_builtin; refine wpList_ran rfl _ _ rfl r1 ?_)
        go_ret3
        exact ⟨A1, c1, by simp, by simpa using hs1, o1.2⟩
      · rw [if_neg hcz] at r1
        go_wp2_with (at_builtin; refine wpList_ran rfl _ _ rfl r1 ?_)
        go_ret3
        exact ⟨A1, c1, by simp, by simpa using hs1, o1.2⟩

theorem rtakefix_no (A : Option Addr) (m c : Nat) (w : World) (h : m < 4) :
    Calls Try.prog 17 #[.slice A m c] w (Ret w (.tuple #[.int .i64 0, .slice none 0 0, .int .i64 60])) := by
  go_enter Try.func17, Try.ntmps17
  go_wp2_with fail
  refine (rtake_no A m c 4 _ (.inr ⟨⟨by omega, by omega⟩, by omega⟩)).mono ?_; rintro e w1 ⟨rfl, x1⟩
  go_wp2_with fail
  go_ret3
  exact ⟨rfl, x1⟩

theorem rtakefix_yes (A : Option Addr) (l : List UInt8) (c n : Nat) (w : World) (hs : SeenB w A l) (hn : n = l.length) (hc : n ≤ c) (hl : l.length ≤ 100000) (h3 : 4 ≤ n) :
    Calls Try.prog 17 #[.slice A n c] w (GivesT w (down32 (num (l.take 4))) (l.drop 4)) := by
  have T := rtake_yes A l c n 4 w hs hn hc hl (by omega) (by omega) h3
  have hb := num_lt (l.take 4)
  rw [List.length_take, Nat.min_eq_left (by omega)] at hb
  obtain ⟨N, hN⟩ : ∃ N : Int, N = (num (l.take 4) : Int) := ⟨_, rfl⟩
  have h0 : 0 ≤ N := by omega
  have h1 : N < 4294967296 := by omega
  have T := Lib.hid T
  have HN := Lib.hid hn
  clear hn hb
  rw [← hN] at T ⊢
  clear hN
  by_cases h : 2147483648 ≤ N
  · have e : down32 N = N - 4294967296 := if_pos h
    rw [e]
    clear e
    go_enter Try.func17, Try.ntmps17
    go_wp2_with fail
    refine T.out.mono ?_; rintro e w1 ⟨A1, c1, rfl, s1, x1⟩
    go_wp2_with fail
    go_ret3
    exact ⟨A1, c1, by simp, s1, x1⟩
  · have e : down32 N = N := if_neg h
    rw [e]
    clear e
    go_enter Try.func17, Try.ntmps17
    go_wp2_with fail
    refine T.out.mono ?_; rintro e w1 ⟨A1, c1, rfl, s1, x1⟩
    go_wp2_with fail
    go_ret3
    exact ⟨A1, c1, by simp, s1, x1⟩
end L06
end Go.Proofs.Ytalanmgcacacaaa

