/- The document's answers of layer 6, for later layers. -/
import Derived.Test.YtggedodfkjdegaaPackGen
namespace Go.Proofs.Ytggedodfkjdegaa
open Go.RowKit
namespace L06

theorem power_any (i : Int) (z : Nat) (w : World) (hi : i = z) (hz : z ≤ 4) : Calls Try.prog 52 #[.int .i64 i] w (fun e w' => e = .returned (.int .i64 ((256 : Int) ^ z)) ∧ w = w') := by
  subst hi
  rcases (show z = 0 ∨ z = 1 ∨ z = 2 ∨ z = 3 ∨ z = 4 by omega) with rfl | rfl | rfl | rfl | rfl
  · go_enter Try.func52, Try.ntmps52
    go_wp2_with fail
    refine wp_loop_rounds 1 ?_
    rw [rounds_succ]
    go_wp2_with fail
    go_ret
    exact ⟨rfl, rfl⟩
  · go_enter Try.func52, Try.ntmps52
    go_wp2_with fail
    refine wp_loop_rounds 2 ?_
    rw [rounds_succ]
    go_wp2_with fail
    rw [rounds_succ]
    go_wp2_with fail
    go_ret
    exact ⟨rfl, rfl⟩
  · go_enter Try.func52, Try.ntmps52
    go_wp2_with fail
    refine wp_loop_rounds 3 ?_
    rw [rounds_succ]
    go_wp2_with fail
    rw [rounds_succ]
    go_wp2_with fail
    rw [rounds_succ]
    go_wp2_with fail
    go_ret
    exact ⟨rfl, rfl⟩
  · go_enter Try.func52, Try.ntmps52
    go_wp2_with fail
    refine wp_loop_rounds 4 ?_
    rw [rounds_succ]
    go_wp2_with fail
    rw [rounds_succ]
    go_wp2_with fail
    rw [rounds_succ]
    go_wp2_with fail
    rw [rounds_succ]
    go_wp2_with fail
    go_ret
    exact ⟨rfl, rfl⟩
  · go_enter Try.func52, Try.ntmps52
    go_wp2_with fail
    refine wp_loop_rounds 5 ?_
    rw [rounds_succ]
    go_wp2_with fail
    rw [rounds_succ]
    go_wp2_with fail
    rw [rounds_succ]
    go_wp2_with fail
    rw [rounds_succ]
    go_wp2_with fail
    rw [rounds_succ]
    go_wp2_with fail
    go_ret
    exact ⟨rfl, rfl⟩
theorem rput_no (A : Option Addr) (m c : Nat) (n size : Int) (w : World) (h : (size < 1 ∨ 4 < size) ∨ ((1 ≤ size ∧ size ≤ 4) ∧ (n < 0 ∨ (256 : Int) ^ size.toNat ≤ n))) :
    Calls Try.prog 47 #[.slice A m c, .int .i64 n, .int .i64 size] w (Ret w (.tuple #[.slice none 0 0, .int .i64 60])) := by
  rcases h with (h | h) | ⟨⟨h1, h2⟩, h⟩
  · go_enter Try.func47, Try.ntmps47
    go_wp2_with fail
    go_ret2
    exact ⟨rfl, Ext.refl _⟩
  · have h' : ¬ size < 1 := by omega
    go_enter Try.func47, Try.ntmps47
    go_wp2_with fail
    go_ret2
    exact ⟨rfl, Ext.refl _⟩
  · by_cases h0 : n < 0
    · go_enter Try.func47, Try.ntmps47
      go_wp2_with fail
      go_ret2
      exact ⟨rfl, Ext.refl _⟩
    · have hp : (256 : Int) ^ size.toNat ≤ n := by omega
      generalize hq : (256 : Int) ^ size.toNat = q at *
      have HQ := Lib.hid hq
      clear h hq
      go_enter Try.func47, Try.ntmps47
      go_wp2_with fail
      refine (power_any size size.toNat _ (by omega) (by omega)).mono ?_; rintro e w1 ⟨rfl, rfl⟩
      rw [HQ.out]
      go_wp2_with fail
      go_ret2
      exact ⟨rfl, Ext.refl _⟩
set_option maxRecDepth 100000 in
set_option maxHeartbeats 2000000 in
theorem rput_yes (A : Option Addr) (l : List UInt8) (c z : Nat) (n : Int) (w : World) (hs : SeenB w A l) (hl : l.length ≤ 100000) (h1 : 1 ≤ z) (h2 : z ≤ 4) (hn0 : 0 ≤ n) (hn : n < 256 ^ z) :
    Calls Try.prog 47 #[.slice A l.length c, .int .i64 n, .int .i64 z] w (GivesB w (l ++ be n.toNat z)) := by
  have hb4 : n < 4294967296 := by
    rcases (show z = 1 ∨ z = 2 ∨ z = 3 ∨ z = 4 by omega) with rfl | rfl | rfl | rfl <;> simp at hn <;> omega
  generalize hq : (256 : Int) ^ z = q at *
  have HQ := Lib.hid hq
  clear hq
  obtain ⟨v1, w1, r1, o1, _⟩ := run_putB (P := Try.prog) 22 22 5 Try.underlying22 uint8_info (OwnB.lit 5 w w [] #[] 0 rfl rfl (by simp) (Ext.refl _)) A l l.length c (hs.ext ((Ext.refl _).alloc _)) rfl (by simp; omega)
  go_enter Try.func47, Try.ntmps47
  go_wp2_with fail
  refine (power_any z z _ rfl h2).mono ?_; rintro e w2 ⟨rfl, rfl⟩
  rw [HQ.out]
  go_wp2_with (at_builtin; refine wpList_ran rfl _ _ rfl r1 ?_)
  clear hn
  go_loopw [8, 9] (fun v i wr => ∃ k : Nat, k ≤ z ∧ i = .int .i64 k ∧ OwnB 5 w wr v (l ++ (be n.toNat z).take k)) (fun _ i _ => z - (intOf i).toNat)
  case atStart => exact ⟨0, by omega, rfl, by simpa using o1⟩
  case round =>
    clear r1 o1
    obtain ⟨k, hk, rfl, o⟩ := hrel
    by_cases hlt : k < z
    · have hbe : k < (be n.toNat z).length := by rw [be_length]; exact hlt
      have hx := byte_is n z k hlt hn0
      have hsplit : (be n.toNat z).take (k + 1) = (be n.toNat z).take k ++ [(be n.toNat z)[k]] := List.take_succ_eq_append_getElem hbe
      have ho : OwnB 5 w (wr.alloc (.cells #[.int .u8 (((be n.toNat z)[k]'hbe).toNat : Int)] 5)) _ (l ++ (be n.toNat z).take k) := ⟨o.1.alloc _, o.2.alloc _⟩
      obtain ⟨v2, w2, r2, o2, _⟩ := run_putB (P := Try.prog) 22 22 5 Try.underlying22 uint8_info ho (some ⟨wr.heap.size, 0, none⟩) [(be n.toNat z)[k]] 1 1 (lit_seen _ _ _ _ (by simp [bv]) rfl) rfl (by simp [be_length]; omega)
      rw [List.append_assoc, ← hsplit] at o2
      have b0 : 0 ≤ (((be n.toNat z)[k]'hbe).toNat : Int) := by omega
      have b1 : (((be n.toNat z)[k]'hbe).toNat : Int) ≤ 255 := by have := ((be n.toNat z)[k]'hbe).toNat_lt; omega
      have O2 := Lib.hid o2
      clear o2 hsplit ho o
      generalize (((be n.toNat z)[k]'hbe).toNat : Int) = b at *
      have hp : 0 < (256 : Int) ^ (z - 1 - k) := Int.pow_pos (by decide)
      have P := fun w => power_any ((z : Int) - 1 - k) (z - 1 - k) w (by omega) (by omega)
      generalize (256 : Int) ^ (z - 1 - k) = p at *
      have d0 : 0 ≤ n / p := Int.ediv_nonneg hn0 (by omega)
      have d1 : n / p ≤ n := Int.ediv_le_self _ hn0
      have P := Lib.hid P
      clear hbe
      go_wp2_with fail
      refine (P.out _).mono ?_; rintro e w3 ⟨rfl, rfl⟩
      go_wp2_with (at_builtin; refine wpList_ran rfl _ _ rfl r2 ?_)
      go_roundw
      case rel => exact ⟨k + 1, by omega, by go_num, O2.out⟩
      case measure => simp [intOf]; omega
    · obtain rfl : k = z := by omega
      rw [List.take_of_length_le (by rw [be_length]; exact Nat.le_refl _)] at o
      obtain ⟨A', c', rfl, hc', hs'⟩ := o.seen
      go_wp2_with fail
      go_ret2
      exact ⟨A', c', by simp [be_length], hc', hs', o.2⟩
theorem rtake_no (A : Option Addr) (m c : Nat) (size : Int) (w : World) (h : (size < 1 ∨ 4 < size) ∨ ((1 ≤ size ∧ size ≤ 4) ∧ (m : Int) < size)) :
    Calls Try.prog 44 #[.slice A m c, .int .i64 size] w (Ret w (.tuple #[.int .i64 0, .slice none 0 0, .int .i64 60])) := by
  rcases h with (h | h) | ⟨⟨h1, h2⟩, h⟩
  · go_enter Try.func44, Try.ntmps44
    go_wp2_with fail
    go_ret3
    exact ⟨rfl, Ext.refl _⟩
  · have h' : ¬ size < 1 := by omega
    go_enter Try.func44, Try.ntmps44
    go_wp2_with fail
    go_ret3
    exact ⟨rfl, Ext.refl _⟩
  · go_enter Try.func44, Try.ntmps44
    go_wp2_with fail
    go_ret3
    exact ⟨rfl, Ext.refl _⟩
set_option maxRecDepth 100000 in
set_option maxHeartbeats 2000000 in
theorem rtake_yes (A : Option Addr) (l : List UInt8) (c n z : Nat) (w : World) (hs : SeenB w A l) (hn : n = l.length) (hc : n ≤ c) (hl : l.length ≤ 100000) (h1 : 1 ≤ z) (h2 : z ≤ 4) (h3 : z ≤ n) :
    Calls Try.prog 44 #[.slice A n c, .int .i64 z] w (GivesT w (num (l.take z)) (l.drop z)) := by
  have d1 : decide ((n : Int) < (z : Int)) = false := by simp; omega
  have hcut := hs.cut (k := z) (cap := c) (by omega) (by omega)
  obtain ⟨v1, w1, r1, o1, _⟩ := run_putB (P := Try.prog) 22 22 5 Try.underlying22 uint8_info (OwnB.lit 5 w w [] #[] 0 rfl rfl (by simp) (Ext.refl _)) _ (l.drop z) (n - z) (c - z) (hcut.ext ((Ext.refl _).alloc _)) (by simp; omega) (by simp; omega)
  obtain ⟨A1, c1, rfl, hc1, hs1⟩ := o1.seen
  have HN := Lib.hid hn
  clear hn hcut
  unfold cutA at r1
  go_enter Try.func44, Try.ntmps44
  go_wp2_with fail
  go_loop [7, 8] (fun v i => ∃ k : Nat, k ≤ z ∧ i = .int .i64 k ∧ v = .int .i64 (num (l.take k))) (fun _ i => z - (intOf i).toNat)
  case atStart => exact ⟨0, by omega, rfl, by simp [num]⟩
  case round =>
    obtain ⟨k, hk, rfl, rfl⟩ := hrel
    by_cases hlt : k < z
    · have hkl : k < l.length := by rw [← HN.out]; omega
      obtain ⟨ad, rfl, _, g1⟩ := hs.get hkl
      have st := num_step l k hkl
      have b0 : 0 ≤ (l[k].toNat : Int) := by omega
      have b1 : (l[k].toNat : Int) ≤ 255 := by have := l[k].toNat_lt; omega
      have n1 := num_four l k (by omega)
      have ST := Lib.hid st
      clear st r1 o1 hs1
      generalize (l[k].toNat : Int) = b at *
      obtain ⟨N, hN⟩ : ∃ N : Int, N = (num (l.take k) : Int) := ⟨_, rfl⟩
      have N0 : 0 ≤ N := by omega
      have N1 : N < 4294967296 := by omega
      rw [← hN] at ST ⊢
      have hkn : k < n := by omega
      clear hN n1
      go_wp2_with fail
      go_round
      case rel => exact ⟨k + 1, by omega, by go_num, by rw [ST.out]⟩
      case measure => simp [intOf]; omega
    · obtain rfl : k = z := by omega
      generalize num (l.take k) = N at *
      by_cases hcz : c = k
      · rw [if_pos hcz] at r1
        subst hcz
        obtain rfl : n = c := by omega
        simp only [Nat.sub_self] at r1
        go_wp2_with (at_builtin; refine wpList_ran rfl _ _ rfl r1 ?_)
        go_ret3
        exact ⟨A1, c1, by simp, by simpa using hs1, o1.2⟩
      · rw [if_neg hcz] at r1
        go_wp2_with (at_builtin; refine wpList_ran rfl _ _ rfl r1 ?_)
        go_ret3
        exact ⟨A1, c1, by simp, by simpa using hs1, o1.2⟩
theorem rtakefix_no (A : Option Addr) (m c : Nat) (w : World) (h : m < 4) :
    Calls Try.prog 31 #[.slice A m c] w (Ret w (.tuple #[.int .i64 0, .slice none 0 0, .int .i64 60])) := by
  go_enter Try.func31, Try.ntmps31
  go_wp2_with fail
  refine (rtake_no A m c 4 _ (.inr ⟨⟨by omega, by omega⟩, by omega⟩)).mono ?_; rintro e w1 ⟨rfl, x1⟩
  go_wp2_with fail
  go_ret3
  exact ⟨rfl, x1⟩
theorem rtakefix_yes (A : Option Addr) (l : List UInt8) (c n : Nat) (w : World) (hs : SeenB w A l) (hn : n = l.length) (hc : n ≤ c) (hl : l.length ≤ 100000) (h3 : 4 ≤ n) :
    Calls Try.prog 31 #[.slice A n c] w (GivesT w (down32 (num (l.take 4))) (l.drop 4)) := by
  have T := rtake_yes A l c n 4 w hs hn hc hl (by omega) (by omega) h3
  have hb := num_lt (l.take 4)
  rw [List.length_take, Nat.min_eq_left (by omega)] at hb
  obtain ⟨N, hN⟩ : ∃ N : Int, N = (num (l.take 4) : Int) := ⟨_, rfl⟩
  have h0 : 0 ≤ N := by omega
  have h1 : N < 4294967296 := by omega
  have T := Lib.hid T
  have HN := Lib.hid hn
  clear hn hb
  rw [← hN] at T ⊢
  clear hN
  by_cases h : 2147483648 ≤ N
  · have e : down32 N = N - 4294967296 := if_pos h
    rw [e]
    clear e
    go_enter Try.func31, Try.ntmps31
    go_wp2_with fail
    refine T.out.mono ?_; rintro e w1 ⟨A1, c1, rfl, s1, x1⟩
    go_wp2_with fail
    go_ret3
    exact ⟨A1, c1, by simp, s1, x1⟩
  · have e : down32 N = N := if_neg h
    rw [e]
    clear e
    go_enter Try.func31, Try.ntmps31
    go_wp2_with fail
    refine T.out.mono ?_; rintro e w1 ⟨A1, c1, rfl, s1, x1⟩
    go_wp2_with fail
    go_ret3
    exact ⟨A1, c1, by simp, s1, x1⟩
end L06
end Go.Proofs.Ytggedodfkjdegaa

