/- Contracts of layer 6 (pack): PutFix and TakeFix. -/
import Derived.Test.YtalanmgcacacaaaPackE06
namespace Go.Proofs.Ytalanmgcacacaaa
open Go.RowKit
namespace L06

/-- A number that may be below 0, as one that is not; and back. -/
def up32 (n : Int) : Int := if n < 0 then n + 4294967296 else n
def down32 (n : Int) : Int := if 2147483648 ≤ n then n - 4294967296 else n
theorem up32_in {n : Int} (h1 : -2147483648 ≤ n) (h2 : n < 2147483648) : 0 ≤ up32 n ∧ up32 n < 256 ^ 4 := by unfold up32; split <;> omega
theorem down_up {n : Int} (h1 : -2147483648 ≤ n) (h2 : n < 2147483648) : down32 (up32 n) = n := by
  unfold down32 up32; repeat' split
  all_goals omega

theorem putfix_no (A : Option Addr) (m c : Nat) (n : Int) (w : World) (h : n < -2147483648 ∨ 2147483648 ≤ n) :
    Calls Try.prog 12 #[.slice A m c, .int .i64 n] w (Ret w (.tuple #[.slice none 0 0, .int .i64 60])) := by
  rcases h with h | h
  · go_enter Try.func12, Try.ntmps12
    go_wp2_with fail
    go_ret2
    exact ⟨rfl, Ext.refl _⟩
  · have h' : ¬ n < -2147483648 := by omega
    go_enter Try.func12, Try.ntmps12
    go_wp2_with fail
    go_ret2
    exact ⟨rfl, Ext.refl _⟩

theorem putfix_yes (A : Option Addr) (l : List UInt8) (m c : Nat) (n : Int) (w : World) (hs : SeenB w A l) (hm : m = l.length) (hl : l.length ≤ 100000) (h1 : -2147483648 ≤ n) (h2 : n < 2147483648) :
    Calls Try.prog 12 #[.slice A m c, .int .i64 n] w (GivesB w (l ++ be (up32 n).toNat 4)) := by
  subst hm
  have hu := up32_in h1 h2
  by_cases h : n < 0
  · have e : up32 n = n + 4294967296 := if_pos h
    rw [e] at hu ⊢
    obtain ⟨hu1, hu2⟩ := hu
    clear e
    go_enter Try.func12, Try.ntmps12
    go_wp2_with fail
    refine (put_yes A l c 4 (n + 4294967296) _ hs hl (by omega) (by omega) hu1 hu2).mono ?_; rintro e w1 ⟨A1, c1, rfl, hc1, s1, x1⟩
    go_wp2_with fail
    go_ret2
    exact ⟨A1, c1, by simp, hc1, s1, x1⟩
  · have e : up32 n = n := if_neg h
    rw [e] at hu ⊢
    obtain ⟨hu1, hu2⟩ := hu
    clear e
    go_enter Try.func12, Try.ntmps12
    go_wp2_with fail
    refine (put_yes A l c 4 n _ hs hl (by omega) (by omega) hu1 hu2).mono ?_; rintro e w1 ⟨A1, c1, rfl, hc1, s1, x1⟩
    go_wp2_with fail
    go_ret2
    exact ⟨A1, c1, by simp, hc1, s1, x1⟩

theorem takefix_no (A : Option Addr) (m c : Nat) (w : World) (h : m < 4) :
    Calls Try.prog 16 #[.slice A m c] w (Ret w (.tuple #[.int .i64 0, .slice none 0 0, .int .i64 60])) := by
  go_enter Try.func16, Try.ntmps16
  go_wp2_with fail
  refine (take_no A m c 4 _ (.inr ⟨⟨by omega, by omega⟩, by omega⟩)).mono ?_; rintro e w1 ⟨rfl, x1⟩
  go_wp2_with fail
  go_ret3
  exact ⟨rfl, x1⟩

theorem takefix_yes (A : Option Addr) (l : List UInt8) (c n : Nat) (w : World) (hs : SeenB w A l) (hn : n = l.length) (hc : n ≤ c) (hl : l.length ≤ 100000) (h3 : 4 ≤ n) :
    Calls Try.prog 16 #[.slice A n c] w (GivesT w (down32 (num (l.take 4))) (l.drop 4)) := by
  have T := take_yes A l c n 4 w hs hn hc hl (by omega) (by omega) h3
  have hb := num_lt (l.take 4)
  rw [List.length_take, Nat.min_eq_left (by omega)] at hb
  obtain ⟨N, hN⟩ : ∃ N : Int, N = (num (l.take 4) : Int) := ⟨_, rfl⟩
  have h0 : 0 ≤ N := by omega
  have h1 : N < 4294967296 := by omega
  have T := Lib.hid T
  have HN := Lib.hid hn
  clear hn hb
  rw [← hN] at T ⊢
  clear hN
  by_cases h : 2147483648 ≤ N
  · have e : down32 N = N - 4294967296 := if_pos h
    rw [e]
    clear e
    go_enter Try.func16, Try.ntmps16
    go_wp2_with fail
    refine T.out.mono ?_; rintro e w1 ⟨A1, c1, rfl, s1, x1⟩
    go_wp2_with fail
    go_ret3
    exact ⟨A1, c1, by simp, s1, x1⟩
  · have e : down32 N = N := if_neg h
    rw [e]
    clear e
    go_enter Try.func16, Try.ntmps16
    go_wp2_with fail
    refine T.out.mono ?_; rintro e w1 ⟨A1, c1, rfl, s1, x1⟩
    go_wp2_with fail
    go_ret3
    exact ⟨A1, c1, by simp, s1, x1⟩
end L06
end Go.Proofs.Ytalanmgcacacaaa

