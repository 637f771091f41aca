/- The document's Read of layer 7: a fix, and so many. -/
import Derived.Test.YtggedodfkjdegaaTakenA07
import Derived.Test.YtggedodfkjdegaaPackRefLib
namespace Go.Proofs.Ytggedodfkjdegaa
open Go.RowKit
namespace L07
open L06

set_option maxRecDepth 100000 in
set_option maxHeartbeats 2000000 in
/-- The number at a place of words. -/
theorem rfix_any (A : Option Addr) (l : List UInt8) (c n k : Nat) (w : World) (hs : SeenB w A l) (hn : n = l.length) (hc : n ≤ c) (_hm : c ≤ 9223372036854775807) (hl : l.length ≤ 100000) (hk : 4 * k + 4 ≤ n) :
    Calls Try.prog 13 #[.slice A n c, .int .i64 k] w (Ret w (.int .i64 (fixA l k))) := by
  obtain ⟨ad, rfl, hb, h0⟩ := hs.get (k := 4 * k) (by omega)
  have hcut := hs.cut (k := 4 * k) (cap := c) (by omega) (by omega)
  have hne : ¬ c = 4 * k := by omega
  rw [cutA, if_neg hne] at hcut
  have hcut : SeenB w (some (ad.add (4 * k))) ((l.drop (4 * k)).take 4) := SeenB.take hcut 4
  have h4 : ((l.drop (4 * k)).take 4).length = 4 := by simp; omega
  have T := rtakefix_yes (some (ad.add (4 * k))) _ (c - 4 * k) 4 w hcut h4.symm (by omega) (by rw [h4]; omega) (by omega)
  rw [List.take_take, Nat.min_self] at T
  have T := Lib.hid T
  have hk2 : k ≤ 25000 := by omega
  clear h0 hb
  clear hs hcut hn h4 hl
  go_enter Try.func13, Try.ntmps13
  go_wp2_with fail
  refine T.out.mono ?_; rintro e w1 ⟨A1, c1, rfl, s1, x1⟩
  go_wp2_with fail
  go_ret
  exact ⟨rfl, x1⟩

set_option maxRecDepth 100000 in
set_option maxHeartbeats 4000000 in
/-- So many of them, in memory of its own. -/
theorem rsome_any (A : Option Addr) (l : List UInt8) (c n p m : Nat) (w : World) (hs : SeenB w A l) (hn : n = l.length) (hc : n ≤ c) (hm : c ≤ 9223372036854775807) (hl : l.length ≤ 100000) (hk : 4 * (p + m) ≤ n) :
    Calls Try.prog 14 #[.slice A n c, .int .i64 p, .int .i64 m] w (fun e w' => ∃ A' c', e = .returned (.slice A' m c') ∧ w'.ownsRow w.heap.size 3 1 (.slice A' m c') m ((List.range m).map fun j => .int .i64 (fixA l (p + j))) ∧ Ext w w') := by
  have FX := Lib.hid (fun k w' (x : Ext w w') (h : 4 * k + 4 ≤ n) => rfix_any A l c n k w' (hs.ext x) hn hc hm hl h)
  have hp : p ≤ 25000 := by omega
  have hm' : m ≤ 25000 := by omega
  clear hs hn hl
  go_enter Try.func14, Try.ntmps14
  go_wp2_with fail
  go_loopw [7, 8] (fun v i wr => ∃ k : Nat, k ≤ m ∧ i = .int .i64 k ∧ ∃ A' c', v = .slice A' k c' ∧ Hid (wr.ownsRow w.heap.size 3 1 (.slice A' k c') k ((List.range k).map fun j => .int .i64 (fixA l (p + j))) ∧ Ext w wr)) (fun _ i _ => m - (intOf i).toNat)
  case atStart => exact ⟨0, by omega, rfl, none, 0, rfl, Lib.hid ⟨World.ownsRow_nil _ _ _ _, Ext.refl _⟩⟩
  case round =>
    obtain ⟨k, hk2, rfl, A', c', rfl, o⟩ := hrel
    by_cases hlt : k < m
    · obtain ⟨y, hy⟩ : ∃ y, y = fixA l (p + k) := ⟨_, rfl⟩
      have F := FX.out (p + k) wr o.out.2 (by omega)
      rw [← hy] at F
      have F := Lib.hid F
      have hcast : ((p + k : Nat) : Int) = (p : Int) + (k : Int) := by omega
      rw [hcast] at F
      clear hcast
      go_wp2_with fail
      refine F.out.mono ?_; rintro e w5 ⟨rfl, x5⟩
      have x6 : Ext wr (w5.alloc (.cells #[.int .i64 y] 3)) := x5.alloc _
      obtain ⟨A9, c9, u9, r9, o9, g9⟩ := run_putV (P := Try.prog) 25 25 3 (.int .i64 0) 1 8 (by kernel_rfl) (by kernel_rfl) rfl (by omega) (by omega) (OwnsRow.ext o.out.1 x6) ⟨w5.heap.size, 0, none⟩ 1 1 [.int .i64 y] rfl
        (fun j u hu => by
          have k := Blk.lit w5 w5.heap.size 3 #[.int .i64 y] rfl
          have := k.cell j
          rw [add_zero_addr]
          exact this.trans (by simpa using hu)) (by simp [Value.oneCell']) (by omega) (by have := o.out.2.size; have := x6.size; omega)
      have X9 : Ext w u9 := Below.grown (o.out.2.trans x6) g9 (o.out.2.trans x6).size fun q hq => (o.out.1.lt q hq).1
      have O9 := Lib.hid (And.intro o9 X9)
      have HY := Lib.hid hy
      clear o o9 X9 g9 x5 x6 hy F
      go_wp2_with (at_builtin; refine wpList_ran rfl _ _ rfl r9 ?_)
      go_roundw
      case rel => exact ⟨k + 1, by omega, by go_num, A9, c9, rfl, Lib.hid ⟨by rw [List.range_succ, List.map_append]; have := O9.out.1; rw [HY.out] at this; exact this, O9.out.2⟩⟩
      case measure => simp [intOf]; omega
    · obtain rfl : k = m := by omega
      go_wp2_with fail
      go_ret
      exact ⟨A', c', rfl, o.out⟩
end L07
end Go.Proofs.Ytggedodfkjdegaa

