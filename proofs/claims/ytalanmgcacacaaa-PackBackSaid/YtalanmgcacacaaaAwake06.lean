/- What all statements of layer 6 begin with. -/
import Derived.Test.YtalanmgcacacaaaPackF06
namespace Go.Proofs.Ytalanmgcacacaaa
open Go.RowKit
namespace L06

/-- string(b), as the walk asks it. -/
theorem str_of {w : World} {A : Option Addr} {l : List UInt8} (h : SeenB w A l) (c n : Nat) (hn : n = l.length) : (convert 22 9 (.slice A n c)).run Try.prog w = .ok (.string ⟨l.toArray⟩) w :=
  h.str 22 9 5 c n Try.underlying22 Try.underlying5 Try.underlying9 hn
theorem str_drew {w : World} {A : Option Addr} {l : List UInt8} (h : SeenB w A l) (c n : Nat) (hn : n = l.length) (k : Nat) : (convert 22 9 (.slice A n c)).run Try.prog (w.drewN k) = .ok (.string ⟨l.toArray⟩) (w.drewN k) :=
  str_of (w := w.drewN k) h c n hn
/-- What was put stands behind what was there. -/
theorem GivesB.open {w w' : World} {l : List UInt8} {n z : Nat} {e : Ending} (h : GivesB w (l ++ be n z) e w') :
    ∃ A c, e = .returned (.tuple #[.slice A (l.length + z) c, .int .i64 0]) ∧ l.length + z ≤ c ∧ SeenB w' A (l ++ be n z) ∧ Ext w w' := by
  obtain ⟨A, c, e, hc, s, x⟩ := h
  rw [List.length_append, be_length] at e hc
  exact ⟨A, c, e, hc, s, x⟩
theorem put_ways (n size : Int) : ((size < 1 ∨ 4 < size) ∨ ((1 ≤ size ∧ size ≤ 4) ∧ (n < 0 ∨ (256 : Int) ^ size.toNat ≤ n))) ∨ ∃ z : Nat, size = z ∧ 1 ≤ z ∧ z ≤ 4 ∧ 0 ≤ n ∧ n < 256 ^ z := by
  by_cases h : 1 ≤ size ∧ size ≤ 4
  · by_cases h0 : 0 ≤ n ∧ n < 256 ^ size.toNat
    · exact .inr ⟨size.toNat, by omega, by omega, by omega, h0.1, h0.2⟩
    · exact .inl (.inr ⟨h, by rw [Classical.not_and_iff_not_or_not] at h0; omega⟩)
  · exact .inl (.inl (by omega))
theorem fix_ways (n : Int) : (n < -2147483648 ∨ 2147483648 ≤ n) ∨ (-2147483648 ≤ n ∧ n < 2147483648) := by omega
theorem lit_seen (w : World) (b : Nat) (cs : Array Value) (l : List UInt8) (h : cs = (bv l).toArray) (hb : b = w.heap.size) : SeenB (w.alloc (.cells cs 5)) (some ⟨b, 0, none⟩) l := by
  subst h hb
  exact (Blk.new w 5 (bv l).toArray).seen (by simp)

theorem a1 (w : World) (A : Option Addr) (c : Nat) (h : SeenB w A [9]) : Calls Try.prog 10 #[.slice A 1 c, .int .i64 258, .int .i64 2] w (GivesB w [9, 1, 2]) := put_yes A [9] c 2 258 w h (by decide) (by decide) (by decide) (by decide) (by decide)
theorem a2 (w : World) (A : Option Addr) (c : Nat) (h : SeenB w A [9, 1, 2]) (hc : 3 ≤ c) : Calls Try.prog 14 #[.slice A 3 c, .int .i64 1] w (GivesT w 9 [1, 2]) := take_yes A [9, 1, 2] c 3 1 w h rfl hc (by decide) (by decide) (by decide) (by decide)
theorem a3 (w : World) : Calls Try.prog 12 #[.slice none 0 0, .int .i64 (-2)] w (GivesB w [255, 255, 255, 254]) := putfix_yes none [] 0 0 (-2) w SeenB.nil rfl (by decide) (by decide) (by decide)
theorem a4 (w : World) (A : Option Addr) (c : Nat) (h : SeenB w A [255, 255, 255, 254]) (hc : 4 ≤ c) : Calls Try.prog 16 #[.slice A 4 c] w (GivesT w (-2) []) := takefix_yes A [255, 255, 255, 254] c 4 w h rfl hc (by decide) (by decide)
theorem a5 (w : World) : Calls Try.prog 10 #[.slice none 0 0, .int .i64 256, .int .i64 1] w (Ret w (.tuple #[.slice none 0 0, .int .i64 60])) := put_no none 0 0 256 1 w (.inr ⟨⟨by decide, by decide⟩, .inr (by decide)⟩)
theorem a6 (w : World) : Calls Try.prog 14 #[.slice none 0 0, .int .i64 1] w (Ret w (.tuple #[.int .i64 0, .slice none 0 0, .int .i64 60])) := take_no none 0 0 1 w (.inr ⟨⟨by decide, by decide⟩, by decide⟩)

set_option maxRecDepth 100000 in
set_option maxHeartbeats 4000000 in
theorem awake_any (w : World) : Calls Try.prog 9 #[] w (Ret w (.bool true)) := by
  go_enter Try.func9, Try.ntmps9
  go_wp2_with fail
  refine (a1 _ _ _ (lit_seen w _ _ [9] rfl rfl)).mono ?_; rintro e w1 ⟨A1, c1, rfl, h1, s1, x1⟩
  have y1 : Ext w w1 := ((Ext.refl _).alloc _).trans x1
  clear x1
  go_wp2_with fail
  refine (a2 _ _ _ s1 h1).mono ?_; rintro e w2 ⟨A2, c2, rfl, s2, x2⟩
  have y2 := y1.trans x2
  have s1 := s1.ext x2
  clear x2 y1
  go_wp2_with fail
  refine (a3 _).mono ?_; rintro e w3 ⟨A3, c3, rfl, h3, s3, x3⟩
  have y3 := y2.trans x3
  have s1 := s1.ext x3
  have s2 := s2.ext x3
  clear x3 y2
  go_wp2_with fail
  refine (a4 _ _ _ s3 h3).mono ?_; rintro e w4 ⟨A4, c4, rfl, s4, x4⟩
  have y4 := y3.trans x4
  have s1 := s1.ext x4
  have s2 := s2.ext x4
  have s3 := s3.ext x4
  clear x4 y3
  go_wp2_with fail
  refine (a5 _).mono ?_; rintro e w5 ⟨rfl, x5⟩
  have y5 := y4.trans x5
  have s1 := s1.ext x5
  have s2 := s2.ext x5
  have s3 := s3.ext x5
  clear x5 y4
  go_wp2_with fail
  refine (a6 _).mono ?_; rintro e w6 ⟨rfl, x6⟩
  have y6 := y5.trans x6
  have s1 := s1.ext x6
  have s2 := s2.ext x6
  have s3 := s3.ext x6
  clear x6 y5
  have q1 := str_of s1 c1 3 rfl
  have q2 := str_of (lit_seen w6 w6.heap.size #[.int .u8 9, .int .u8 1, .int .u8 2] [9, 1, 2] rfl rfl) 3 3 rfl
  have xa : Ext w6 (w6.alloc (.cells #[.int .u8 9, .int .u8 1, .int .u8 2] 5)) := (Ext.refl _).alloc _
  have q3 := str_of (s2.ext xa) c2 2 rfl
  have q4 := str_of (lit_seen (w6.alloc (.cells #[.int .u8 9, .int .u8 1, .int .u8 2] 5)) (w6.heap.size + 1) #[.int .u8 1, .int .u8 2] [1, 2] rfl (by simp)) 2 2 rfl
  have xb := xa.alloc (.cells #[.int .u8 1, .int .u8 2] 5)
  have q5 := str_of (s3.ext xb) c3 4 rfl
  have q6 := str_of (lit_seen ((w6.alloc (.cells #[.int .u8 9, .int .u8 1, .int .u8 2] 5)).alloc (.cells #[.int .u8 1, .int .u8 2] 5)) (w6.heap.size + 1 + 1) #[.int .u8 255, .int .u8 255, .int .u8 255, .int .u8 254] [255, 255, 255, 254] rfl (by simp)) 4 4 rfl
  go_wp2_with fail
  go_ret
  exact ⟨rfl, (y6.trans xb).alloc _⟩
end L06
end Go.Proofs.Ytalanmgcacacaaa

