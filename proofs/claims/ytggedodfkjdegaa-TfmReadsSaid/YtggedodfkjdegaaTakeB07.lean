/- The landed Read of layer 7: numbers taken one by one. -/
import Derived.Test.YtggedodfkjdegaaTakeA07
namespace Go.Proofs.Ytggedodfkjdegaa
open Go.RowKit
namespace L07
open L06

/-- A number of z bytes is taken; or there are too few. -/
def TakenR (w0 w : World) (g : Nat) (l : List UInt8) (z : Nat) (val : Int) (e : Ending) (w' : World) : Prop :=
  ((z ≤ l.length ∧ e = .returned (.tuple #[.int .i64 val, .int .i64 0])) ∨ (l.length < z ∧ e = .returned (.tuple #[.int .i64 0, .int .i64 60]))) ∧ BoxT w0 w' g (l.drop z) ∧ Chg (OnT g) w0.heap.size w w'
theorem BoxT.ext {w0 w w' : World} {g : Nat} {l : List UInt8} (h : BoxT w0 w g l) (x : Ext w w') : BoxT w0 w' g l := by
  obtain ⟨A, c, q, f, hc, hs⟩ := h
  exact ⟨A, c, x.at q, x.fz q f, hc, hs⟩

set_option maxHeartbeats 1000000 in
theorem number_any (w0 w : World) (g z : Nat) (zi : Int) (l : List UInt8) (hzi : zi = z) (hb : BoxT w0 w g l) (hg : w0.heap.size ≤ g) (hx : Ext w0 w) (hl : l.length ≤ 100000) (h1 : 1 ≤ z) (h2 : z ≤ 4) :
    Calls Try.prog 40 #[.pointer (some ⟨g, 0, none⟩), .int .i64 zi] w (TakenR w0 w g l z (num (l.take z))) := by
  have T := Lib.hid (cut_any w0 w g z zi l hzi hb hg hl (by omega))
  subst hzi
  by_cases h : z ≤ l.length
  · go_enter Try.func40, Try.ntmps40
    go_wp2_with fail
    refine T.out.mono ?_; rintro e w1 ⟨A, c, rfl, hc, hs, hb1, k1⟩
    have e : min z l.length = z := by omega
    rw [e] at hc ⊢
    have x1 := k1.old w0 (Nat.le_refl _) hx
    have TT := Lib.hid (take_yes A (l.take z) c z z w1 (hs.ext x1) (by simp; omega) hc (by simp; omega) h1 h2 (Nat.le_refl _))
    rw [List.take_take, Nat.min_self] at TT
    have H := Lib.hid (And.intro h (And.intro hb1 k1))
    clear hb1 k1 h hb hs hl T e
    go_wp2_with fail
    refine TT.out.mono ?_; rintro e w2 ⟨A2, c2, rfl, _, x2⟩
    go_wp2_with fail
    go_ret2
    exact ⟨.inl ⟨H.out.1, rfl⟩, H.out.2.1.ext x2, H.out.2.2.trans (Chg.of_ext x2)⟩
  · go_enter Try.func40, Try.ntmps40
    go_wp2_with fail
    refine T.out.mono ?_; rintro e w1 ⟨A, c, rfl, hc, hs, hb1, k1⟩
    have TT := Lib.hid (take_no A (min z l.length) c z w1 (.inr ⟨by omega, by omega⟩))
    have H := Lib.hid (And.intro h (And.intro hb1 k1))
    clear hb1 k1 h hb hs hl T
    go_wp2_with fail
    refine TT.out.mono ?_; rintro e w2 ⟨rfl, x2⟩
    go_wp2_with fail
    go_ret2
    exact ⟨.inr ⟨by have := H.out.1; omega, rfl⟩, H.out.2.1.ext x2, H.out.2.2.trans (Chg.of_ext x2)⟩

theorem one_any (w0 w : World) (g : Nat) (l : List UInt8) (hb : BoxT w0 w g l) (hg : w0.heap.size ≤ g) (hx : Ext w0 w) (hl : l.length ≤ 100000) :
    Calls Try.prog 28 #[.pointer (some ⟨g, 0, none⟩)] w (TakenR w0 w g l 1 (num (l.take 1))) := by
  have T := Lib.hid (number_any w0 w g 1 1 l rfl hb hg hx hl (by omega) (by omega))
  clear hb hx hl
  generalize num (l.take 1) = x at *
  go_enter Try.func28, Try.ntmps28
  go_wp2_with fail
  refine T.out.mono ?_
  rintro e w1 ⟨(⟨h, rfl⟩ | ⟨h, rfl⟩), hb1, k1⟩
  · have H := Lib.hid (And.intro h (And.intro hb1 k1))
    clear h hb1 k1
    go_wp2_with fail
    go_ret2
    exact ⟨.inl ⟨H.out.1, rfl⟩, H.out.2.1, H.out.2.2⟩
  · have H := Lib.hid (And.intro h (And.intro hb1 k1))
    clear h hb1 k1
    go_wp2_with fail
    go_ret2
    exact ⟨.inr ⟨H.out.1, rfl⟩, H.out.2.1, H.out.2.2⟩
theorem twof_any (w0 w : World) (g : Nat) (l : List UInt8) (hb : BoxT w0 w g l) (hg : w0.heap.size ≤ g) (hx : Ext w0 w) (hl : l.length ≤ 100000) :
    Calls Try.prog 26 #[.pointer (some ⟨g, 0, none⟩)] w (TakenR w0 w g l 2 (num (l.take 2))) := by
  have T := Lib.hid (number_any w0 w g 2 2 l rfl hb hg hx hl (by omega) (by omega))
  clear hb hx hl
  generalize num (l.take 2) = x at *
  go_enter Try.func26, Try.ntmps26
  go_wp2_with fail
  refine T.out.mono ?_
  rintro e w1 ⟨(⟨h, rfl⟩ | ⟨h, rfl⟩), hb1, k1⟩
  · have H := Lib.hid (And.intro h (And.intro hb1 k1))
    clear h hb1 k1
    go_wp2_with fail
    go_ret2
    exact ⟨.inl ⟨H.out.1, rfl⟩, H.out.2.1, H.out.2.2⟩
  · have H := Lib.hid (And.intro h (And.intro hb1 k1))
    clear h hb1 k1
    go_wp2_with fail
    go_ret2
    exact ⟨.inr ⟨H.out.1, rfl⟩, H.out.2.1, H.out.2.2⟩
theorem fourf_any (w0 w : World) (g : Nat) (l : List UInt8) (hb : BoxT w0 w g l) (hg : w0.heap.size ≤ g) (hx : Ext w0 w) (hl : l.length ≤ 100000) :
    Calls Try.prog 27 #[.pointer (some ⟨g, 0, none⟩)] w (TakenR w0 w g l 4 (num (l.take 4))) := by
  have T := Lib.hid (number_any w0 w g 4 4 l rfl hb hg hx hl (by omega) (by omega))
  clear hb hx hl
  generalize num (l.take 4) = x at *
  go_enter Try.func27, Try.ntmps27
  go_wp2_with fail
  refine T.out.mono ?_
  rintro e w1 ⟨(⟨h, rfl⟩ | ⟨h, rfl⟩), hb1, k1⟩
  · have H := Lib.hid (And.intro h (And.intro hb1 k1))
    clear h hb1 k1
    go_wp2_with fail
    go_ret2
    exact ⟨.inl ⟨H.out.1, rfl⟩, H.out.2.1, H.out.2.2⟩
  · have H := Lib.hid (And.intro h (And.intro hb1 k1))
    clear h hb1 k1
    go_wp2_with fail
    go_ret2
    exact ⟨.inr ⟨H.out.1, rfl⟩, H.out.2.1, H.out.2.2⟩
set_option maxHeartbeats 1000000 in
theorem fixf_any (w0 w : World) (g : Nat) (l : List UInt8) (hb : BoxT w0 w g l) (hg : w0.heap.size ≤ g) (hx : Ext w0 w) (hl : l.length ≤ 100000) :
    Calls Try.prog 29 #[.pointer (some ⟨g, 0, none⟩)] w (TakenR w0 w g l 4 (down32 (num (l.take 4)))) := by
  have T := Lib.hid (cut_any w0 w g 4 4 l rfl hb hg hl (by omega))
  by_cases h : 4 ≤ l.length
  · go_enter Try.func29, Try.ntmps29
    go_wp2_with fail
    refine T.out.mono ?_; rintro e w1 ⟨A, c, rfl, hc, hs, hb1, k1⟩
    have e : min 4 l.length = 4 := by omega
    rw [e] at hc ⊢
    have x1 := k1.old w0 (Nat.le_refl _) hx
    have TT := Lib.hid (takefix_yes A (l.take 4) c 4 w1 (hs.ext x1) (by simp; omega) hc (by simp; omega) (Nat.le_refl _))
    rw [List.take_take, Nat.min_self] at TT
    generalize down32 (num (l.take 4)) = x at *
    have H := Lib.hid (And.intro h (And.intro hb1 k1))
    clear hb1 k1 h hb hs hl T e
    go_wp2_with fail
    refine TT.out.mono ?_; rintro e w2 ⟨A2, c2, rfl, _, x2⟩
    go_wp2_with fail
    go_ret2
    exact ⟨.inl ⟨H.out.1, rfl⟩, H.out.2.1.ext x2, H.out.2.2.trans (Chg.of_ext x2)⟩
  · go_enter Try.func29, Try.ntmps29
    go_wp2_with fail
    refine T.out.mono ?_; rintro e w1 ⟨A, c, rfl, hc, hs, hb1, k1⟩
    have TT := Lib.hid (takefix_no A (min 4 l.length) c w1 (by omega))
    have H := Lib.hid (And.intro h (And.intro hb1 k1))
    clear hb1 k1 h hb hs hl T
    go_wp2_with fail
    refine TT.out.mono ?_; rintro e w2 ⟨rfl, x2⟩
    go_wp2_with fail
    go_ret2
    exact ⟨.inr ⟨by have := H.out.1; omega, rfl⟩, H.out.2.1.ext x2, H.out.2.2.trans (Chg.of_ext x2)⟩

/-- How many bytes a method takes, and what they are. -/
def szF (k : Nat) : Nat := if k = 28 then 1 else if k = 26 then 2 else 4
def rdF (k : Nat) (l : List UInt8) : Int := if k = 29 then down32 (num (l.take 4)) else num (l.take (szF k))
def kindB (k : Nat) : Prop := k = 28 ∨ k = 26 ∨ k = 27 ∨ k = 29
theorem meth_any (k : Nat) (hk : kindB k) (w0 w : World) (g : Nat) (l : List UInt8) (hb : BoxT w0 w g l) (hg : w0.heap.size ≤ g) (hx : Ext w0 w) (hl : l.length ≤ 100000) :
    Calls Try.prog k #[.pointer (some ⟨g, 0, none⟩)] w (TakenR w0 w g l (szF k) (rdF k l)) := by
  rcases hk with rfl | rfl | rfl | rfl
  · exact one_any w0 w g l hb hg hx hl
  · exact twof_any w0 w g l hb hg hx hl
  · exact fourf_any w0 w g l hb hg hx hl
  · exact fixf_any w0 w g l hb hg hx hl
theorem szF_in {k : Nat} (hk : kindB k) : 1 ≤ szF k ∧ szF k ≤ 4 := by
  rcases hk with rfl | rfl | rfl | rfl <;> simp [szF]
theorem rdF_in (k : Nat) (l : List UInt8) : -4294967296 ≤ rdF k l ∧ rdF k l ≤ 4294967295 := by
  have h := num_lt (l.take 4)
  have h2 : (l.take 4).length ≤ 4 := by rw [List.length_take]; omega
  have h3 : 256 ^ (l.take 4).length ≤ 256 ^ 4 := Nat.pow_le_pow_right (by decide) h2
  have g := num_lt (l.take (szF k))
  have g2 : (l.take (szF k)).length ≤ 4 := by rw [List.length_take]; unfold szF; split <;> (try split) <;> omega
  have g3 : 256 ^ (l.take (szF k)).length ≤ 256 ^ 4 := Nat.pow_le_pow_right (by decide) g2
  unfold rdF down32
  split <;> (try split) <;> omega
end L07
end Go.Proofs.Ytggedodfkjdegaa

