/- The landed Read of layer 7: numbers taken one by one. -/
import Derived.Test.YtggedodfkjdegaaChg
import Derived.Test.YtggedodfkjdegaaPackLib
namespace Go.Proofs.Ytggedodfkjdegaa
open Go.RowKit
namespace L07
open L06

/-- The taker's bytes. -/
def BoxT (w0 w : World) (g : Nat) (l : List UInt8) : Prop := ∃ A c, w.cell? ⟨g, 0, none⟩ = some (.slice A l.length c) ∧ w.frozen? ⟨g, 0, none⟩ = false ∧ l.length ≤ c ∧ SeenB w0 A l
/-- The taker's box alone. -/
def OnT (g : Nat) (p : Addr) : Prop := p = ⟨g, 0, none⟩

theorem cut_any (w0 w : World) (g z : Nat) (zi : Int) (l : List UInt8) (hzi : zi = z) (hb : BoxT w0 w g l) (hg : w0.heap.size ≤ g) (_hl : l.length ≤ 100000) (hz : z ≤ 100) :
    Calls Try.prog 42 #[.pointer (some ⟨g, 0, none⟩), .int .i64 zi] w
      (fun e w' => ∃ A c, e = .returned (.slice A (min z l.length) c) ∧ min z l.length ≤ c ∧ SeenB w0 A (l.take z) ∧ BoxT w0 w' g (l.drop z) ∧ Chg (OnT g) w0.heap.size w w') := by
  subst hzi
  obtain ⟨A, c, q, f, hc, hs⟩ := hb
  have fin : ∀ v, Chg (OnT g) w0.heap.size w (w.setCell ⟨g, 0, none⟩ v) := fun v => Chg.set w g 0 v rfl hg
  have fin2 : ∀ k, k ≤ l.length → BoxT w0 (w.setCell ⟨g, 0, none⟩ (.slice (cutA A k c) (l.length - k) (c - k))) g (l.drop k) := fun k hk =>
    ⟨cutA A k c, c - k, by rw [World.cell?_setCell_same _ _ _ q]; simp, by rw [World.frozen?_setCell]; exact f, by simp; omega, hs.cut hk hc⟩
  by_cases h : z ≤ l.length
  · have fin2 := fin2 z h
    have e : min z l.length = z := by omega
    rw [e]
    have s1 := hs.take z
    have S1 := Lib.hid s1
    have F1 := Lib.hid fin
    have F2 := Lib.hid fin2
    clear hs fin fin2 s1 e _hl
    generalize l.length = n at *
    by_cases hcz : c = z
    · subst hcz
      obtain rfl : n = c := by omega
      go_enter Try.func42, Try.ntmps42
      go_wp2_with fail
      go_ret
      refine ⟨A, _, rfl, by omega, S1.out, ?_, F1.out _⟩
      have := F2.out
      unfold cutA at this
      simpa using this
    · go_enter Try.func42, Try.ntmps42
      go_wp2_with fail
      go_ret
      refine ⟨A, _, rfl, by omega, S1.out, ?_, F1.out _⟩
      have := F2.out
      unfold cutA at this
      rw [if_neg hcz] at this
      exact this
  · have fin2 := fin2 l.length (Nat.le_refl _)
    have e : min z l.length = l.length := by omega
    rw [e]
    have e1 : l.drop z = l.drop l.length := by rw [List.drop_length, List.drop_eq_nil_of_le (by omega)]
    have e2 : l.take z = l := List.take_of_length_le (by omega)
    rw [e1, e2]
    have h' : l.length < z := by omega
    have S1 := Lib.hid hs
    have F1 := Lib.hid fin
    have F2 := Lib.hid fin2
    clear hs fin fin2 e _hl e1 e2 h
    generalize hn : l.length = n at *
    clear hn
    by_cases hcz : c = n
    · subst hcz
      go_enter Try.func42, Try.ntmps42
      go_wp2_with fail
      go_ret
      refine ⟨A, _, rfl, by omega, S1.out, ?_, F1.out _⟩
      have := F2.out
      unfold cutA at this
      simpa using this
    · go_enter Try.func42, Try.ntmps42
      go_wp2_with fail
      go_ret
      refine ⟨A, _, rfl, by omega, S1.out, ?_, F1.out _⟩
      have := F2.out
      unfold cutA at this
      rw [if_neg hcz] at this
      simpa using this
end L07
end Go.Proofs.Ytggedodfkjdegaa

