/- A break as an argument; the document's Before of layer 16. -/
import Derived.Test.YtmmgmcfhlhghoaaBrk16
import Derived.Test.YtmmgmcfhlhghoaaTexts10
namespace Go.Proofs.Ytmmgmcfhlhghoaa
open Go.ChangeShapes Go.WideShapes Go.ChangeAt Go.RowKit Go.Deep
namespace L16

theorem three_cells {cs : Array Value} {a b c : Value} (h : cs.size = 3) (h0 : cs[0]? = some a) (h1 : cs[1]? = some b) (h2 : cs[2]? = some c) : cs = #[a, b, c] := by
  obtain ⟨l⟩ := cs
  match l, h with
  | [x, y, z], _ =>
    simp at h0 h1 h2
    rw [h0, h1, h2]
set_option maxRecDepth 100000 in
/-- A break by value. -/
theorem arg_brk {H : Type} {enc : TypeId × Value → H} {W : World} {base : Nat} {v : Value} {d : DataW H} {p : List MemPlace}
    (hv : Value.okWide Try.prog W .any base 24 v) (h : DataW.Trod enc Try.prog W 0 (fun _ => true) true 24 v d p) :
    ∃ b : Brk, v = brkV b ∧ (-9223372036854775808 ≤ b.1 ∧ b.1 ≤ 9223372036854775807) ∧ (-9223372036854775808 ≤ b.2.1 ∧ b.2.1 ≤ 9223372036854775807) ∧ -9223372036854775808 ≤ b.2.2 ∧ b.2.2 ≤ 9223372036854775807 := by
  obtain ⟨cs, rfl, hsz, hf⟩ := arg_fields Try.underlying24 (by kernel_rfl) (by kernel_rfl) hv h
  obtain ⟨u0, n0, y0, c0, t0⟩ := hf 0 _ rfl
  obtain ⟨u1, n1, y1, c1, t1⟩ := hf 1 _ rfl
  obtain ⟨u2, n2, y2, c2, t2⟩ := hf 2 _ rfl
  obtain rfl := three_cells hsz c0 c1 c2
  obtain ⟨a, e0, _, w0⟩ := DataW.trod_int Try.underlying3 t0
  obtain ⟨b, e1, _, w1⟩ := DataW.trod_int Try.underlying3 t1
  obtain ⟨c, e2, _, w2⟩ := DataW.trod_int Try.underlying3 t2
  simp only [List.cons.injEq, and_true] at e0 e1 e2
  exact ⟨(a, b, c), by rw [e0, e1, e2]; rfl, bounds_i64 w0, bounds_i64 w1, bounds_i64 w2⟩

set_option maxRecDepth 100000 in
set_option maxHeartbeats 2000000 in
theorem rbefore_any (a b : Brk) (w : World) : Calls Try.prog 22 #[brkV a, brkV b] w (Ret w (.bool (befB a b))) := by
  obtain ⟨a1, a2, a3⟩ := a
  obtain ⟨b1, b2, b3⟩ := b
  have EV := Lib.hid (show befB (a1, a2, a3) (b1, b2, b3) = if a1 = 0 ∨ b1 = 0 then decide (a1 = 0) && decide (b1 ≠ 0) else decide (a2 < b2) || (decide (a2 = b2) && decide (a3 < b3)) from rfl)
  generalize befB (a1, a2, a3) (b1, b2, b3) = r at *
  unfold brkV
  dsimp only
  by_cases h1 : a1 = 0
  · subst h1
    by_cases h2 : b1 = 0
    · subst h2
      have EW := Lib.hid (show r = false by rw [EV.out]; simp)
      clear EV
      go_enter Try.func22, Try.ntmps22
      go_wp2_with fail
      go_ret
      exact ⟨by rw [EW.out]; rfl, ((Ext.refl w).alloc _).alloc _⟩
    · skip
      have k2 : (b1 == 0) = false := by simpa using h2
      have k3 : (b1 != 0) = true := by simpa using h2
      have EW := Lib.hid (show r = true by rw [EV.out]; simp [h2])
      clear EV
      go_enter Try.func22, Try.ntmps22
      go_wp2_with fail
      go_ret
      exact ⟨by rw [EW.out]; rfl, ((Ext.refl w).alloc _).alloc _⟩
  · by_cases h2 : b1 = 0
    · subst h2
      have k1 : (a1 == 0) = false := by simpa using h1
      have EW := Lib.hid (show r = false by rw [EV.out]; simp [h1])
      clear EV
      go_enter Try.func22, Try.ntmps22
      go_wp2_with fail
      go_ret
      exact ⟨by rw [EW.out]; rfl, ((Ext.refl w).alloc _).alloc _⟩
    · by_cases h3 : a2 < b2
      · skip
        have k1 : (a1 == 0) = false := by simpa using h1
        have k2 : (b1 == 0) = false := by simpa using h2
        have k3 : (b1 != 0) = true := by simpa using h2
        have EW := Lib.hid (show r = true by rw [EV.out]; simp [h1, h2, h3])
        clear EV
        go_enter Try.func22, Try.ntmps22
        go_wp2_with fail
        go_ret
        exact ⟨by rw [EW.out]; rfl, ((Ext.refl w).alloc _).alloc _⟩
      · by_cases h4 : a2 = b2
        · subst h4
          by_cases h5 : a3 < b3
          · skip
            have k1 : (a1 == 0) = false := by simpa using h1
            have k2 : (b1 == 0) = false := by simpa using h2
            have k3 : (b1 != 0) = true := by simpa using h2
            have EW := Lib.hid (show r = true by rw [EV.out]; simp [h1, h2, h5])
            clear EV
            go_enter Try.func22, Try.ntmps22
            go_wp2_with fail
            go_ret
            exact ⟨by rw [EW.out]; rfl, ((Ext.refl w).alloc _).alloc _⟩
          · have h5' : b3 ≤ a3 := by omega
            have k1 : (a1 == 0) = false := by simpa using h1
            have k2 : (b1 == 0) = false := by simpa using h2
            have k3 : (b1 != 0) = true := by simpa using h2
            have EW := Lib.hid (show r = false by rw [EV.out]; simp [h1, h2, h5])
            clear EV
            go_enter Try.func22, Try.ntmps22
            go_wp2_with fail
            go_ret
            exact ⟨by rw [EW.out]; rfl, ((Ext.refl w).alloc _).alloc _⟩
        · have h3' : b2 ≤ a2 := by omega
          have k1 : (a1 == 0) = false := by simpa using h1
          have k2 : (b1 == 0) = false := by simpa using h2
          have k3 : (b1 != 0) = true := by simpa using h2
          have k4 : (a2 == b2) = false := by simpa using h4
          have EW := Lib.hid (show r = false by rw [EV.out]; simp [h1, h2, h3, h4])
          clear EV
          go_enter Try.func22, Try.ntmps22
          go_wp2_with fail
          go_ret
          exact ⟨by rw [EW.out]; rfl, ((Ext.refl w).alloc _).alloc _⟩
end L16
end Go.Proofs.Ytmmgmcfhlhghoaa

