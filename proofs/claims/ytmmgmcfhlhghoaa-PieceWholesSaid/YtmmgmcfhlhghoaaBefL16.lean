/- The landed Before, and whether one of a list is ahead of another one. Written by gen16/srtj.py. -/
import Derived.Test.YtmmgmcfhlhghoaaBrk16
import Derived.Deep.QuietTactic
import Derived.Lib.QuietBelow
namespace Go.Proofs.Ytmmgmcfhlhghoaa
open Go.RowKit
namespace L16
set_option maxRecDepth 100000 in
set_option maxHeartbeats 2000000 in
theorem before_any (a b : Brk) (w : World) : Calls Try.prog 17 #[brkV a, brkV b] w (Ret w (.bool (befB a b))) := by
  obtain ⟨a1, a2, a3⟩ := a
  obtain ⟨b1, b2, b3⟩ := b
  have EV := Lib.hid (show befB (a1, a2, a3) (b1, b2, b3) = if a1 = 0 ∨ b1 = 0 then decide (a1 = 0) && decide (b1 ≠ 0) else decide (a2 < b2) || (decide (a2 = b2) && decide (a3 < b3)) from rfl)
  generalize befB (a1, a2, a3) (b1, b2, b3) = r at *
  unfold brkV
  dsimp only
  by_cases h1 : a1 = 0
  · subst h1
    by_cases h2 : b1 = 0
    · subst h2
      have EW := Lib.hid (show r = false by rw [EV.out]; simp)
      clear EV
      go_enter Try.func17, Try.ntmps17
      go_wp2_with fail
      go_ret
      exact ⟨by rw [EW.out]; rfl, ((Ext.refl w).alloc _).alloc _⟩
    · skip
      have k2 : (b1 == 0) = false := by simpa using h2
      have k3 : (b1 != 0) = true := by simpa using h2
      have EW := Lib.hid (show r = true by rw [EV.out]; simp [h2])
      clear EV
      go_enter Try.func17, Try.ntmps17
      go_wp2_with fail
      go_ret
      exact ⟨by rw [EW.out]; rfl, ((Ext.refl w).alloc _).alloc _⟩
  · by_cases h2 : b1 = 0
    · subst h2
      have k1 : (a1 == 0) = false := by simpa using h1
      have EW := Lib.hid (show r = false by rw [EV.out]; simp [h1])
      clear EV
      go_enter Try.func17, Try.ntmps17
      go_wp2_with fail
      go_ret
      exact ⟨by rw [EW.out]; rfl, ((Ext.refl w).alloc _).alloc _⟩
    · by_cases h3 : a2 < b2
      · skip
        have k1 : (a1 == 0) = false := by simpa using h1
        have k2 : (b1 == 0) = false := by simpa using h2
        have k3 : (b1 != 0) = true := by simpa using h2
        have EW := Lib.hid (show r = true by rw [EV.out]; simp [h1, h2, h3])
        clear EV
        go_enter Try.func17, Try.ntmps17
        go_wp2_with fail
        go_ret
        exact ⟨by rw [EW.out]; rfl, ((Ext.refl w).alloc _).alloc _⟩
      · by_cases h4 : a2 = b2
        · subst h4
          by_cases h5 : a3 < b3
          · skip
            have k1 : (a1 == 0) = false := by simpa using h1
            have k2 : (b1 == 0) = false := by simpa using h2
            have k3 : (b1 != 0) = true := by simpa using h2
            have EW := Lib.hid (show r = true by rw [EV.out]; simp [h1, h2, h5])
            clear EV
            go_enter Try.func17, Try.ntmps17
            go_wp2_with fail
            go_ret
            exact ⟨by rw [EW.out]; rfl, ((Ext.refl w).alloc _).alloc _⟩
          · have h5' : b3 ≤ a3 := by omega
            have k1 : (a1 == 0) = false := by simpa using h1
            have k2 : (b1 == 0) = false := by simpa using h2
            have k3 : (b1 != 0) = true := by simpa using h2
            have EW := Lib.hid (show r = false by rw [EV.out]; simp [h1, h2, h5])
            clear EV
            go_enter Try.func17, Try.ntmps17
            go_wp2_with fail
            go_ret
            exact ⟨by rw [EW.out]; rfl, ((Ext.refl w).alloc _).alloc _⟩
        · have h3' : b2 ≤ a2 := by omega
          have k1 : (a1 == 0) = false := by simpa using h1
          have k2 : (b1 == 0) = false := by simpa using h2
          have k3 : (b1 != 0) = true := by simpa using h2
          have k4 : (a2 == b2) = false := by simpa using h4
          have EW := Lib.hid (show r = false by rw [EV.out]; simp [h1, h2, h3, h4])
          clear EV
          go_enter Try.func17, Try.ntmps17
          go_wp2_with fail
          go_ret
          exact ⟨by rw [EW.out]; rfl, ((Ext.refl w).alloc _).alloc _⟩

end L16
end Go.Proofs.Ytmmgmcfhlhghoaa

