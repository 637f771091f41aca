/- The landed Before, and whether one of a list is ahead of another one. Written by gen16/srtj.py. -/
import Derived.Test.YtmmgmcfhlhghoaaGreatDoorBrk16
import Derived.Deep.QuietTactic
import Derived.Lib.QuietBelow
namespace Go.Proofs.YtmmgmcfhlhghoaaGreatDoor
open Go.RowKit
namespace L16
set_option maxRecDepth 100000 in
set_option maxHeartbeats 2000000 in
theorem before_any (a b : Brk) (w : World) : Calls Tryz.prog 20 #[brkV a, brkV b] w (Ret w (.bool (befB a b))) := by
  obtain ⟨a1, a2, a3⟩ := a
  obtain ⟨b1, b2, b3⟩ := b
  have EV := Lib.hid (show befB (a1, a2, a3) (b1, b2, b3) = if a1 = 0 ∨ b1 = 0 then decide (a1 = 0) && decide (b1 ≠ 0) else decide (a2 < b2) || (decide (a2 = b2) && decide (a3 < b3)) from rfl)
  generalize befB (a1, a2, a3) (b1, b2, b3) = r at *
  unfold brkV
  dsimp only
  by_cases h1 : a1 = 0
  · subst h1
    by_cases h2 : b1 = 0
    · subst h2
      have EW := Lib.hid (show r = false by rw [EV.out]; simp)
      clear EV
      go_enter Tryz.func20, Tryz.ntmps20
      go_wp2_with fail
      go_ret
      exact ⟨by rw [EW.out]; rfl, ((Ext.refl w).alloc _).alloc _⟩
    · skip
      have k2 : (b1 == 0) = false := by simpa using h2
      have k3 : (b1 != 0) = true := by simpa using h2
      have EW := Lib.hid (show r = true by rw [EV.out]; simp [h2])
      clear EV
      go_enter Tryz.func20, Tryz.ntmps20
      go_wp2_with fail
      go_ret
      exact ⟨by rw [EW.out]; rfl, ((Ext.refl w).alloc _).alloc _⟩
  · by_cases h2 : b1 = 0
    · subst h2
      have k1 : (a1 == 0) = false := by simpa using h1
      have EW := Lib.hid (show r = false by rw [EV.out]; simp [h1])
      clear EV
      go_enter Tryz.func20, Tryz.ntmps20
      go_wp2_with fail
      go_ret
      exact ⟨by rw [EW.out]; rfl, ((Ext.refl w).alloc _).alloc _⟩
    · by_cases h3 : a2 < b2
      · skip
        have k1 : (a1 == 0) = false := by simpa using h1
        have k2 : (b1 == 0) = false := by simpa using h2
        have k3 : (b1 != 0) = true := by simpa using h2
        have EW := Lib.hid (show r = true by rw [EV.out]; simp [h1, h2, h3])
        clear EV
        go_enter Tryz.func20, Tryz.ntmps20
        go_wp2_with fail
        go_ret
        exact ⟨by rw [EW.out]; rfl, ((Ext.refl w).alloc _).alloc _⟩
      · by_cases h4 : a2 = b2
        · subst h4
          by_cases h5 : a3 < b3
          · skip
            have k1 : (a1 == 0) = false := by simpa using h1
            have k2 : (b1 == 0) = false := by simpa using h2
            have k3 : (b1 != 0) = true := by simpa using h2
            have EW := Lib.hid (show r = true by rw [EV.out]; simp [h1, h2, h5])
            clear EV
            go_enter Tryz.func20, Tryz.ntmps20
            go_wp2_with fail
            go_ret
            exact ⟨by rw [EW.out]; rfl, ((Ext.refl w).alloc _).alloc _⟩
          · have h5' : b3 ≤ a3 := by omega
            have k1 : (a1 == 0) = false := by simpa using h1
            have k2 : (b1 == 0) = false := by simpa using h2
            have k3 : (b1 != 0) = true := by simpa using h2
            have EW := Lib.hid (show r = false by rw [EV.out]; simp [h1, h2, h5])
            clear EV
            go_enter Tryz.func20, Tryz.ntmps20
            go_wp2_with fail
            go_ret
            exact ⟨by rw [EW.out]; rfl, ((Ext.refl w).alloc _).alloc _⟩
        · have h3' : b2 ≤ a2 := by omega
          have k1 : (a1 == 0) = false := by simpa using h1
          have k2 : (b1 == 0) = false := by simpa using h2
          have k3 : (b1 != 0) = true := by simpa using h2
          have k4 : (a2 == b2) = false := by simpa using h4
          have EW := Lib.hid (show r = false by rw [EV.out]; simp [h1, h2, h3, h4])
          clear EV
          go_enter Tryz.func20, Tryz.ntmps20
          go_wp2_with fail
          go_ret
          exact ⟨by rw [EW.out]; rfl, ((Ext.refl w).alloc _).alloc _⟩

/-- A call within a region that draws its order. -/
theorem rgB {f : FuncId} {args : Array Value} {w : World} {d : Nat} {os : Array Obj} {v : Value} (h : Calls Tryz.prog f args (Sort.grow (redrawn w d) os) (Ret (Sort.grow (redrawn w d) os) v)) :
    Calls Tryz.prog f args (Sort.grow (redrawn w d) os) fun e w'' => e = .returned v ∧ ∃ p : Regrown, w'' = Sort.grow (redrawn w p.d) p.os := Calls.regrown_of h
set_option maxRecDepth 100000 in
set_option maxHeartbeats 2000000 in
/-- Of a list of breaks: is one ahead of another one? -/
theorem ahead_any (A : Option Addr) (l : List Brk) (n c i j : Nat) (w : World) (hs : SeenK w A l) (hn : n = l.length) (hi : i < l.length) (hj : j < l.length) :
    Calls Tryz.prog 43 #[.slice A n c, .int .i64 i, .int .i64 j] w (Ret w (.bool (befB l[i] l[j]))) := by
  subst hn
  obtain ⟨ad, rfl, c0, c1, c2⟩ := hs.get hi
  obtain ⟨be, e, d0, d1, d2⟩ := hs.get hj
  cases e
  have CB := Lib.hid (fun dd os => before_any l[i] l[j] (Sort.grow (redrawn w dd) os))
  generalize l[i] = x at *
  generalize l[j] = y at *
  obtain ⟨x1, x2, x3⟩ := x
  obtain ⟨y1, y2, y3⟩ := y
  unfold brkV at CB
  dsimp only at c0 c1 c2 d0 d1 d2 CB
  have g0 := cell_regrown c0
  have g1 := cell_regrown c1
  have g2 := cell_regrown c2
  have k0 := cell_regrown d0
  have k1 := cell_regrown d1
  have k2 := cell_regrown d2
  have hi64 : (i : Int) < (l.length : Int) := by omega
  have hj64 : (j : Int) < (l.length : Int) := by omega
  clear hs c0 c1 c2 d0 d1 d2
  go_enter Tryz.func43, Tryz.ntmps43
  go_wp2_with fail
  refine wp_region_quiet_below (by kernel_rfl) (by kernel_rfl) ?_
  repeat (go_big_quiet_step (first | (with_reducible exact rgB (CB.out _ _))))
  refine wpQuiet_nil ?_
  intro _ hw'
  obtain ⟨⟨dq, osq⟩, hw''⟩ := hw'
  subst hw''
  have yy : Ext w (Sort.grow (redrawn w dq) osq) := below_regrown _ _ _
  go_wp2_with fail
  go_ret
  exact ⟨rfl, yy⟩
end L16
end Go.Proofs.YtmmgmcfhlhghoaaGreatDoor

