/- The landed program on a step: a kern's place; whether the step may be; whether a ligature may. -/
import Derived.Test.YtijhabhnhglhgaaIter08
import Derived.Test.YtijhabhnhglhgaaTfmF07
import Derived.Lib.QuietBelow
import Derived.Deep.QuietTactic
import Derived.BigQuiet
namespace Go.Proofs.Ytijhabhnhglhgaa
open Go.RowKit Go.Lib
namespace L08
open L07

/-- A call within a region that draws its order. -/
theorem rg {f : FuncId} {args : Array Value} {w : World} {d : Nat} {os : Array Obj} {v : Value} (h : Calls Try.prog f args (Sort.grow (redrawn w d) os) (Ret (Sort.grow (redrawn w d) os) v)) :
    Calls Try.prog f args (Sort.grow (redrawn w d) os) fun e w'' => e = .returned v ∧ ∃ p : Regrown, w'' = Sort.grow (redrawn w p.d) p.os := Calls.regrown_of h

theorem kern_any (s0 s1 s2 s3 : Int) (w : World) (h2 : 0 ≤ s2 ∧ s2 < 256) (h3 : 0 ≤ s3 ∧ s3 < 256) : Calls Try.prog 30 #[.agg #[.int .i64 s0, .int .i64 s1, .int .i64 s2, .int .i64 s3]] w (Ret w (.int .i64 (256 * (s2 - 128) + s3))) := by
  obtain ⟨a, b⟩ := h2
  obtain ⟨c, d⟩ := h3
  go_enter Try.func30, Try.ntmps30
  go_wp2_with fail
  go_ret
  exact ⟨rfl, (Ext.refl _).alloc _⟩

/-- A step may be. -/
def opN (s2 s3 : Int) (nk : Nat) : Bool := decide (s2 = 0) || (decide (128 ≤ s2) && decide (256 * (s2 - 128) + s3 < nk))
theorem opB_N (D : FontD) (k : Nat) : opB D k = opN (D.stp k 2) (D.stp k 3) D.nk := rfl

set_option maxRecDepth 100000 in
set_option maxHeartbeats 4000000 in
theorem op_any (D : FontD) (P : FontP) (s0 s1 s2 s3 : Int) (w : World) (h2 : 0 ≤ s2 ∧ s2 < 256) (h3 : 0 ≤ s3 ∧ s3 < 256) (_ : D.nk ≤ 9223372036854775807) :
    Calls Try.prog 74 #[fontV D P, .agg #[.int .i64 s0, .int .i64 s1, .int .i64 s2, .int .i64 s3]] w (Ret w (.bool (opN s2 s3 D.nk))) := by
  obtain ⟨a, b⟩ := h2
  obtain ⟨c, d⟩ := h3
  by_cases e : s2 = 0
  · subst e
    rw [show opN 0 s3 D.nk = true from rfl]
    unfold fontV
    go_enter Try.func74, Try.ntmps74
    go_wp2_with fail
    go_quiet (fail)
    go_wp2_with fail
    go_ret
    exact ⟨rfl, (((Ext.refl _).alloc _).alloc _).drewN _⟩
  · have he : (s2 == 0) = false := by simpa using e
    by_cases g : 128 ≤ s2
    · have hg : decide (128 ≤ s2) = true := by simpa using g
      have hv : opN s2 s3 D.nk = decide (256 * (s2 - 128) + s3 < D.nk) := by simp [opN, e, g]
      rw [hv]
      clear hv
      have K := Lib.hid (fun w' => kern_any s0 s1 s2 s3 w' ⟨a, b⟩ ⟨c, d⟩)
      unfold fontV
      go_enter Try.func74, Try.ntmps74
      go_wp2_with fail
      have X := ((Ext.refl w).alloc (.cells #[.int .i64 D.sum, .int .i64 D.design, .int .i64 D.first, .slice P.xc D.nc P.zc, .slice P.xw D.nw P.zw, .slice P.xh D.nh P.zh, .slice P.xd D.nd P.zd, .slice P.xi D.ni P.zi, .slice P.xs D.ns P.zs, .slice P.xk D.nk P.zk, .slice P.xp D.np P.zp] 28)).alloc (.cells #[.int .i64 s0, .int .i64 s1, .int .i64 s2, .int .i64 s3] 53)
      have q9 : ((w.alloc (.cells #[.int .i64 D.sum, .int .i64 D.design, .int .i64 D.first, .slice P.xc D.nc P.zc, .slice P.xw D.nw P.zw, .slice P.xh D.nh P.zh, .slice P.xd D.nd P.zd, .slice P.xi D.ni P.zi, .slice P.xs D.ns P.zs, .slice P.xk D.nk P.zk, .slice P.xp D.np P.zp] 28)).alloc (.cells #[.int .i64 s0, .int .i64 s1, .int .i64 s2, .int .i64 s3] 53)).cell? ⟨w.heap.size, 9, none⟩ = some (.slice P.xk D.nk P.zk) := by simp
      have p0 : ((w.alloc (.cells #[.int .i64 D.sum, .int .i64 D.design, .int .i64 D.first, .slice P.xc D.nc P.zc, .slice P.xw D.nw P.zw, .slice P.xh D.nh P.zh, .slice P.xd D.nd P.zd, .slice P.xi D.ni P.zi, .slice P.xs D.ns P.zs, .slice P.xk D.nk P.zk, .slice P.xp D.np P.zp] 28)).alloc (.cells #[.int .i64 s0, .int .i64 s1, .int .i64 s2, .int .i64 s3] 53)).cell? ⟨w.heap.size + 1, 0, none⟩ = some (.int .i64 s0) := by simp
      have p1 : ((w.alloc (.cells #[.int .i64 D.sum, .int .i64 D.design, .int .i64 D.first, .slice P.xc D.nc P.zc, .slice P.xw D.nw P.zw, .slice P.xh D.nh P.zh, .slice P.xd D.nd P.zd, .slice P.xi D.ni P.zi, .slice P.xs D.ns P.zs, .slice P.xk D.nk P.zk, .slice P.xp D.np P.zp] 28)).alloc (.cells #[.int .i64 s0, .int .i64 s1, .int .i64 s2, .int .i64 s3] 53)).cell? ⟨w.heap.size + 1, 1, none⟩ = some (.int .i64 s1) := by simp
      have p2 : ((w.alloc (.cells #[.int .i64 D.sum, .int .i64 D.design, .int .i64 D.first, .slice P.xc D.nc P.zc, .slice P.xw D.nw P.zw, .slice P.xh D.nh P.zh, .slice P.xd D.nd P.zd, .slice P.xi D.ni P.zi, .slice P.xs D.ns P.zs, .slice P.xk D.nk P.zk, .slice P.xp D.np P.zp] 28)).alloc (.cells #[.int .i64 s0, .int .i64 s1, .int .i64 s2, .int .i64 s3] 53)).cell? ⟨w.heap.size + 1, 2, none⟩ = some (.int .i64 s2) := by simp
      have p3 : ((w.alloc (.cells #[.int .i64 D.sum, .int .i64 D.design, .int .i64 D.first, .slice P.xc D.nc P.zc, .slice P.xw D.nw P.zw, .slice P.xh D.nh P.zh, .slice P.xd D.nd P.zd, .slice P.xi D.ni P.zi, .slice P.xs D.ns P.zs, .slice P.xk D.nk P.zk, .slice P.xp D.np P.zp] 28)).alloc (.cells #[.int .i64 s0, .int .i64 s1, .int .i64 s2, .int .i64 s3] 53)).cell? ⟨w.heap.size + 1, 3, none⟩ = some (.int .i64 s3) := by simp
      generalize hV : (w.alloc (.cells #[.int .i64 D.sum, .int .i64 D.design, .int .i64 D.first, .slice P.xc D.nc P.zc, .slice P.xw D.nw P.zw, .slice P.xh D.nh P.zh, .slice P.xd D.nd P.zd, .slice P.xi D.ni P.zi, .slice P.xs D.ns P.zs, .slice P.xk D.nk P.zk, .slice P.xp D.np P.zp] 28)).alloc (.cells #[.int .i64 s0, .int .i64 s1, .int .i64 s2, .int .i64 s3] 53) = V at *
      clear hV
      have g9 := cell_regrown q9
      have g0 := cell_regrown p0
      have g1 := cell_regrown p1
      have g2 := cell_regrown p2
      have g3 := cell_regrown p3
      refine wp_region_quiet_below (by kernel_rfl) (by kernel_rfl) ?_
      repeat (go_big_quiet_step (with_reducible exact rg (K.out _)))
      refine wpQuiet_nil ?_
      intro _ hw'
      obtain ⟨⟨dq, osq⟩, hw''⟩ := hw'
      subst hw''
      have z : Ext V (Sort.grow (redrawn V dq) osq) := below_regrown _ _ _
      clear g9 g0 g1 g2 g3 q9 p0 p1 p2 p3
      generalize Sort.grow (redrawn V dq) osq = V2 at *
      go_wp2_with fail
      go_ret
      exact ⟨rfl, X.trans z⟩
    · have hg : decide (128 ≤ s2) = false := by simpa using g
      rw [show opN s2 s3 D.nk = false by simp [opN, e, g]]
      unfold fontV
      go_enter Try.func74, Try.ntmps74
      go_wp2_with fail
      go_quiet (fail)
      go_wp2_with fail
      go_ret
      exact ⟨rfl, (((Ext.refl _).alloc _).alloc _).drewN _⟩

/-- A ligature may be. -/
def mayN (D : FontD) (c s1 s3 : Int) : Bool := decide (128 ≤ s3) && (decide (c < s3) && (decide (s1 < 128) && hasB D s3))
theorem mayB_N (D : FontD) (c : Int) (k : Nat) : mayB D c k = mayN D c (D.stp k 1) (D.stp k 3) := rfl

set_option maxRecDepth 100000 in
set_option maxHeartbeats 4000000 in
theorem may_any (D : FontD) (P : FontP) (c s0 s1 s2 s3 : Int) (w : World) (ok : FontOk D P) (sn : SeenFont w D P) (h3 : 0 ≤ s3 ∧ s3 < 256) :
    Calls Try.prog 75 #[fontV D P, .int .i64 c, .agg #[.int .i64 s0, .int .i64 s1, .int .i64 s2, .int .i64 s3]] w (Ret w (.bool (mayN D c s1 s3))) := by
  have W0 : Ext w ((w.alloc (.cells #[.int .i64 D.sum, .int .i64 D.design, .int .i64 D.first, .slice P.xc D.nc P.zc, .slice P.xw D.nw P.zw, .slice P.xh D.nh P.zh, .slice P.xd D.nd P.zd, .slice P.xi D.ni P.zi, .slice P.xs D.ns P.zs, .slice P.xk D.nk P.zk, .slice P.xp D.np P.zp] 28)).alloc (.cells #[.int .i64 s0, .int .i64 s1, .int .i64 s2, .int .i64 s3] 53)) := ((Ext.refl _).alloc _).alloc _
  have T := Lib.hid (thas_any D P s3 _ ok (sn.ext W0) ⟨by omega, by omega⟩)
  clear ok sn
  by_cases a : 128 ≤ s3
  · by_cases b : c < s3
    · by_cases d : s1 < 128
      · have ha : decide (128 ≤ s3) = true := by simpa using a
        have hb : decide (c < s3) = true := by simpa using b
        have hd : decide (s1 < 128) = true := by simpa using d
        have hv : mayN D c s1 s3 = hasB D s3 := by simp [mayN, a, b, d]
        rw [hv]
        clear hv
        generalize hasB D s3 = hs at *
        unfold fontV at *
        go_enter Try.func75, Try.ntmps75
        go_wp2_with fail
        refine T.out.mono ?_; rintro e w1 ⟨rfl, x1⟩
        go_wp2_with fail
        go_ret
        exact ⟨rfl, W0.trans x1⟩
      · have hd : decide (s1 < 128) = false := by simpa using d
        rw [show mayN D c s1 s3 = false by simp [mayN, d]]
        clear T
        unfold fontV at *
        go_enter Try.func75, Try.ntmps75
        go_wp2_with fail
        go_ret
        exact ⟨rfl, W0⟩
    · have hb : decide (c < s3) = false := by simpa using b
      rw [show mayN D c s1 s3 = false by simp [mayN, b]]
      clear T
      unfold fontV at *
      go_enter Try.func75, Try.ntmps75
      go_wp2_with fail
      go_ret
      exact ⟨rfl, W0⟩
  · have ha : decide (128 ≤ s3) = false := by simpa using a
    rw [show mayN D c s1 s3 = false by simp [mayN, a]]
    clear T
    unfold fontV at *
    go_enter Try.func75, Try.ntmps75
    go_wp2_with fail
    go_ret
    exact ⟨rfl, W0⟩
end L08
end Go.Proofs.Ytijhabhnhglhgaa

