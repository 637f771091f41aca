/- The document's Few and Has. -/
import Derived.Test.YtijhabhnhglhgaaFacts07
namespace Go.Proofs.Ytijhabhnhglhgaa
open Go.RowKit
namespace L07

/-- At most three hundred of each. -/
def fewB (D : FontD) : Bool := decide (D.nc ≤ 300 ∧ D.ns ≤ 300 ∧ D.nw ≤ 300 ∧ D.nh ≤ 300 ∧ D.nd ≤ 300 ∧ D.ni ≤ 300 ∧ D.nk ≤ 300 ∧ D.np ≤ 300)

set_option maxRecDepth 100000 in
set_option maxHeartbeats 4000000 in
theorem few_any (D : FontD) (P : FontP) (w : World) : Calls Try.prog 10 #[fontV D P] w (Ret w (.bool (fewB D))) := by
  unfold fontV
  go_enter Try.func10, Try.ntmps10
  go_wp2_with fail
  all_goals
    go_ret
    exact ⟨ret_bool (by rw [Bool.eq_iff_iff]; simp [fewB]; omega), (Ext.refl _).alloc _⟩

/-- It has that character. -/
def hasB (D : FontD) (n : Int) : Bool := checkB D && (decide (D.first ≤ n ∧ n < D.first + D.nc) && decide (0 < D.chr (n - D.first).toNat 0))

set_option maxRecDepth 100000 in
set_option maxHeartbeats 4000000 in
theorem rhas_any (D : FontD) (P : FontP) (n : Int) (w : World) (ok : FontOk D P) (sn : SeenFont w D P) (hn : -9223372036854775808 ≤ n ∧ n ≤ 9223372036854775807) :
    Calls Try.prog 39 #[fontV D P, .int .i64 n] w (Ret w (.bool (hasB D n))) := by
  have T := Lib.hid (fun w' (x : Ext w w') => check_any D P w' ok (sn.ext x))
  obtain ⟨n0, n1⟩ := hn
  cases h : checkB D with
  | false =>
    have e : hasB D n = false := by simp [hasB, h]
    rw [e]
    rw [h] at T
    clear ok sn e
    unfold fontV at *
    go_enter Try.func39, Try.ntmps39
    go_wp2_with fail
    refine (T.out _ ((Ext.refl _).alloc _)).mono ?_; rintro e w1 ⟨rfl, x1⟩
    go_wp2_with fail
    go_ret
    exact ⟨rfl, ((Ext.refl _).alloc _).trans x1⟩
  | true =>
    have I := check_in h
    obtain ⟨f0, f1⟩ := I.first
    obtain ⟨c0, c1⟩ := I.nc
    rw [h] at T
    have W0 : Ext w (w.alloc (.cells #[.int .i64 D.sum, .int .i64 D.design, .int .i64 D.first, .slice P.xc D.nc P.zc, .slice P.xw D.nw P.zw, .slice P.xh D.nh P.zh, .slice P.xd D.nd P.zd, .slice P.xi D.ni P.zi, .slice P.xs D.ns P.zs, .slice P.xk D.nk P.zk, .slice P.xp D.np P.zp] 28)) := (Ext.refl _).alloc _
    have q2 : (w.alloc (.cells #[.int .i64 D.sum, .int .i64 D.design, .int .i64 D.first, .slice P.xc D.nc P.zc, .slice P.xw D.nw P.zw, .slice P.xh D.nh P.zh, .slice P.xd D.nd P.zd, .slice P.xi D.ni P.zi, .slice P.xs D.ns P.zs, .slice P.xk D.nk P.zk, .slice P.xp D.np P.zp] 28)).cell? ⟨w.heap.size, 2, none⟩ = some (.int .i64 D.first) := by simp
    have q3 : (w.alloc (.cells #[.int .i64 D.sum, .int .i64 D.design, .int .i64 D.first, .slice P.xc D.nc P.zc, .slice P.xw D.nw P.zw, .slice P.xh D.nh P.zh, .slice P.xd D.nd P.zd, .slice P.xi D.ni P.zi, .slice P.xs D.ns P.zs, .slice P.xk D.nk P.zk, .slice P.xp D.np P.zp] 28)).cell? ⟨w.heap.size, 3, none⟩ = some (.slice P.xc D.nc P.zc) := by simp
    by_cases h1 : D.first ≤ n
    · by_cases h2 : n < D.first + D.nc
      · have hk : (n - D.first).toNat < D.nc := by omega
        have e : hasB D n = decide (0 < D.chr (n - D.first).toNat 0) := by simp [hasB, h, h1, h2]
        rw [e]
        clear e h I ok
        unfold fontV at *
        go_enter Try.func39, Try.ntmps39
        go_wp2_with fail
        refine (T.out _ W0).mono ?_; rintro e w1 ⟨rfl, x1⟩
        have q2 := x1.at q2
        have q3 := x1.at q3
        obtain ⟨ad, hA, g, _, _, _, _, _⟩ := row6 ((sn.ext (W0.trans x1)).oc) hk
        rw [hA] at q3
        have hi : (n - D.first).toNat = (n - D.first).toNat := rfl
        generalize D.chr (n - D.first).toNat 0 = v at *
        clear hA sn
        go_wp2_with fail
        go_ret
        exact ⟨rfl, W0.trans x1⟩
      · have e : hasB D n = false := by simp [hasB]; omega
        rw [e]
        clear e h I ok sn
        unfold fontV at *
        go_enter Try.func39, Try.ntmps39
        go_wp2_with fail
        refine (T.out _ W0).mono ?_; rintro e w1 ⟨rfl, x1⟩
        have q2 := x1.at q2
        have q3 := x1.at q3
        go_wp2_with fail
        go_ret
        exact ⟨rfl, W0.trans x1⟩
    · have e : hasB D n = false := by simp [hasB]; omega
      rw [e]
      clear e h I ok sn
      unfold fontV at *
      go_enter Try.func39, Try.ntmps39
      go_wp2_with fail
      refine (T.out _ W0).mono ?_; rintro e w1 ⟨rfl, x1⟩
      have q2 := x1.at q2
      have q3 := x1.at q3
      go_wp2_with fail
      go_ret
      exact ⟨rfl, W0.trans x1⟩
end L07
end Go.Proofs.Ytijhabhnhglhgaa

