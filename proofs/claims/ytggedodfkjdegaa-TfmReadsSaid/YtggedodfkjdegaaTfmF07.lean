/- The landed Has of layer 7. -/
import Derived.Test.YtggedodfkjdegaaTfmC07
import Derived.Test.YtggedodfkjdegaaRefHas07
namespace Go.Proofs.Ytggedodfkjdegaa
open Go.RowKit
namespace L07

set_option maxRecDepth 100000 in
set_option maxHeartbeats 4000000 in
theorem thas_any (D : FontD) (P : FontP) (n : Int) (w : World) (ok : FontOk D P) (sn : SeenFont w D P) (hn : -9223372036854775808 ≤ n ∧ n ≤ 9223372036854775807) :
    Calls Try.prog 10 #[fontV D P, .int .i64 n] w (Ret w (.bool (hasB D n))) := by
  have W0 : Ext w (w.alloc (.cells #[.int .i64 D.sum, .int .i64 D.design, .int .i64 D.first, .slice P.xc D.nc P.zc, .slice P.xw D.nw P.zw, .slice P.xh D.nh P.zh, .slice P.xd D.nd P.zd, .slice P.xi D.ni P.zi, .slice P.xs D.ns P.zs, .slice P.xk D.nk P.zk, .slice P.xp D.np P.zp] 28)) := (Ext.refl _).alloc _
  have T := Lib.hid (tcheck_any D P _ ok (sn.ext W0))
  obtain ⟨n0, n1⟩ := hn
  cases h : checkB D with
  | false =>
    have e : hasB D n = false := by simp [hasB, h]
    rw [e]
    rw [h] at T
    clear ok sn e
    unfold fontV at *
    go_enter Try.func10, Try.ntmps10
    go_wp2_with fail
    refine T.out.mono ?_; rintro e w1 ⟨rfl, x1⟩
    go_wp2_with fail
    go_ret
    exact ⟨rfl, W0.trans x1⟩
  | true =>
    have I := check_in h
    obtain ⟨f0, f1⟩ := I.first
    obtain ⟨c0, c1⟩ := I.nc
    rw [h] at T
    have q2 : (w.alloc (.cells #[.int .i64 D.sum, .int .i64 D.design, .int .i64 D.first, .slice P.xc D.nc P.zc, .slice P.xw D.nw P.zw, .slice P.xh D.nh P.zh, .slice P.xd D.nd P.zd, .slice P.xi D.ni P.zi, .slice P.xs D.ns P.zs, .slice P.xk D.nk P.zk, .slice P.xp D.np P.zp] 28)).cell? ⟨w.heap.size, 2, none⟩ = some (.int .i64 D.first) := by simp
    have q3 : (w.alloc (.cells #[.int .i64 D.sum, .int .i64 D.design, .int .i64 D.first, .slice P.xc D.nc P.zc, .slice P.xw D.nw P.zw, .slice P.xh D.nh P.zh, .slice P.xd D.nd P.zd, .slice P.xi D.ni P.zi, .slice P.xs D.ns P.zs, .slice P.xk D.nk P.zk, .slice P.xp D.np P.zp] 28)).cell? ⟨w.heap.size, 3, none⟩ = some (.slice P.xc D.nc P.zc) := by simp
    have hw : wiB n D.first (D.first + D.nc - 1) = decide (D.first ≤ n ∧ n < D.first + D.nc) := by rw [Bool.eq_iff_iff]; simp [wiB]; omega
    by_cases h1 : D.first ≤ n ∧ n < D.first + D.nc
    · obtain ⟨h1, h2⟩ := h1
      have hk : (n - D.first).toNat < D.nc := by omega
      have hp := (I.chr _ hk).1.1
      have e : hasB D n = (D.chr (n - D.first).toNat 0 != 0) := by
        simp only [hasB, h, h1, h2, and_self, decide_true, Bool.true_and]
        rw [Bool.eq_iff_iff]; simp; omega
      rw [e]
      have hw : wiB n D.first (D.first + D.nc - 1) = true := by rw [hw]; simp [h1, h2]
      clear e h I ok
      unfold fontV at *
      go_enter Try.func10, Try.ntmps10
      go_wp2_with fail
      refine T.out.mono ?_; rintro e w1 ⟨rfl, x1⟩
      have q2 := x1.at q2
      have q3 := x1.at q3
      obtain ⟨ad, hA, g, _, _, _, _, _⟩ := row6 ((sn.ext (W0.trans x1)).oc) hk
      rw [hA] at q3
      generalize D.chr (n - D.first).toNat 0 = v at *
      clear hA sn
      go_wp2_with fail
      refine (within_any _ _ _ _).mono ?_; rintro e w' ⟨rfl, rfl⟩
      rw [hw]
      go_wp2_with fail
      go_ret
      exact ⟨rfl, W0.trans x1⟩
    · have e : hasB D n = false := by simp [hasB]; omega
      rw [e]
      have hw : wiB n D.first (D.first + D.nc - 1) = false := by rw [hw]; simpa using h1
      clear e h I ok sn h1
      unfold fontV at *
      go_enter Try.func10, Try.ntmps10
      go_wp2_with fail
      refine T.out.mono ?_; rintro e w1 ⟨rfl, x1⟩
      have q2 := x1.at q2
      have q3 := x1.at q3
      go_wp2_with fail
      refine (within_any _ _ _ _).mono ?_; rintro e w' ⟨rfl, rfl⟩
      rw [hw]
      go_wp2_with fail
      go_ret
      exact ⟨rfl, W0.trans x1⟩
end L07
end Go.Proofs.Ytggedodfkjdegaa

