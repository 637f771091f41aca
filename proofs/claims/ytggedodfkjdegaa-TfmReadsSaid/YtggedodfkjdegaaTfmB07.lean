/- The landed Check of layer 7: characters and steps. -/
import Derived.Test.YtggedodfkjdegaaTfmA07
import Derived.Test.YtggedodfkjdegaaRefLoops07
namespace Go.Proofs.Ytggedodfkjdegaa
open Go.RowKit
namespace L07

set_option maxRecDepth 100000 in
set_option maxHeartbeats 40000000 in
theorem tchars_any (D : FontD) (P : FontP) (w : World) (ok : FontOk D P) (sn : SeenFont w D P) :
    Calls Try.prog 23 #[fontV D P] w (Ret w (.bool (allB (chrB D) D.nc))) := by
  have W0 : Ext w (w.alloc (.cells #[.int .i64 D.sum, .int .i64 D.design, .int .i64 D.first, .slice P.xc D.nc P.zc, .slice P.xw D.nw P.zw, .slice P.xh D.nh P.zh, .slice P.xd D.nd P.zd, .slice P.xi D.ni P.zi, .slice P.xs D.ns P.zs, .slice P.xk D.nk P.zk, .slice P.xp D.np P.zp] 28)) := (Ext.refl _).alloc _
  have sF := sn.ext W0
  have lB : w.heap.size < (w.alloc (.cells #[.int .i64 D.sum, .int .i64 D.design, .int .i64 D.first, .slice P.xc D.nc P.zc, .slice P.xw D.nw P.zw, .slice P.xh D.nh P.zh, .slice P.xd D.nd P.zd, .slice P.xi D.ni P.zi, .slice P.xs D.ns P.zs, .slice P.xk D.nk P.zk, .slice P.xp D.np P.zp] 28)).heap.size := by simp
  have q3 : (w.alloc (.cells #[.int .i64 D.sum, .int .i64 D.design, .int .i64 D.first, .slice P.xc D.nc P.zc, .slice P.xw D.nw P.zw, .slice P.xh D.nh P.zh, .slice P.xd D.nd P.zd, .slice P.xi D.ni P.zi, .slice P.xs D.ns P.zs, .slice P.xk D.nk P.zk, .slice P.xp D.np P.zp] 28)).cell? ⟨w.heap.size, 3, none⟩ = some (.slice P.xc D.nc P.zc) := by simp
  have q4 : (w.alloc (.cells #[.int .i64 D.sum, .int .i64 D.design, .int .i64 D.first, .slice P.xc D.nc P.zc, .slice P.xw D.nw P.zw, .slice P.xh D.nh P.zh, .slice P.xd D.nd P.zd, .slice P.xi D.ni P.zi, .slice P.xs D.ns P.zs, .slice P.xk D.nk P.zk, .slice P.xp D.np P.zp] 28)).cell? ⟨w.heap.size, 4, none⟩ = some (.slice P.xw D.nw P.zw) := by simp
  have q5 : (w.alloc (.cells #[.int .i64 D.sum, .int .i64 D.design, .int .i64 D.first, .slice P.xc D.nc P.zc, .slice P.xw D.nw P.zw, .slice P.xh D.nh P.zh, .slice P.xd D.nd P.zd, .slice P.xi D.ni P.zi, .slice P.xs D.ns P.zs, .slice P.xk D.nk P.zk, .slice P.xp D.np P.zp] 28)).cell? ⟨w.heap.size, 5, none⟩ = some (.slice P.xh D.nh P.zh) := by simp
  have q6 : (w.alloc (.cells #[.int .i64 D.sum, .int .i64 D.design, .int .i64 D.first, .slice P.xc D.nc P.zc, .slice P.xw D.nw P.zw, .slice P.xh D.nh P.zh, .slice P.xd D.nd P.zd, .slice P.xi D.ni P.zi, .slice P.xs D.ns P.zs, .slice P.xk D.nk P.zk, .slice P.xp D.np P.zp] 28)).cell? ⟨w.heap.size, 6, none⟩ = some (.slice P.xd D.nd P.zd) := by simp
  have q7 : (w.alloc (.cells #[.int .i64 D.sum, .int .i64 D.design, .int .i64 D.first, .slice P.xc D.nc P.zc, .slice P.xw D.nw P.zw, .slice P.xh D.nh P.zh, .slice P.xd D.nd P.zd, .slice P.xi D.ni P.zi, .slice P.xs D.ns P.zs, .slice P.xk D.nk P.zk, .slice P.xp D.np P.zp] 28)).cell? ⟨w.heap.size, 7, none⟩ = some (.slice P.xi D.ni P.zi) := by simp
  have q8 : (w.alloc (.cells #[.int .i64 D.sum, .int .i64 D.design, .int .i64 D.first, .slice P.xc D.nc P.zc, .slice P.xw D.nw P.zw, .slice P.xh D.nh P.zh, .slice P.xd D.nd P.zd, .slice P.xi D.ni P.zi, .slice P.xs D.ns P.zs, .slice P.xk D.nk P.zk, .slice P.xp D.np P.zp] 28)).cell? ⟨w.heap.size, 8, none⟩ = some (.slice P.xs D.ns P.zs) := by simp
  have mw : D.nw ≤ 9223372036854775807 := by have := ok.rw; unfold maxLen at this; omega
  have mh : D.nh ≤ 9223372036854775807 := by have := ok.rh; unfold maxLen at this; omega
  have md : D.nd ≤ 9223372036854775807 := by have := ok.rd; unfold maxLen at this; omega
  have mi : D.ni ≤ 9223372036854775807 := by have := ok.ri; unfold maxLen at this; omega
  have mc : D.nc ≤ 9223372036854775807 := by have := ok.rc; unfold maxLen at this; omega
  have ms : D.ns ≤ 9223372036854775807 := by have := ok.rs; unfold maxLen at this; omega
  have bw := Lib.hid ok.bc
  clear ok sn
  have S := sF.oc
  clear sF
  unfold fontV
  generalize P.xc = A at *
  go_enter Try.func23, Try.ntmps23
  go_wp2_with fail
  generalize (w.alloc (.cells #[.int .i64 D.sum, .int .i64 D.design, .int .i64 D.first, .slice A D.nc P.zc, .slice P.xw D.nw P.zw, .slice P.xh D.nh P.zh, .slice P.xd D.nd P.zd, .slice P.xi D.ni P.zi, .slice P.xs D.ns P.zs, .slice P.xk D.nk P.zk, .slice P.xp D.np P.zp] 28)) = V at *
  generalize w.heap.size = B at *
  go_loopw [8] (fun i wr => ∃ k : Nat, k ≤ D.nc ∧ i = .int .i64 k ∧ Hid (allB (chrB D) k = true) ∧ Ext V wr) (fun i _ => D.nc - (intOf i).toNat)
  case atStart => exact ⟨0, by omega, rfl, rfl, Ext.refl _⟩
  case round =>
    obtain ⟨k, hk, rfl, hall, x⟩ := hrel
    by_cases hlt : k < D.nc
    · obtain ⟨ad, hA, e0, e1, e2, e3, e4, e5⟩ := row6 (S.ext x) hlt
      have q3 := x.at q3
      have q4 := x.at q4
      have q5 := x.at q5
      have q6 := x.at q6
      have q7 := x.at q7
      have q8 := x.at q8
      subst hA
      have hB := x.grows _ lB
      have w4 := bw.out k 4 hlt (by omega)
      have w5 := bw.out k 5 hlt (by omega)
      have HF := Lib.hid (fun h : chrB D k = false => show allB (chrB D) D.nc = false from allB_no hlt h)
      have HT := Lib.hid (fun h : chrB D k = true => show allB (chrB D) (k + 1) = true by rw [allB, hall.out, h]; rfl)
      have HC : Hid (chrB D k = (inB (D.chr k 0) D.nw && (inB (D.chr k 1) D.nh && (inB (D.chr k 2) D.nd && (inB (D.chr k 3) D.ni && (tagB (D.chr k 4) (D.chr k 5) D.ns)))))) := rfl
      clear S
      generalize D.chr k 0 = v0 at *
      generalize D.chr k 1 = v1 at *
      generalize D.chr k 2 = v2 at *
      generalize D.chr k 3 = v3 at *
      generalize D.chr k 4 = v4 at *
      generalize D.chr k 5 = v5 at *
      cases i0 : inB v0 D.nw with
      | false =>
        go_wp2_with ((go_at_call 38; refine (place_any _ _ _).mono ?_; rintro e w' ⟨rfl, rfl⟩))
        go_ret
        exact ⟨ret_bool (HF.out (by rw [HC.out]; simp [i0])).symm, W0.trans (x.alloc _)⟩
      | true =>
        cases i1 : inB v1 D.nh with
        | false =>
          go_wp2_with ((go_at_call 38; refine (place_any _ _ _).mono ?_; rintro e w' ⟨rfl, rfl⟩))
          go_ret
          exact ⟨ret_bool (HF.out (by rw [HC.out]; simp [i0, i1])).symm, W0.trans (x.alloc _)⟩
        | true =>
          cases i2 : inB v2 D.nd with
          | false =>
            go_wp2_with ((go_at_call 38; refine (place_any _ _ _).mono ?_; rintro e w' ⟨rfl, rfl⟩))
            go_ret
            exact ⟨ret_bool (HF.out (by rw [HC.out]; simp [i0, i1, i2])).symm, W0.trans (x.alloc _)⟩
          | true =>
            cases i3 : inB v3 D.ni with
            | false =>
              go_wp2_with ((go_at_call 38; refine (place_any _ _ _).mono ?_; rintro e w' ⟨rfl, rfl⟩))
              go_ret
              exact ⟨ret_bool (HF.out (by rw [HC.out]; simp [i0, i1, i2, i3])).symm, W0.trans (x.alloc _)⟩
            | true =>
              cases i4 : tagB v4 v5 D.ns with
              | false =>
                go_wp2_with (first | (go_at_call 38; refine (place_any _ _ _).mono ?_; rintro e w' ⟨rfl, rfl⟩) | (go_at_call 39; refine (tagged_any _ _ _ _ _ _ _ _ w4 w5).mono ?_; rintro e w1 ⟨rfl, x1⟩))
                go_ret
                exact ⟨ret_bool (HF.out (by rw [HC.out]; simp [i0, i1, i2, i3, i4])).symm, W0.trans ((x.alloc _).trans x1)⟩
              | true =>
                go_wp2_with (first | (go_at_call 38; refine (place_any _ _ _).mono ?_; rintro e w' ⟨rfl, rfl⟩) | (go_at_call 39; refine (tagged_any _ _ _ _ _ _ _ _ w4 w5).mono ?_; rintro e w1 ⟨rfl, x1⟩))
                go_roundw
                case rel => exact ⟨k + 1, by omega, by go_num, HT.out (by rw [HC.out]; simp [i0, i1, i2, i3, i4]), (x.alloc _).trans x1⟩
                case measure => simp [intOf]; omega
    · have ek : k = D.nc := by omega
      subst ek
      go_wp2_with fail
      go_ret
      exact ⟨ret_bool hall.out.symm, W0.trans x⟩
set_option maxRecDepth 100000 in
set_option maxHeartbeats 40000000 in
theorem tsteps_any (D : FontD) (P : FontP) (w : World) (ok : FontOk D P) (sn : SeenFont w D P) :
    Calls Try.prog 24 #[fontV D P] w (Ret w (.bool (allB (stpB D) D.ns))) := by
  have W0 : Ext w (w.alloc (.cells #[.int .i64 D.sum, .int .i64 D.design, .int .i64 D.first, .slice P.xc D.nc P.zc, .slice P.xw D.nw P.zw, .slice P.xh D.nh P.zh, .slice P.xd D.nd P.zd, .slice P.xi D.ni P.zi, .slice P.xs D.ns P.zs, .slice P.xk D.nk P.zk, .slice P.xp D.np P.zp] 28)) := (Ext.refl _).alloc _
  have sF := sn.ext W0
  have lB : w.heap.size < (w.alloc (.cells #[.int .i64 D.sum, .int .i64 D.design, .int .i64 D.first, .slice P.xc D.nc P.zc, .slice P.xw D.nw P.zw, .slice P.xh D.nh P.zh, .slice P.xd D.nd P.zd, .slice P.xi D.ni P.zi, .slice P.xs D.ns P.zs, .slice P.xk D.nk P.zk, .slice P.xp D.np P.zp] 28)).heap.size := by simp
  have q8 : (w.alloc (.cells #[.int .i64 D.sum, .int .i64 D.design, .int .i64 D.first, .slice P.xc D.nc P.zc, .slice P.xw D.nw P.zw, .slice P.xh D.nh P.zh, .slice P.xd D.nd P.zd, .slice P.xi D.ni P.zi, .slice P.xs D.ns P.zs, .slice P.xk D.nk P.zk, .slice P.xp D.np P.zp] 28)).cell? ⟨w.heap.size, 8, none⟩ = some (.slice P.xs D.ns P.zs) := by simp
  have ms : D.ns ≤ 9223372036854775807 := by have := ok.rs; unfold maxLen at this; omega
  have bw := Lib.hid ok.bs
  clear ok sn
  have S := sF.os
  clear sF
  unfold fontV
  generalize P.xs = A at *
  go_enter Try.func24, Try.ntmps24
  go_wp2_with fail
  generalize (w.alloc (.cells #[.int .i64 D.sum, .int .i64 D.design, .int .i64 D.first, .slice P.xc D.nc P.zc, .slice P.xw D.nw P.zw, .slice P.xh D.nh P.zh, .slice P.xd D.nd P.zd, .slice P.xi D.ni P.zi, .slice A D.ns P.zs, .slice P.xk D.nk P.zk, .slice P.xp D.np P.zp] 28)) = V at *
  generalize w.heap.size = B at *
  go_loopw [8] (fun i wr => ∃ k : Nat, k ≤ D.ns ∧ i = .int .i64 k ∧ Hid (allB (stpB D) k = true) ∧ Ext V wr) (fun i _ => D.ns - (intOf i).toNat)
  case atStart => exact ⟨0, by omega, rfl, rfl, Ext.refl _⟩
  case round =>
    obtain ⟨k, hk, rfl, hall, x⟩ := hrel
    by_cases hlt : k < D.ns
    · obtain ⟨ad, hA, e0, e1, e2, e3⟩ := row4 (S.ext x) hlt
      have q8 := x.at q8
      subst hA
      have hB := x.grows _ lB
      have HF := Lib.hid (fun h : stpB D k = false => show allB (stpB D) D.ns = false from allB_no hlt h)
      have HT := Lib.hid (fun h : stpB D k = true => show allB (stpB D) (k + 1) = true by rw [allB, hall.out, h]; rfl)
      have HC : Hid (stpB D k = (inB (D.stp k 0) 256 && (inB (D.stp k 1) 256 && (inB (D.stp k 2) 256 && (inB (D.stp k 3) 256))))) := rfl
      clear S
      generalize D.stp k 0 = v0 at *
      generalize D.stp k 1 = v1 at *
      generalize D.stp k 2 = v2 at *
      generalize D.stp k 3 = v3 at *
      cases i0 : inB v0 256 with
      | false =>
        go_wp2_with ((go_at_call 38; refine (place_any _ _ _).mono ?_; rintro e w' ⟨rfl, rfl⟩))
        go_ret
        exact ⟨ret_bool (HF.out (by rw [HC.out]; simp [i0])).symm, W0.trans (x.alloc _)⟩
      | true =>
        cases i1 : inB v1 256 with
        | false =>
          go_wp2_with ((go_at_call 38; refine (place_any _ _ _).mono ?_; rintro e w' ⟨rfl, rfl⟩))
          go_ret
          exact ⟨ret_bool (HF.out (by rw [HC.out]; simp [i0, i1])).symm, W0.trans (x.alloc _)⟩
        | true =>
          cases i2 : inB v2 256 with
          | false =>
            go_wp2_with ((go_at_call 38; refine (place_any _ _ _).mono ?_; rintro e w' ⟨rfl, rfl⟩))
            go_ret
            exact ⟨ret_bool (HF.out (by rw [HC.out]; simp [i0, i1, i2])).symm, W0.trans (x.alloc _)⟩
          | true =>
            cases i3 : inB v3 256 with
            | false =>
              go_wp2_with ((go_at_call 38; refine (place_any _ _ _).mono ?_; rintro e w' ⟨rfl, rfl⟩))
              go_ret
              exact ⟨ret_bool (HF.out (by rw [HC.out]; simp [i0, i1, i2, i3])).symm, W0.trans (x.alloc _)⟩
            | true =>
              go_wp2_with ((go_at_call 38; refine (place_any _ _ _).mono ?_; rintro e w' ⟨rfl, rfl⟩))
              go_roundw
              case rel => exact ⟨k + 1, by omega, by go_num, HT.out (by rw [HC.out]; simp [i0, i1, i2, i3]), x.alloc _⟩
              case measure => simp [intOf]; omega
    · have ek : k = D.ns := by omega
      subst ek
      go_wp2_with fail
      go_ret
      exact ⟨ret_bool hall.out.symm, W0.trans x⟩
end L07
end Go.Proofs.Ytggedodfkjdegaa

