/- The landed Check of layer 7, whole. -/
import Derived.Test.YtggedodfkjdegaaTfmB07
namespace Go.Proofs.Ytggedodfkjdegaa
open Go.RowKit
namespace L07

theorem checkB_is (D : FontD) : checkB D = (wiB D.sum 0 4294967295 && (wiB D.design 1048576 2147483647 && (wiB D.first 0 255 && (wiB D.nc 1 (256 - D.first) && (wiB D.ns 0 256 && (fixesB D.nw D.wd 1 256 true && (fixesB D.nh D.hd 1 16 true && (fixesB D.nd D.dd 1 16 true && (fixesB D.ni D.id 1 64 true && (fixesB D.nk D.kd 0 256 false && (fixesB D.np D.pd 0 30 false && (allB (chrB D) D.nc && (allB (stpB D) D.ns))))))))))))) := by
  have e0 : inB D.sum 4294967296 = wiB D.sum 0 4294967295 := by rw [Bool.eq_iff_iff]; simp [inB, wiB]; omega
  have e1 : decide (1048576 ≤ D.design ∧ D.design ≤ 2147483647) = wiB D.design 1048576 2147483647 := rfl
  have e2 : inB D.first 256 = wiB D.first 0 255 := by rw [Bool.eq_iff_iff]; simp [inB, wiB]; omega
  have e3 : decide (1 ≤ (D.nc : Int) ∧ (D.nc : Int) ≤ 256 - D.first) = wiB D.nc 1 (256 - D.first) := rfl
  have e4 : decide (D.ns ≤ 256) = wiB D.ns 0 256 := by rw [Bool.eq_iff_iff]; simp [wiB]; omega
  simp only [checkB, headB, tabsB, e0, e1, e2, e3, e4, Bool.and_assoc]

set_option maxRecDepth 100000 in
set_option maxHeartbeats 40000000 in
theorem tcheck_any (D : FontD) (P : FontP) (w : World) (ok : FontOk D P) (sn : SeenFont w D P) :
    Calls Try.prog 9 #[fontV D P] w (Ret w (.bool (checkB D))) := by
  obtain ⟨b, hb⟩ : ∃ b, b = (wiB D.sum 0 4294967295 && (wiB D.design 1048576 2147483647 && (wiB D.first 0 255 && (wiB D.nc 1 (256 - D.first) && (wiB D.ns 0 256 && (fixesB D.nw D.wd 1 256 true && (fixesB D.nh D.hd 1 16 true && (fixesB D.nd D.dd 1 16 true && (fixesB D.ni D.id 1 64 true && (fixesB D.nk D.kd 0 256 false && (fixesB D.np D.pd 0 30 false && (allB (chrB D) D.nc && (allB (stpB D) D.ns))))))))))))) := ⟨_, rfl⟩
  rw [checkB_is, ← hb]
  have HB := Lib.hid hb
  clear hb
  have W0 : Ext w (w.alloc (.cells #[.int .i64 D.sum, .int .i64 D.design, .int .i64 D.first, .slice P.xc D.nc P.zc, .slice P.xw D.nw P.zw, .slice P.xh D.nh P.zh, .slice P.xd D.nd P.zd, .slice P.xi D.ni P.zi, .slice P.xs D.ns P.zs, .slice P.xk D.nk P.zk, .slice P.xp D.np P.zp] 28)) := (Ext.refl _).alloc _
  have sF := sn.ext W0
  have TC := Lib.hid (tchars_any D P _ ok sF)
  have TS := Lib.hid (fun w' (x : Ext (w.alloc (.cells #[.int .i64 D.sum, .int .i64 D.design, .int .i64 D.first, .slice P.xc D.nc P.zc, .slice P.xw D.nw P.zw, .slice P.xh D.nh P.zh, .slice P.xd D.nd P.zd, .slice P.xi D.ni P.zi, .slice P.xs D.ns P.zs, .slice P.xk D.nk P.zk, .slice P.xp D.np P.zp] 28)) w') => tsteps_any D P w' ok (sF.ext x))
  have q0 : (w.alloc (.cells #[.int .i64 D.sum, .int .i64 D.design, .int .i64 D.first, .slice P.xc D.nc P.zc, .slice P.xw D.nw P.zw, .slice P.xh D.nh P.zh, .slice P.xd D.nd P.zd, .slice P.xi D.ni P.zi, .slice P.xs D.ns P.zs, .slice P.xk D.nk P.zk, .slice P.xp D.np P.zp] 28)).cell? ⟨w.heap.size, 0, none⟩ = some (.int .i64 D.sum) := by simp
  have q1 : (w.alloc (.cells #[.int .i64 D.sum, .int .i64 D.design, .int .i64 D.first, .slice P.xc D.nc P.zc, .slice P.xw D.nw P.zw, .slice P.xh D.nh P.zh, .slice P.xd D.nd P.zd, .slice P.xi D.ni P.zi, .slice P.xs D.ns P.zs, .slice P.xk D.nk P.zk, .slice P.xp D.np P.zp] 28)).cell? ⟨w.heap.size, 1, none⟩ = some (.int .i64 D.design) := by simp
  have q2 : (w.alloc (.cells #[.int .i64 D.sum, .int .i64 D.design, .int .i64 D.first, .slice P.xc D.nc P.zc, .slice P.xw D.nw P.zw, .slice P.xh D.nh P.zh, .slice P.xd D.nd P.zd, .slice P.xi D.ni P.zi, .slice P.xs D.ns P.zs, .slice P.xk D.nk P.zk, .slice P.xp D.np P.zp] 28)).cell? ⟨w.heap.size, 2, none⟩ = some (.int .i64 D.first) := by simp
  have q3 : (w.alloc (.cells #[.int .i64 D.sum, .int .i64 D.design, .int .i64 D.first, .slice P.xc D.nc P.zc, .slice P.xw D.nw P.zw, .slice P.xh D.nh P.zh, .slice P.xd D.nd P.zd, .slice P.xi D.ni P.zi, .slice P.xs D.ns P.zs, .slice P.xk D.nk P.zk, .slice P.xp D.np P.zp] 28)).cell? ⟨w.heap.size, 3, none⟩ = some (.slice P.xc D.nc P.zc) := by simp
  have q4 : (w.alloc (.cells #[.int .i64 D.sum, .int .i64 D.design, .int .i64 D.first, .slice P.xc D.nc P.zc, .slice P.xw D.nw P.zw, .slice P.xh D.nh P.zh, .slice P.xd D.nd P.zd, .slice P.xi D.ni P.zi, .slice P.xs D.ns P.zs, .slice P.xk D.nk P.zk, .slice P.xp D.np P.zp] 28)).cell? ⟨w.heap.size, 4, none⟩ = some (.slice P.xw D.nw P.zw) := by simp
  have q5 : (w.alloc (.cells #[.int .i64 D.sum, .int .i64 D.design, .int .i64 D.first, .slice P.xc D.nc P.zc, .slice P.xw D.nw P.zw, .slice P.xh D.nh P.zh, .slice P.xd D.nd P.zd, .slice P.xi D.ni P.zi, .slice P.xs D.ns P.zs, .slice P.xk D.nk P.zk, .slice P.xp D.np P.zp] 28)).cell? ⟨w.heap.size, 5, none⟩ = some (.slice P.xh D.nh P.zh) := by simp
  have q6 : (w.alloc (.cells #[.int .i64 D.sum, .int .i64 D.design, .int .i64 D.first, .slice P.xc D.nc P.zc, .slice P.xw D.nw P.zw, .slice P.xh D.nh P.zh, .slice P.xd D.nd P.zd, .slice P.xi D.ni P.zi, .slice P.xs D.ns P.zs, .slice P.xk D.nk P.zk, .slice P.xp D.np P.zp] 28)).cell? ⟨w.heap.size, 6, none⟩ = some (.slice P.xd D.nd P.zd) := by simp
  have q7 : (w.alloc (.cells #[.int .i64 D.sum, .int .i64 D.design, .int .i64 D.first, .slice P.xc D.nc P.zc, .slice P.xw D.nw P.zw, .slice P.xh D.nh P.zh, .slice P.xd D.nd P.zd, .slice P.xi D.ni P.zi, .slice P.xs D.ns P.zs, .slice P.xk D.nk P.zk, .slice P.xp D.np P.zp] 28)).cell? ⟨w.heap.size, 7, none⟩ = some (.slice P.xi D.ni P.zi) := by simp
  have q8 : (w.alloc (.cells #[.int .i64 D.sum, .int .i64 D.design, .int .i64 D.first, .slice P.xc D.nc P.zc, .slice P.xw D.nw P.zw, .slice P.xh D.nh P.zh, .slice P.xd D.nd P.zd, .slice P.xi D.ni P.zi, .slice P.xs D.ns P.zs, .slice P.xk D.nk P.zk, .slice P.xp D.np P.zp] 28)).cell? ⟨w.heap.size, 8, none⟩ = some (.slice P.xs D.ns P.zs) := by simp
  have q9 : (w.alloc (.cells #[.int .i64 D.sum, .int .i64 D.design, .int .i64 D.first, .slice P.xc D.nc P.zc, .slice P.xw D.nw P.zw, .slice P.xh D.nh P.zh, .slice P.xd D.nd P.zd, .slice P.xi D.ni P.zi, .slice P.xs D.ns P.zs, .slice P.xk D.nk P.zk, .slice P.xp D.np P.zp] 28)).cell? ⟨w.heap.size, 9, none⟩ = some (.slice P.xk D.nk P.zk) := by simp
  have q10 : (w.alloc (.cells #[.int .i64 D.sum, .int .i64 D.design, .int .i64 D.first, .slice P.xc D.nc P.zc, .slice P.xw D.nw P.zw, .slice P.xh D.nh P.zh, .slice P.xd D.nd P.zd, .slice P.xi D.ni P.zi, .slice P.xs D.ns P.zs, .slice P.xk D.nk P.zk, .slice P.xp D.np P.zp] 28)).cell? ⟨w.heap.size, 10, none⟩ = some (.slice P.xp D.np P.zp) := by simp
  have mw : D.nw ≤ 9223372036854775807 := by have := ok.rw; unfold maxLen at this; omega
  have mh : D.nh ≤ 9223372036854775807 := by have := ok.rh; unfold maxLen at this; omega
  have md : D.nd ≤ 9223372036854775807 := by have := ok.rd; unfold maxLen at this; omega
  have mi : D.ni ≤ 9223372036854775807 := by have := ok.ri; unfold maxLen at this; omega
  have mk : D.nk ≤ 9223372036854775807 := by have := ok.rk; unfold maxLen at this; omega
  have mp : D.np ≤ 9223372036854775807 := by have := ok.rp; unfold maxLen at this; omega
  have mc : D.nc ≤ 9223372036854775807 := by have := ok.rc; unfold maxLen at this; omega
  have ms : D.ns ≤ 9223372036854775807 := by have := ok.rs; unfold maxLen at this; omega
  clear ok sn
  unfold fontV at *
  go_enter Try.func9, Try.ntmps9
  go_wp2_with fail
  generalize (w.alloc (.cells #[.int .i64 D.sum, .int .i64 D.design, .int .i64 D.first, .slice P.xc D.nc P.zc, .slice P.xw D.nw P.zw, .slice P.xh D.nh P.zh, .slice P.xd D.nd P.zd, .slice P.xi D.ni P.zi, .slice P.xs D.ns P.zs, .slice P.xk D.nk P.zk, .slice P.xp D.np P.zp] 28)) = V at *
  generalize w.heap.size = B at *
  refine (within_any _ _ _ _).mono ?_; rintro e w' ⟨rfl, rfl⟩
  cases s0 : wiB D.sum 0 4294967295 with
  | false =>
    go_wp2_with fail
    go_ret
    exact ⟨ret_bool (by rw [HB.out, s0]; rfl), W0⟩
  | true =>
  go_wp2_with fail
  refine (within_any _ _ _ _).mono ?_; rintro e w' ⟨rfl, rfl⟩
  cases s1 : wiB D.design 1048576 2147483647 with
  | false =>
    go_wp2_with fail
    go_ret
    exact ⟨ret_bool (by rw [HB.out, s0, s1]; rfl), W0⟩
  | true =>
  go_wp2_with fail
  refine (within_any _ _ _ _).mono ?_; rintro e w' ⟨rfl, rfl⟩
  cases s2 : wiB D.first 0 255 with
  | false =>
    go_wp2_with fail
    go_ret
    exact ⟨ret_bool (by rw [HB.out, s0, s1, s2]; rfl), W0⟩
  | true =>
  have hf : 0 ≤ D.first ∧ D.first ≤ 255 := by simpa [wiB] using s2
  obtain ⟨hf0, hf1⟩ := hf
  go_wp2_with fail
  refine (within_any _ _ _ _).mono ?_; rintro e w' ⟨rfl, rfl⟩
  cases s3 : wiB D.nc 1 (256 - D.first) with
  | false =>
    go_wp2_with fail
    go_ret
    exact ⟨ret_bool (by rw [HB.out, s0, s1, s2, s3]; rfl), W0⟩
  | true =>
  go_wp2_with fail
  refine (within_any _ _ _ _).mono ?_; rintro e w' ⟨rfl, rfl⟩
  cases s4 : wiB D.ns 0 256 with
  | false =>
    go_wp2_with fail
    go_ret
    exact ⟨ret_bool (by rw [HB.out, s0, s1, s2, s3, s4]; rfl), W0⟩
  | true =>
  go_wp2_with fail
  refine (table_any _ _ _ D.wd _ _ sF.ow mw).mono ?_; rintro e w' ⟨rfl, rfl⟩
  cases s5 : fixesB D.nw D.wd 1 256 true with
  | false =>
    go_wp2_with fail
    go_ret
    exact ⟨ret_bool (by rw [HB.out, s0, s1, s2, s3, s4, s5]; rfl), W0⟩
  | true =>
  go_wp2_with fail
  refine (table_any _ _ _ D.hd _ _ sF.oh mh).mono ?_; rintro e w' ⟨rfl, rfl⟩
  cases s6 : fixesB D.nh D.hd 1 16 true with
  | false =>
    go_wp2_with fail
    go_ret
    exact ⟨ret_bool (by rw [HB.out, s0, s1, s2, s3, s4, s5, s6]; rfl), W0⟩
  | true =>
  go_wp2_with fail
  refine (table_any _ _ _ D.dd _ _ sF.od md).mono ?_; rintro e w' ⟨rfl, rfl⟩
  cases s7 : fixesB D.nd D.dd 1 16 true with
  | false =>
    go_wp2_with fail
    go_ret
    exact ⟨ret_bool (by rw [HB.out, s0, s1, s2, s3, s4, s5, s6, s7]; rfl), W0⟩
  | true =>
  go_wp2_with fail
  refine (table_any _ _ _ D.id _ _ sF.oi mi).mono ?_; rintro e w' ⟨rfl, rfl⟩
  cases s8 : fixesB D.ni D.id 1 64 true with
  | false =>
    go_wp2_with fail
    go_ret
    exact ⟨ret_bool (by rw [HB.out, s0, s1, s2, s3, s4, s5, s6, s7, s8]; rfl), W0⟩
  | true =>
  go_wp2_with fail
  refine (tfixes_any _ _ _ D.kd _ _ sF.ok mk).mono ?_; rintro e w' ⟨rfl, rfl⟩
  cases s9 : fixesB D.nk D.kd 0 256 false with
  | false =>
    go_wp2_with fail
    go_ret
    exact ⟨ret_bool (by rw [HB.out, s0, s1, s2, s3, s4, s5, s6, s7, s8, s9]; rfl), W0⟩
  | true =>
  go_wp2_with fail
  refine (tfixes_any _ _ _ D.pd _ _ sF.op mp).mono ?_; rintro e w' ⟨rfl, rfl⟩
  cases s10 : fixesB D.np D.pd 0 30 false with
  | false =>
    go_wp2_with fail
    go_ret
    exact ⟨ret_bool (by rw [HB.out, s0, s1, s2, s3, s4, s5, s6, s7, s8, s9, s10]; rfl), W0⟩
  | true =>
  go_wp2_with fail
  refine TC.out.mono ?_; rintro e w1 ⟨rfl, x1⟩
  have q0 := x1.at q0
  have q1 := x1.at q1
  have q2 := x1.at q2
  have q3 := x1.at q3
  have q4 := x1.at q4
  have q5 := x1.at q5
  have q6 := x1.at q6
  have q7 := x1.at q7
  have q8 := x1.at q8
  have q9 := x1.at q9
  have q10 := x1.at q10
  cases s11 : allB (chrB D) D.nc with
  | false =>
    go_wp2_with fail
    go_ret
    exact ⟨ret_bool (by rw [HB.out, s0, s1, s2, s3, s4, s5, s6, s7, s8, s9, s10, s11]; rfl), W0.trans x1⟩
  | true =>
  go_wp2_with fail
  refine (TS.out _ x1).mono ?_; rintro e w2 ⟨rfl, x2⟩
  cases s12 : allB (stpB D) D.ns with
  | false =>
    go_wp2_with fail
    go_ret
    exact ⟨ret_bool (by rw [HB.out, s0, s1, s2, s3, s4, s5, s6, s7, s8, s9, s10, s11, s12]; rfl), W0.trans (x1.trans x2)⟩
  | true =>
  go_wp2_with fail
  go_ret
  exact ⟨ret_bool (by rw [HB.out, s0, s1, s2, s3, s4, s5, s6, s7, s8, s9, s10, s11, s12]; rfl), W0.trans (x1.trans x2)⟩
end L07
end Go.Proofs.Ytggedodfkjdegaa

