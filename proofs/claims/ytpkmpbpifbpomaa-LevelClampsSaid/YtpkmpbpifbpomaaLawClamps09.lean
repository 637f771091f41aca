/- LevelClamps: at a level beyond what a face may have a character is as at the last one that it may have, and a kern, and what stands out (at most three hundred of each): for every input. -/
import Derived.Test.YtpkmpbpifbpomaaFew09
namespace Go.Proofs.Ytpkmpbpifbpomaa
open Go.ChangeShapes Go.WideShapes Go.ChangeAt Go.RowKit Go.Lib
namespace LevelClamps
open L02 L07 L08 L09


set_option maxRecDepth 100000 in
set_option maxHeartbeats 16000000 in
theorem walk_no (D : FontD) (P : FontP) (T : FaceT) (Q : FaceQ) (ok : FaceOk D P T Q) (code : Int) (hcode : -9223372036854775808 ≤ code ∧ code ≤ 9223372036854775807) (fix : Int) (_ : -9223372036854775808 ≤ fix ∧ fix ≤ 9223372036854775807) (n : Int) (hn : -9223372036854775808 ≤ n ∧ n ≤ 9223372036854775807) (w : World) (sn : SeenFace w D P T Q) (hF : faceB D T = false) :
    Calls Try.prog 10 #[faceV D P T Q, .int .i64 code, .int .i64 fix, .int .i64 n] w (Ret w (.bool true)) := by
  obtain ⟨V, hV⟩ : ∃ V, V = w.alloc (.cells #[.int .i64 D.sum, .int .i64 D.design, .int .i64 D.first, .slice P.xc D.nc P.zc, .slice P.xw D.nw P.zw, .slice P.xh D.nh P.zh, .slice P.xd D.nd P.zd, .slice P.xi D.ni P.zi, .slice P.xs D.ns P.zs, .slice P.xk D.nk P.zk, .slice P.xp D.np P.zp, .int .i64 T.size, .int .i64 T.step, .int .i64 T.up, .int .i64 T.down, .slice Q.xt T.nt Q.zt] 45) := ⟨_, rfl⟩
  have W0 : Ext w V := by rw [hV]; exact (Ext.refl _).alloc _
  have kF : Blk V w.heap.size 45 [.int .i64 D.sum, .int .i64 D.design, .int .i64 D.first, .slice P.xc D.nc P.zc, .slice P.xw D.nw P.zw, .slice P.xh D.nh P.zh, .slice P.xd D.nd P.zd, .slice P.xi D.ni P.zi, .slice P.xs D.ns P.zs, .slice P.xk D.nk P.zk, .slice P.xp D.np P.zp, .int .i64 T.size, .int .i64 T.step, .int .i64 T.up, .int .i64 T.down, .slice Q.xt T.nt Q.zt] := by rw [hV]; exact Blk.lit _ _ _ _ rfl
  have SN := Lib.hid (fun w' (x : Ext V w') => (sn.ext W0).ext x)
  have OK := Lib.hid ok
  have hz : -9223372036854775808 ≤ (0 : Int) ∧ (0 : Int) ≤ 9223372036854775807 := by omega
  have e1 := (no_values hF code n fix 2).1
  have e2 := (no_values hF code n fix 2).2.1
  have e3 := (no_values hF code 0 fix 2).2.1
  have e4 := (no_values hF code n fix 2).2.2.2.1
  have e5 := (no_values hF code n fix 2).2.2.2.2.1
  have e6 := (no_values hF code n fix 2).2.2.2.2.2
  have e7 := (no_values hF code 0 fix 2).2.2.2.2.2
  have g1 := (no_values hF code n fix 2).2.2.1
  have g2 := (no_values hF code n fix 3).2.2.1
  have g3 := (no_values hF code 0 fix 2).2.2.1
  have g4 := (no_values hF code 0 fix 3).2.2.1
  have K1 := Lib.hid (fun w' (x : Ext V w') => show Calls Try.prog 35 #[.agg #[.int .i64 D.sum, .int .i64 D.design, .int .i64 D.first, .slice P.xc D.nc P.zc, .slice P.xw D.nw P.zw, .slice P.xh D.nh P.zh, .slice P.xd D.nd P.zd, .slice P.xi D.ni P.zi, .slice P.xs D.ns P.zs, .slice P.xk D.nk P.zk, .slice P.xp D.np P.zp, .int .i64 T.size, .int .i64 T.step, .int .i64 T.up, .int .i64 T.down, .slice Q.xt T.nt Q.zt], .int .i64 n] w' (Ret w' (.int .i64 0)) by have h := fclamp_any D P T Q n w' OK.out (SN.out _ x) hn.1 hn.2; rw [e4] at h; exact h)
  have K2 := Lib.hid (fun w' (x : Ext V w') => show Calls Try.prog 27 #[.agg #[.int .i64 D.sum, .int .i64 D.design, .int .i64 D.first, .slice P.xc D.nc P.zc, .slice P.xw D.nw P.zw, .slice P.xh D.nh P.zh, .slice P.xd D.nd P.zd, .slice P.xi D.ni P.zi, .slice P.xs D.ns P.zs, .slice P.xk D.nk P.zk, .slice P.xp D.np P.zp, .int .i64 T.size, .int .i64 T.step, .int .i64 T.up, .int .i64 T.down, .slice Q.xt T.nt Q.zt], .int .i64 code, .int .i64 n] w' (Ret w' (.tuple #[.int .i64 (0), .int .i64 (90)])) by have h := fwidth_any D P T Q code n w' OK.out (SN.out _ x) hcode.1 hcode.2 hn.1 hn.2; rw [e1, e2] at h; exact h)
  have K3 := Lib.hid (fun w' (x : Ext V w') => show Calls Try.prog 27 #[.agg #[.int .i64 D.sum, .int .i64 D.design, .int .i64 D.first, .slice P.xc D.nc P.zc, .slice P.xw D.nw P.zw, .slice P.xh D.nh P.zh, .slice P.xd D.nd P.zd, .slice P.xi D.ni P.zi, .slice P.xs D.ns P.zs, .slice P.xk D.nk P.zk, .slice P.xp D.np P.zp, .int .i64 T.size, .int .i64 T.step, .int .i64 T.up, .int .i64 T.down, .slice Q.xt T.nt Q.zt], .int .i64 code, .int .i64 0] w' (Ret w' (.tuple #[.int .i64 (0), .int .i64 (90)])) by have h := fwidth_any D P T Q code 0 w' OK.out (SN.out _ x) hcode.1 hcode.2 hz.1 hz.2; rw [e1, e3] at h; exact h)
  have K4 := Lib.hid (fun w' (x : Ext V w') => show Calls Try.prog 29 #[.agg #[.int .i64 D.sum, .int .i64 D.design, .int .i64 D.first, .slice P.xc D.nc P.zc, .slice P.xw D.nw P.zw, .slice P.xh D.nh P.zh, .slice P.xd D.nd P.zd, .slice P.xi D.ni P.zi, .slice P.xs D.ns P.zs, .slice P.xk D.nk P.zk, .slice P.xp D.np P.zp, .int .i64 T.size, .int .i64 T.step, .int .i64 T.up, .int .i64 T.down, .slice Q.xt T.nt Q.zt], .int .i64 fix, .int .i64 n] w' (Ret w' (.tuple #[.int .i64 (0), .int .i64 (90)])) by have h := fkern_any D P T Q fix n w' OK.out (SN.out _ x) hn.1 hn.2; rw [e5, e6] at h; exact h)
  have K5 := Lib.hid (fun w' (x : Ext V w') => show Calls Try.prog 29 #[.agg #[.int .i64 D.sum, .int .i64 D.design, .int .i64 D.first, .slice P.xc D.nc P.zc, .slice P.xw D.nw P.zw, .slice P.xh D.nh P.zh, .slice P.xd D.nd P.zd, .slice P.xi D.ni P.zi, .slice P.xs D.ns P.zs, .slice P.xk D.nk P.zk, .slice P.xp D.np P.zp, .int .i64 T.size, .int .i64 T.step, .int .i64 T.up, .int .i64 T.down, .slice Q.xt T.nt Q.zt], .int .i64 fix, .int .i64 0] w' (Ret w' (.tuple #[.int .i64 (0), .int .i64 (90)])) by have h := fkern_any D P T Q fix 0 w' OK.out (SN.out _ x) hz.1 hz.2; rw [e5, e7] at h; exact h)
  have K6 := Lib.hid (fun w' (x : Ext V w') => show Calls Try.prog 31 #[.agg #[.int .i64 D.sum, .int .i64 D.design, .int .i64 D.first, .slice P.xc D.nc P.zc, .slice P.xw D.nw P.zw, .slice P.xh D.nh P.zh, .slice P.xd D.nd P.zd, .slice P.xi D.ni P.zi, .slice P.xs D.ns P.zs, .slice P.xk D.nk P.zk, .slice P.xp D.np P.zp, .int .i64 T.size, .int .i64 T.step, .int .i64 T.up, .int .i64 T.down, .slice Q.xt T.nt Q.zt], .int .i64 code, .int .i64 n] w' (Ret w' (.tuple #[.int .i64 (0), .int .i64 (0), .int .i64 (90)])) by have h := fedges_any D P T Q code n w' OK.out (SN.out _ x) hcode.1 hcode.2 hn.1 hn.2; rw [e1, g1, g2] at h; exact h)
  have K7 := Lib.hid (fun w' (x : Ext V w') => show Calls Try.prog 31 #[.agg #[.int .i64 D.sum, .int .i64 D.design, .int .i64 D.first, .slice P.xc D.nc P.zc, .slice P.xw D.nw P.zw, .slice P.xh D.nh P.zh, .slice P.xd D.nd P.zd, .slice P.xi D.ni P.zi, .slice P.xs D.ns P.zs, .slice P.xk D.nk P.zk, .slice P.xp D.np P.zp, .int .i64 T.size, .int .i64 T.step, .int .i64 T.up, .int .i64 T.down, .slice Q.xt T.nt Q.zt], .int .i64 code, .int .i64 0] w' (Ret w' (.tuple #[.int .i64 (0), .int .i64 (0), .int .i64 (90)])) by have h := fedges_any D P T Q code 0 w' OK.out (SN.out _ x) hcode.1 hcode.2 hz.1 hz.2; rw [e1, g3, g4] at h; exact h)
  have K8 := Lib.hid (fun w' (x : Ext V w') => show Calls Try.prog 33 #[.agg #[.int .i64 D.sum, .int .i64 D.design, .int .i64 D.first, .slice P.xc D.nc P.zc, .slice P.xw D.nw P.zw, .slice P.xh D.nh P.zh, .slice P.xd D.nd P.zd, .slice P.xi D.ni P.zi, .slice P.xs D.ns P.zs, .slice P.xk D.nk P.zk, .slice P.xp D.np P.zp, .int .i64 T.size, .int .i64 T.step, .int .i64 T.up, .int .i64 T.down, .slice Q.xt T.nt Q.zt]] w' (Ret w' (.bool false)) by have h := fcheck_any D P T Q w' OK.out (SN.out _ x) ; rw [hF] at h; exact h)
  obtain ⟨n1, n2⟩ := hn
  clear hcode hz hF e1 e2 e3 e4 e5 e6 e7 g1 g2 g3 g4 OK SN
  clear ok sn
  unfold faceV
  go_enter Try.func10, Try.ntmps10
  go_upto_region 1 with (fail)
  rw [← hV]
  clear hV
  generalize w.heap.size = B at *
  have HG := Lib.hid kF
  have HW := Lib.hid W0
  clear kF W0
  go_wp2_with fail
  refine (awake_any _).mono ?_; rintro e w1 ⟨rfl, x1⟩
  have X1 := Lib.hid x1
  have HG1 := Lib.hid (HG.out.ext x1)
  clear x1
  have q0 : w1.cell? ⟨B, 0, none⟩ = some (.int .i64 D.sum) := HG1.out.cell 0
  have q1 : w1.cell? ⟨B, 1, none⟩ = some (.int .i64 D.design) := HG1.out.cell 1
  have q2 : w1.cell? ⟨B, 2, none⟩ = some (.int .i64 D.first) := HG1.out.cell 2
  have q3 : w1.cell? ⟨B, 3, none⟩ = some (.slice P.xc D.nc P.zc) := HG1.out.cell 3
  have q4 : w1.cell? ⟨B, 4, none⟩ = some (.slice P.xw D.nw P.zw) := HG1.out.cell 4
  have q5 : w1.cell? ⟨B, 5, none⟩ = some (.slice P.xh D.nh P.zh) := HG1.out.cell 5
  have q6 : w1.cell? ⟨B, 6, none⟩ = some (.slice P.xd D.nd P.zd) := HG1.out.cell 6
  have q7 : w1.cell? ⟨B, 7, none⟩ = some (.slice P.xi D.ni P.zi) := HG1.out.cell 7
  have q8 : w1.cell? ⟨B, 8, none⟩ = some (.slice P.xs D.ns P.zs) := HG1.out.cell 8
  have q9 : w1.cell? ⟨B, 9, none⟩ = some (.slice P.xk D.nk P.zk) := HG1.out.cell 9
  have q10 : w1.cell? ⟨B, 10, none⟩ = some (.slice P.xp D.np P.zp) := HG1.out.cell 10
  have q11 : w1.cell? ⟨B, 11, none⟩ = some (.int .i64 T.size) := HG1.out.cell 11
  have q12 : w1.cell? ⟨B, 12, none⟩ = some (.int .i64 T.step) := HG1.out.cell 12
  have q13 : w1.cell? ⟨B, 13, none⟩ = some (.int .i64 T.up) := HG1.out.cell 13
  have q14 : w1.cell? ⟨B, 14, none⟩ = some (.int .i64 T.down) := HG1.out.cell 14
  have q15 : w1.cell? ⟨B, 15, none⟩ = some (.slice Q.xt T.nt Q.zt) := HG1.out.cell 15
  go_wp2_with fail
  all_goals first | (go_ret; exact ⟨rfl, HW.out.trans X1.out⟩) | skip
  clear q0 q1 q2 q3 q4 q5 q6 q7 q8 q9 q10 q11 q12 q13 q14 q15
  go_wp2_with (first | (refine wpList_load (by kernel_rfl) 45 _ rfl B rfl [.int .i64 D.sum, .int .i64 D.design, .int .i64 D.first, .slice P.xc D.nc P.zc, .slice P.xw D.nw P.zw, .slice P.xh D.nh P.zh, .slice P.xd D.nd P.zd, .slice P.xi D.ni P.zi, .slice P.xs D.ns P.zs, .slice P.xk D.nk P.zk, .slice P.xp D.np P.zp, .int .i64 T.size, .int .i64 T.step, .int .i64 T.up, .int .i64 T.down, .slice Q.xt T.nt Q.zt] _ HG1.out.range Try.underlying45 rfl (by kernel_rfl) ?_) | fail)
  refine (K1.out _ X1.out).mono ?_; rintro e w2 ⟨rfl, x2⟩
  have X2 := Lib.hid (X1.out.trans x2)
  have HG2 := Lib.hid (HG1.out.ext x2)
  clear x2
  go_wp2_with (first | (refine wpList_load (by kernel_rfl) 45 _ rfl B rfl [.int .i64 D.sum, .int .i64 D.design, .int .i64 D.first, .slice P.xc D.nc P.zc, .slice P.xw D.nw P.zw, .slice P.xh D.nh P.zh, .slice P.xd D.nd P.zd, .slice P.xi D.ni P.zi, .slice P.xs D.ns P.zs, .slice P.xk D.nk P.zk, .slice P.xp D.np P.zp, .int .i64 T.size, .int .i64 T.step, .int .i64 T.up, .int .i64 T.down, .slice Q.xt T.nt Q.zt] _ HG2.out.range Try.underlying45 rfl (by kernel_rfl) ?_) | fail)
  refine (K2.out _ X2.out).mono ?_; rintro e w3 ⟨rfl, x3⟩
  have X3 := Lib.hid (X2.out.trans x3)
  have HG3 := Lib.hid (HG2.out.ext x3)
  clear x3
  go_wp2_with (first | (refine wpList_load (by kernel_rfl) 45 _ rfl B rfl [.int .i64 D.sum, .int .i64 D.design, .int .i64 D.first, .slice P.xc D.nc P.zc, .slice P.xw D.nw P.zw, .slice P.xh D.nh P.zh, .slice P.xd D.nd P.zd, .slice P.xi D.ni P.zi, .slice P.xs D.ns P.zs, .slice P.xk D.nk P.zk, .slice P.xp D.np P.zp, .int .i64 T.size, .int .i64 T.step, .int .i64 T.up, .int .i64 T.down, .slice Q.xt T.nt Q.zt] _ HG3.out.range Try.underlying45 rfl (by kernel_rfl) ?_) | fail)
  refine (K3.out _ X3.out).mono ?_; rintro e w4 ⟨rfl, x4⟩
  have X4 := Lib.hid (X3.out.trans x4)
  have HG4 := Lib.hid (HG3.out.ext x4)
  clear x4
  go_wp2_with (first | (refine wpList_load (by kernel_rfl) 45 _ rfl B rfl [.int .i64 D.sum, .int .i64 D.design, .int .i64 D.first, .slice P.xc D.nc P.zc, .slice P.xw D.nw P.zw, .slice P.xh D.nh P.zh, .slice P.xd D.nd P.zd, .slice P.xi D.ni P.zi, .slice P.xs D.ns P.zs, .slice P.xk D.nk P.zk, .slice P.xp D.np P.zp, .int .i64 T.size, .int .i64 T.step, .int .i64 T.up, .int .i64 T.down, .slice Q.xt T.nt Q.zt] _ HG4.out.range Try.underlying45 rfl (by kernel_rfl) ?_) | fail)
  refine (K4.out _ X4.out).mono ?_; rintro e w5 ⟨rfl, x5⟩
  have X5 := Lib.hid (X4.out.trans x5)
  have HG5 := Lib.hid (HG4.out.ext x5)
  clear x5
  go_wp2_with (first | (refine wpList_load (by kernel_rfl) 45 _ rfl B rfl [.int .i64 D.sum, .int .i64 D.design, .int .i64 D.first, .slice P.xc D.nc P.zc, .slice P.xw D.nw P.zw, .slice P.xh D.nh P.zh, .slice P.xd D.nd P.zd, .slice P.xi D.ni P.zi, .slice P.xs D.ns P.zs, .slice P.xk D.nk P.zk, .slice P.xp D.np P.zp, .int .i64 T.size, .int .i64 T.step, .int .i64 T.up, .int .i64 T.down, .slice Q.xt T.nt Q.zt] _ HG5.out.range Try.underlying45 rfl (by kernel_rfl) ?_) | fail)
  refine (K5.out _ X5.out).mono ?_; rintro e w6 ⟨rfl, x6⟩
  have X6 := Lib.hid (X5.out.trans x6)
  have HG6 := Lib.hid (HG5.out.ext x6)
  clear x6
  go_wp2_with (first | (refine wpList_load (by kernel_rfl) 45 _ rfl B rfl [.int .i64 D.sum, .int .i64 D.design, .int .i64 D.first, .slice P.xc D.nc P.zc, .slice P.xw D.nw P.zw, .slice P.xh D.nh P.zh, .slice P.xd D.nd P.zd, .slice P.xi D.ni P.zi, .slice P.xs D.ns P.zs, .slice P.xk D.nk P.zk, .slice P.xp D.np P.zp, .int .i64 T.size, .int .i64 T.step, .int .i64 T.up, .int .i64 T.down, .slice Q.xt T.nt Q.zt] _ HG6.out.range Try.underlying45 rfl (by kernel_rfl) ?_) | fail)
  refine (K6.out _ X6.out).mono ?_; rintro e w7 ⟨rfl, x7⟩
  have X7 := Lib.hid (X6.out.trans x7)
  have HG7 := Lib.hid (HG6.out.ext x7)
  clear x7
  go_wp2_with (first | (refine wpList_load (by kernel_rfl) 45 _ rfl B rfl [.int .i64 D.sum, .int .i64 D.design, .int .i64 D.first, .slice P.xc D.nc P.zc, .slice P.xw D.nw P.zw, .slice P.xh D.nh P.zh, .slice P.xd D.nd P.zd, .slice P.xi D.ni P.zi, .slice P.xs D.ns P.zs, .slice P.xk D.nk P.zk, .slice P.xp D.np P.zp, .int .i64 T.size, .int .i64 T.step, .int .i64 T.up, .int .i64 T.down, .slice Q.xt T.nt Q.zt] _ HG7.out.range Try.underlying45 rfl (by kernel_rfl) ?_) | fail)
  refine (K7.out _ X7.out).mono ?_; rintro e w8 ⟨rfl, x8⟩
  have X8 := Lib.hid (X7.out.trans x8)
  have HG8 := Lib.hid (HG7.out.ext x8)
  clear x8
  go_wp2_with (first | (refine wpList_load (by kernel_rfl) 45 _ rfl B rfl [.int .i64 D.sum, .int .i64 D.design, .int .i64 D.first, .slice P.xc D.nc P.zc, .slice P.xw D.nw P.zw, .slice P.xh D.nh P.zh, .slice P.xd D.nd P.zd, .slice P.xi D.ni P.zi, .slice P.xs D.ns P.zs, .slice P.xk D.nk P.zk, .slice P.xp D.np P.zp, .int .i64 T.size, .int .i64 T.step, .int .i64 T.up, .int .i64 T.down, .slice Q.xt T.nt Q.zt] _ HG8.out.range Try.underlying45 rfl (by kernel_rfl) ?_) | fail)
  refine (K8.out _ X8.out).mono ?_; rintro e w9 ⟨rfl, x9⟩
  have X9 := Lib.hid (X8.out.trans x9)
  have HG9 := Lib.hid (HG8.out.ext x9)
  clear x9
  go_wp2_with (first | (refine wpList_load (by kernel_rfl) 45 _ rfl B rfl [.int .i64 D.sum, .int .i64 D.design, .int .i64 D.first, .slice P.xc D.nc P.zc, .slice P.xw D.nw P.zw, .slice P.xh D.nh P.zh, .slice P.xd D.nd P.zd, .slice P.xi D.ni P.zi, .slice P.xs D.ns P.zs, .slice P.xk D.nk P.zk, .slice P.xp D.np P.zp, .int .i64 T.size, .int .i64 T.step, .int .i64 T.up, .int .i64 T.down, .slice Q.xt T.nt Q.zt] _ HG9.out.range Try.underlying45 rfl (by kernel_rfl) ?_) | fail)
  go_ret
  exact ⟨rfl, HW.out.trans X9.out⟩

set_option maxRecDepth 100000 in
set_option maxHeartbeats 16000000 in
theorem walk_yes (D : FontD) (P : FontP) (T : FaceT) (Q : FaceQ) (ok : FaceOk D P T Q) (code : Int) (hcode : -9223372036854775808 ≤ code ∧ code ≤ 9223372036854775807) (fix : Int) (_ : -9223372036854775808 ≤ fix ∧ fix ≤ 9223372036854775807) (n : Int) (hn : -9223372036854775808 ≤ n ∧ n ≤ 9223372036854775807) (w : World) (sn : SeenFace w D P T Q) (hF : faceB D T = true) :
    Calls Try.prog 10 #[faceV D P T Q, .int .i64 code, .int .i64 fix, .int .i64 n] w (Ret w (.bool true)) := by
  obtain ⟨V, hV⟩ : ∃ V, V = w.alloc (.cells #[.int .i64 D.sum, .int .i64 D.design, .int .i64 D.first, .slice P.xc D.nc P.zc, .slice P.xw D.nw P.zw, .slice P.xh D.nh P.zh, .slice P.xd D.nd P.zd, .slice P.xi D.ni P.zi, .slice P.xs D.ns P.zs, .slice P.xk D.nk P.zk, .slice P.xp D.np P.zp, .int .i64 T.size, .int .i64 T.step, .int .i64 T.up, .int .i64 T.down, .slice Q.xt T.nt Q.zt] 45) := ⟨_, rfl⟩
  have W0 : Ext w V := by rw [hV]; exact (Ext.refl _).alloc _
  have kF : Blk V w.heap.size 45 [.int .i64 D.sum, .int .i64 D.design, .int .i64 D.first, .slice P.xc D.nc P.zc, .slice P.xw D.nw P.zw, .slice P.xh D.nh P.zh, .slice P.xd D.nd P.zd, .slice P.xi D.ni P.zi, .slice P.xs D.ns P.zs, .slice P.xk D.nk P.zk, .slice P.xp D.np P.zp, .int .i64 T.size, .int .i64 T.step, .int .i64 T.up, .int .i64 T.down, .slice Q.xt T.nt Q.zt] := by rw [hV]; exact Blk.lit _ _ _ _ rfl
  have SN := Lib.hid (fun w' (x : Ext V w') => (sn.ext W0).ext x)
  have OK := Lib.hid ok
  have I := (face_in hF).1
  have hk := clamp_in I n
  obtain ⟨hk0, hk1, hk2⟩ := clamp_clamp I n
  obtain ⟨d0, d1⟩ := I.down
  obtain ⟨u0, u1⟩ := I.up
  obtain ⟨m1, m2, m3, m4, m5⟩ := clamped hF code n fix 2
  have m6 := (clamped hF code n fix 3).2.1
  have K1 := Lib.hid (fun w' (x : Ext V w') => show Calls Try.prog 35 #[.agg #[.int .i64 D.sum, .int .i64 D.design, .int .i64 D.first, .slice P.xc D.nc P.zc, .slice P.xw D.nw P.zw, .slice P.xh D.nh P.zh, .slice P.xd D.nd P.zd, .slice P.xi D.ni P.zi, .slice P.xs D.ns P.zs, .slice P.xk D.nk P.zk, .slice P.xp D.np P.zp, .int .i64 T.size, .int .i64 T.step, .int .i64 T.up, .int .i64 T.down, .slice Q.xt T.nt Q.zt], .int .i64 n] w' (Ret w' (.int .i64 (clampN T n))) by have h := fclamp_any D P T Q n w' OK.out (SN.out _ x) hn.1 hn.2; rw [m4] at h; exact h)
  have K2 := Lib.hid (fun w' (x : Ext V w') => show Calls Try.prog 27 #[.agg #[.int .i64 D.sum, .int .i64 D.design, .int .i64 D.first, .slice P.xc D.nc P.zc, .slice P.xw D.nw P.zw, .slice P.xh D.nh P.zh, .slice P.xd D.nd P.zd, .slice P.xi D.ni P.zi, .slice P.xs D.ns P.zs, .slice P.xk D.nk P.zk, .slice P.xp D.np P.zp, .int .i64 T.size, .int .i64 T.step, .int .i64 T.up, .int .i64 T.down, .slice Q.xt T.nt Q.zt], .int .i64 code, .int .i64 n] w' (Ret w' (.tuple #[.int .i64 (widthV D T code n), .int .i64 (errF D T code)])) by have h := fwidth_any D P T Q code n w' OK.out (SN.out _ x) hcode.1 hcode.2 hn.1 hn.2; exact h)
  have K3 := Lib.hid (fun w' (x : Ext V w') => show Calls Try.prog 27 #[.agg #[.int .i64 D.sum, .int .i64 D.design, .int .i64 D.first, .slice P.xc D.nc P.zc, .slice P.xw D.nw P.zw, .slice P.xh D.nh P.zh, .slice P.xd D.nd P.zd, .slice P.xi D.ni P.zi, .slice P.xs D.ns P.zs, .slice P.xk D.nk P.zk, .slice P.xp D.np P.zp, .int .i64 T.size, .int .i64 T.step, .int .i64 T.up, .int .i64 T.down, .slice Q.xt T.nt Q.zt], .int .i64 code, .int .i64 (clampN T n)] w' (Ret w' (.tuple #[.int .i64 (widthV D T code n), .int .i64 (errF D T code)])) by have h := fwidth_any D P T Q code (clampN T n) w' OK.out (SN.out _ x) hcode.1 hcode.2 (by omega) (by omega); rw [m1] at h; exact h)
  have K4 := Lib.hid (fun w' (x : Ext V w') => show Calls Try.prog 29 #[.agg #[.int .i64 D.sum, .int .i64 D.design, .int .i64 D.first, .slice P.xc D.nc P.zc, .slice P.xw D.nw P.zw, .slice P.xh D.nh P.zh, .slice P.xd D.nd P.zd, .slice P.xi D.ni P.zi, .slice P.xs D.ns P.zs, .slice P.xk D.nk P.zk, .slice P.xp D.np P.zp, .int .i64 T.size, .int .i64 T.step, .int .i64 T.up, .int .i64 T.down, .slice Q.xt T.nt Q.zt], .int .i64 fix, .int .i64 n] w' (Ret w' (.tuple #[.int .i64 (kernV D T fix n), .int .i64 (kernE D T fix)])) by have h := fkern_any D P T Q fix n w' OK.out (SN.out _ x) hn.1 hn.2; exact h)
  have K5 := Lib.hid (fun w' (x : Ext V w') => show Calls Try.prog 29 #[.agg #[.int .i64 D.sum, .int .i64 D.design, .int .i64 D.first, .slice P.xc D.nc P.zc, .slice P.xw D.nw P.zw, .slice P.xh D.nh P.zh, .slice P.xd D.nd P.zd, .slice P.xi D.ni P.zi, .slice P.xs D.ns P.zs, .slice P.xk D.nk P.zk, .slice P.xp D.np P.zp, .int .i64 T.size, .int .i64 T.step, .int .i64 T.up, .int .i64 T.down, .slice Q.xt T.nt Q.zt], .int .i64 fix, .int .i64 (clampN T n)] w' (Ret w' (.tuple #[.int .i64 (kernV D T fix n), .int .i64 (kernE D T fix)])) by have h := fkern_any D P T Q fix (clampN T n) w' OK.out (SN.out _ x) (by omega) (by omega); rw [m3] at h; exact h)
  have K6 := Lib.hid (fun w' (x : Ext V w') => show Calls Try.prog 31 #[.agg #[.int .i64 D.sum, .int .i64 D.design, .int .i64 D.first, .slice P.xc D.nc P.zc, .slice P.xw D.nw P.zw, .slice P.xh D.nh P.zh, .slice P.xd D.nd P.zd, .slice P.xi D.ni P.zi, .slice P.xs D.ns P.zs, .slice P.xk D.nk P.zk, .slice P.xp D.np P.zp, .int .i64 T.size, .int .i64 T.step, .int .i64 T.up, .int .i64 T.down, .slice Q.xt T.nt Q.zt], .int .i64 code, .int .i64 n] w' (Ret w' (.tuple #[.int .i64 (edgeV D T code n 2), .int .i64 (edgeV D T code n 3), .int .i64 (errF D T code)])) by have h := fedges_any D P T Q code n w' OK.out (SN.out _ x) hcode.1 hcode.2 hn.1 hn.2; exact h)
  have K7 := Lib.hid (fun w' (x : Ext V w') => show Calls Try.prog 31 #[.agg #[.int .i64 D.sum, .int .i64 D.design, .int .i64 D.first, .slice P.xc D.nc P.zc, .slice P.xw D.nw P.zw, .slice P.xh D.nh P.zh, .slice P.xd D.nd P.zd, .slice P.xi D.ni P.zi, .slice P.xs D.ns P.zs, .slice P.xk D.nk P.zk, .slice P.xp D.np P.zp, .int .i64 T.size, .int .i64 T.step, .int .i64 T.up, .int .i64 T.down, .slice Q.xt T.nt Q.zt], .int .i64 code, .int .i64 (clampN T n)] w' (Ret w' (.tuple #[.int .i64 (edgeV D T code n 2), .int .i64 (edgeV D T code n 3), .int .i64 (errF D T code)])) by have h := fedges_any D P T Q code (clampN T n) w' OK.out (SN.out _ x) hcode.1 hcode.2 (by omega) (by omega); rw [m2, m6] at h; exact h)
  have K8 := Lib.hid (fun w' (x : Ext V w') => show Calls Try.prog 33 #[.agg #[.int .i64 D.sum, .int .i64 D.design, .int .i64 D.first, .slice P.xc D.nc P.zc, .slice P.xw D.nw P.zw, .slice P.xh D.nh P.zh, .slice P.xd D.nd P.zd, .slice P.xi D.ni P.zi, .slice P.xs D.ns P.zs, .slice P.xk D.nk P.zk, .slice P.xp D.np P.zp, .int .i64 T.size, .int .i64 T.step, .int .i64 T.up, .int .i64 T.down, .slice Q.xt T.nt Q.zt]] w' (Ret w' (.bool true)) by have h := fcheck_any D P T Q w' OK.out (SN.out _ x) ; rw [hF] at h; exact h)
  have K9 := Lib.hid (fun w' (x : Ext V w') => show Calls Try.prog 35 #[.agg #[.int .i64 D.sum, .int .i64 D.design, .int .i64 D.first, .slice P.xc D.nc P.zc, .slice P.xw D.nw P.zw, .slice P.xh D.nh P.zh, .slice P.xd D.nd P.zd, .slice P.xi D.ni P.zi, .slice P.xs D.ns P.zs, .slice P.xk D.nk P.zk, .slice P.xp D.np P.zp, .int .i64 T.size, .int .i64 T.step, .int .i64 T.up, .int .i64 T.down, .slice Q.xt T.nt Q.zt], .int .i64 (clampN T n)] w' (Ret w' (.int .i64 (clampN T n))) by have h := fclamp_any D P T Q (clampN T n) w' OK.out (SN.out _ x) (by omega) (by omega); rw [m5] at h; exact h)
  clear hcode hF I hk0 m1 m2 m3 m4 m5 m6 OK SN
  generalize clampN T n = k at *
  obtain ⟨n1, n2⟩ := hn
  obtain ⟨ka, kb⟩ := hk
  generalize widthV D T code n = wv at *
  generalize errF D T code = er at *
  generalize kernV D T fix n = kv at *
  generalize kernE D T fix = ke at *
  generalize edgeV D T code n 2 = lv at *
  generalize edgeV D T code n 3 = rv at *
  clear ok sn
  unfold faceV
  go_enter Try.func10, Try.ntmps10
  go_upto_region 1 with (fail)
  rw [← hV]
  clear hV
  generalize w.heap.size = B at *
  have HG := Lib.hid kF
  have HW := Lib.hid W0
  clear kF W0
  go_wp2_with fail
  refine (awake_any _).mono ?_; rintro e w1 ⟨rfl, x1⟩
  have X1 := Lib.hid x1
  have HG1 := Lib.hid (HG.out.ext x1)
  clear x1
  have q0 : w1.cell? ⟨B, 0, none⟩ = some (.int .i64 D.sum) := HG1.out.cell 0
  have q1 : w1.cell? ⟨B, 1, none⟩ = some (.int .i64 D.design) := HG1.out.cell 1
  have q2 : w1.cell? ⟨B, 2, none⟩ = some (.int .i64 D.first) := HG1.out.cell 2
  have q3 : w1.cell? ⟨B, 3, none⟩ = some (.slice P.xc D.nc P.zc) := HG1.out.cell 3
  have q4 : w1.cell? ⟨B, 4, none⟩ = some (.slice P.xw D.nw P.zw) := HG1.out.cell 4
  have q5 : w1.cell? ⟨B, 5, none⟩ = some (.slice P.xh D.nh P.zh) := HG1.out.cell 5
  have q6 : w1.cell? ⟨B, 6, none⟩ = some (.slice P.xd D.nd P.zd) := HG1.out.cell 6
  have q7 : w1.cell? ⟨B, 7, none⟩ = some (.slice P.xi D.ni P.zi) := HG1.out.cell 7
  have q8 : w1.cell? ⟨B, 8, none⟩ = some (.slice P.xs D.ns P.zs) := HG1.out.cell 8
  have q9 : w1.cell? ⟨B, 9, none⟩ = some (.slice P.xk D.nk P.zk) := HG1.out.cell 9
  have q10 : w1.cell? ⟨B, 10, none⟩ = some (.slice P.xp D.np P.zp) := HG1.out.cell 10
  have q11 : w1.cell? ⟨B, 11, none⟩ = some (.int .i64 T.size) := HG1.out.cell 11
  have q12 : w1.cell? ⟨B, 12, none⟩ = some (.int .i64 T.step) := HG1.out.cell 12
  have q13 : w1.cell? ⟨B, 13, none⟩ = some (.int .i64 T.up) := HG1.out.cell 13
  have q14 : w1.cell? ⟨B, 14, none⟩ = some (.int .i64 T.down) := HG1.out.cell 14
  have q15 : w1.cell? ⟨B, 15, none⟩ = some (.slice Q.xt T.nt Q.zt) := HG1.out.cell 15
  go_wp2_with fail
  all_goals first | (go_ret; exact ⟨rfl, HW.out.trans X1.out⟩) | skip
  clear q0 q1 q2 q3 q4 q5 q6 q7 q8 q9 q10 q11 q12 q13 q14 q15
  go_wp2_with (first | (refine wpList_load (by kernel_rfl) 45 _ rfl B rfl [.int .i64 D.sum, .int .i64 D.design, .int .i64 D.first, .slice P.xc D.nc P.zc, .slice P.xw D.nw P.zw, .slice P.xh D.nh P.zh, .slice P.xd D.nd P.zd, .slice P.xi D.ni P.zi, .slice P.xs D.ns P.zs, .slice P.xk D.nk P.zk, .slice P.xp D.np P.zp, .int .i64 T.size, .int .i64 T.step, .int .i64 T.up, .int .i64 T.down, .slice Q.xt T.nt Q.zt] _ HG1.out.range Try.underlying45 rfl (by kernel_rfl) ?_) | fail)
  refine (K1.out _ X1.out).mono ?_; rintro e w2 ⟨rfl, x2⟩
  have X2 := Lib.hid (X1.out.trans x2)
  have HG2 := Lib.hid (HG1.out.ext x2)
  clear x2
  go_wp2_with (first | (refine wpList_load (by kernel_rfl) 45 _ rfl B rfl [.int .i64 D.sum, .int .i64 D.design, .int .i64 D.first, .slice P.xc D.nc P.zc, .slice P.xw D.nw P.zw, .slice P.xh D.nh P.zh, .slice P.xd D.nd P.zd, .slice P.xi D.ni P.zi, .slice P.xs D.ns P.zs, .slice P.xk D.nk P.zk, .slice P.xp D.np P.zp, .int .i64 T.size, .int .i64 T.step, .int .i64 T.up, .int .i64 T.down, .slice Q.xt T.nt Q.zt] _ HG2.out.range Try.underlying45 rfl (by kernel_rfl) ?_) | fail)
  refine (K2.out _ X2.out).mono ?_; rintro e w3 ⟨rfl, x3⟩
  have X3 := Lib.hid (X2.out.trans x3)
  have HG3 := Lib.hid (HG2.out.ext x3)
  clear x3
  go_wp2_with (first | (refine wpList_load (by kernel_rfl) 45 _ rfl B rfl [.int .i64 D.sum, .int .i64 D.design, .int .i64 D.first, .slice P.xc D.nc P.zc, .slice P.xw D.nw P.zw, .slice P.xh D.nh P.zh, .slice P.xd D.nd P.zd, .slice P.xi D.ni P.zi, .slice P.xs D.ns P.zs, .slice P.xk D.nk P.zk, .slice P.xp D.np P.zp, .int .i64 T.size, .int .i64 T.step, .int .i64 T.up, .int .i64 T.down, .slice Q.xt T.nt Q.zt] _ HG3.out.range Try.underlying45 rfl (by kernel_rfl) ?_) | fail)
  refine (K3.out _ X3.out).mono ?_; rintro e w4 ⟨rfl, x4⟩
  have X4 := Lib.hid (X3.out.trans x4)
  have HG4 := Lib.hid (HG3.out.ext x4)
  clear x4
  go_wp2_with (first | (refine wpList_load (by kernel_rfl) 45 _ rfl B rfl [.int .i64 D.sum, .int .i64 D.design, .int .i64 D.first, .slice P.xc D.nc P.zc, .slice P.xw D.nw P.zw, .slice P.xh D.nh P.zh, .slice P.xd D.nd P.zd, .slice P.xi D.ni P.zi, .slice P.xs D.ns P.zs, .slice P.xk D.nk P.zk, .slice P.xp D.np P.zp, .int .i64 T.size, .int .i64 T.step, .int .i64 T.up, .int .i64 T.down, .slice Q.xt T.nt Q.zt] _ HG4.out.range Try.underlying45 rfl (by kernel_rfl) ?_) | fail)
  refine (K4.out _ X4.out).mono ?_; rintro e w5 ⟨rfl, x5⟩
  have X5 := Lib.hid (X4.out.trans x5)
  have HG5 := Lib.hid (HG4.out.ext x5)
  clear x5
  go_wp2_with (first | (refine wpList_load (by kernel_rfl) 45 _ rfl B rfl [.int .i64 D.sum, .int .i64 D.design, .int .i64 D.first, .slice P.xc D.nc P.zc, .slice P.xw D.nw P.zw, .slice P.xh D.nh P.zh, .slice P.xd D.nd P.zd, .slice P.xi D.ni P.zi, .slice P.xs D.ns P.zs, .slice P.xk D.nk P.zk, .slice P.xp D.np P.zp, .int .i64 T.size, .int .i64 T.step, .int .i64 T.up, .int .i64 T.down, .slice Q.xt T.nt Q.zt] _ HG5.out.range Try.underlying45 rfl (by kernel_rfl) ?_) | fail)
  refine (K5.out _ X5.out).mono ?_; rintro e w6 ⟨rfl, x6⟩
  have X6 := Lib.hid (X5.out.trans x6)
  have HG6 := Lib.hid (HG5.out.ext x6)
  clear x6
  go_wp2_with (first | (refine wpList_load (by kernel_rfl) 45 _ rfl B rfl [.int .i64 D.sum, .int .i64 D.design, .int .i64 D.first, .slice P.xc D.nc P.zc, .slice P.xw D.nw P.zw, .slice P.xh D.nh P.zh, .slice P.xd D.nd P.zd, .slice P.xi D.ni P.zi, .slice P.xs D.ns P.zs, .slice P.xk D.nk P.zk, .slice P.xp D.np P.zp, .int .i64 T.size, .int .i64 T.step, .int .i64 T.up, .int .i64 T.down, .slice Q.xt T.nt Q.zt] _ HG6.out.range Try.underlying45 rfl (by kernel_rfl) ?_) | fail)
  refine (K6.out _ X6.out).mono ?_; rintro e w7 ⟨rfl, x7⟩
  have X7 := Lib.hid (X6.out.trans x7)
  have HG7 := Lib.hid (HG6.out.ext x7)
  clear x7
  go_wp2_with (first | (refine wpList_load (by kernel_rfl) 45 _ rfl B rfl [.int .i64 D.sum, .int .i64 D.design, .int .i64 D.first, .slice P.xc D.nc P.zc, .slice P.xw D.nw P.zw, .slice P.xh D.nh P.zh, .slice P.xd D.nd P.zd, .slice P.xi D.ni P.zi, .slice P.xs D.ns P.zs, .slice P.xk D.nk P.zk, .slice P.xp D.np P.zp, .int .i64 T.size, .int .i64 T.step, .int .i64 T.up, .int .i64 T.down, .slice Q.xt T.nt Q.zt] _ HG7.out.range Try.underlying45 rfl (by kernel_rfl) ?_) | fail)
  refine (K7.out _ X7.out).mono ?_; rintro e w8 ⟨rfl, x8⟩
  have X8 := Lib.hid (X7.out.trans x8)
  have HG8 := Lib.hid (HG7.out.ext x8)
  clear x8
  go_wp2_with (first | (refine wpList_load (by kernel_rfl) 45 _ rfl B rfl [.int .i64 D.sum, .int .i64 D.design, .int .i64 D.first, .slice P.xc D.nc P.zc, .slice P.xw D.nw P.zw, .slice P.xh D.nh P.zh, .slice P.xd D.nd P.zd, .slice P.xi D.ni P.zi, .slice P.xs D.ns P.zs, .slice P.xk D.nk P.zk, .slice P.xp D.np P.zp, .int .i64 T.size, .int .i64 T.step, .int .i64 T.up, .int .i64 T.down, .slice Q.xt T.nt Q.zt] _ HG8.out.range Try.underlying45 rfl (by kernel_rfl) ?_) | fail)
  refine (K8.out _ X8.out).mono ?_; rintro e w9 ⟨rfl, x9⟩
  have X9 := Lib.hid (X8.out.trans x9)
  have HG9 := Lib.hid (HG8.out.ext x9)
  clear x9
  go_wp2_with (first | (refine wpList_load (by kernel_rfl) 45 _ rfl B rfl [.int .i64 D.sum, .int .i64 D.design, .int .i64 D.first, .slice P.xc D.nc P.zc, .slice P.xw D.nw P.zw, .slice P.xh D.nh P.zh, .slice P.xd D.nd P.zd, .slice P.xi D.ni P.zi, .slice P.xs D.ns P.zs, .slice P.xk D.nk P.zk, .slice P.xp D.np P.zp, .int .i64 T.size, .int .i64 T.step, .int .i64 T.up, .int .i64 T.down, .slice Q.xt T.nt Q.zt] _ HG9.out.range Try.underlying45 rfl (by kernel_rfl) ?_) | fail)
  refine (K9.out _ X9.out).mono ?_; rintro e w10 ⟨rfl, x10⟩
  have X10 := Lib.hid (X9.out.trans x10)
  have HG10 := Lib.hid (HG9.out.ext x10)
  clear x10
  have q13 : w10.cell? ⟨B, 13, none⟩ = some (.int .i64 T.up) := HG10.out.cell 13
  have q14 : w10.cell? ⟨B, 14, none⟩ = some (.int .i64 T.down) := HG10.out.cell 14
  go_wp2_with (first | (refine wpList_load (by kernel_rfl) 45 _ rfl B rfl [.int .i64 D.sum, .int .i64 D.design, .int .i64 D.first, .slice P.xc D.nc P.zc, .slice P.xw D.nw P.zw, .slice P.xh D.nh P.zh, .slice P.xd D.nd P.zd, .slice P.xi D.ni P.zi, .slice P.xs D.ns P.zs, .slice P.xk D.nk P.zk, .slice P.xp D.np P.zp, .int .i64 T.size, .int .i64 T.step, .int .i64 T.up, .int .i64 T.down, .slice Q.xt T.nt Q.zt] _ HG10.out.range Try.underlying45 rfl (by kernel_rfl) ?_) | fail)
  go_ret
  exact ⟨rfl, HW.out.trans X10.out⟩

theorem walk (D : FontD) (P : FontP) (T : FaceT) (Q : FaceQ) (ok : FaceOk D P T Q) (code : Int) (hcode : -9223372036854775808 ≤ code ∧ code ≤ 9223372036854775807) (fix : Int) (hfix : -9223372036854775808 ≤ fix ∧ fix ≤ 9223372036854775807) (n : Int) (hn : -9223372036854775808 ≤ n ∧ n ≤ 9223372036854775807) (w : World) (sn : SeenFace w D P T Q) :
    Calls Try.prog 10 #[faceV D P T Q, .int .i64 code, .int .i64 fix, .int .i64 n] w (Ret w (.bool true)) := by
  cases hF : faceB D T with
  | false => exact walk_no D P T Q ok code hcode fix hfix n hn w sn hF
  | true => exact walk_yes D P T Q ok code hcode fix hfix n hn w sn hF

set_option maxRecDepth 100000 in
theorem lifted (os : Os) (started : os.Started) (H : Type) (enc : TypeId × Value → H) :
    ReturnsInHanded {} Try.checked os 10 .any (Rows.levelClampsSpec.pre6 enc Try.prog Try.f10 [] false) (Rows.levelClampsSpec.post enc Try.prog Try.f10 false true false false) := by
  refine law_lift (C := Try.checked) own started (by kernel_rfl) Try.func10 laidOut rfl rfl Try.underlying4 (by kernel_rfl) ?_
    (ChangeSpec.witness6 (enc := enc) (C := Try.checked) false ⟨#[], #[.agg #[.int .i64 0, .int .i64 0, .int .i64 0, .slice none 0 0, .slice none 0 0, .slice none 0 0, .slice none 0 0, .slice none 0 0, .slice none 0 0, .slice none 0 0, .slice none 0 0, .int .i64 0, .int .i64 0, .int .i64 0, .int .i64 0, .slice none 0 0], .int .i64 0, .int .i64 0, .int .i64 0], []⟩ 8 (by kernel_rfl) (by kernel_rfl) (by kernel_rfl) (by kernel_rfl)) ?_
  · intro H ds h
    match ds, h with
    | [_, _, _, _], _ => rfl
  · intro W base args ds p hval hA hlt hwt hsh
    rw [Try.params10] at hA hval
    obtain ⟨v0, vs0, d0, ds0, p0, q0, hargs, rfl, rfl, h0, r0⟩ := trodAll_cons hA
    obtain ⟨v1, vs1, d1, ds1, p1, q1, rfl, rfl, rfl, h1, r1⟩ := trodAll_cons r0
    obtain ⟨v2, vs2, d2, ds2, p2, q2, rfl, rfl, rfl, h2, r2⟩ := trodAll_cons r1
    obtain ⟨v3, vs3, d3, ds3, p3, q3, rfl, rfl, rfl, h3, r3⟩ := trodAll_cons r2
    obtain ⟨rfl, rfl, rfl⟩ := trodAll_nil r3
    obtain rfl : args = #[v0, v1, v2, v3] := by cases args; simp_all
    obtain ⟨D0, P0, T0, Q0, rfl, ok0, hs0⟩ := arg_face (hval 0 45 v0 rfl rfl) h0
    obtain ⟨a1, rfl, rfl, rfl, wf1⟩ := open_int Try.underlying3 (hval 1 3 v1 rfl rfl) h1
    obtain ⟨a2, rfl, rfl, rfl, wf2⟩ := open_int Try.underlying3 (hval 2 3 v2 rfl rfl) h2
    obtain ⟨a3, rfl, rfl, rfl, wf3⟩ := open_int Try.underlying3 (hval 3 3 v3 rfl rfl) h3
    exact walk D0 P0 T0 Q0 ok0 a1 (bounds_i64 wf1) a2 (bounds_i64 wf2) a3 (bounds_i64 wf3) W hs0

theorem holds : Rows.LevelClampsSaid :=
  OpenClaim.holds_of_wide 10 Try.f10 rfl rfl rfl rfl rfl rfl rfl ⟨rfl, rfl, rfl, rfl, rfl⟩ rfl rfl rfl rfl rfl (by kernel_rfl) Try.func10 (by kernel_rfl)
    (of_decide_eq_true (by kernel_rfl)) (by unfold Func.isWrapper; first | (rw [if_pos (by decide +kernel)]; kernel_rfl) | (rw [if_neg (by decide +kernel)]; exact ⟨rfl, rfl⟩))
    (fun os started H enc _ => lifted os started H enc)
end LevelClamps
end Go.Proofs.Ytpkmpbpifbpomaa

