/- The landed calls of layer 9: Kern; Edges, whole. -/
import Derived.Test.YtpkmpbpifbpomaaLevJ09
namespace Go.Proofs.Ytpkmpbpifbpomaa
open Go.RowKit Go.Lib
namespace L09
open L02 L07 L08

theorem fedges_any (D : FontD) (P : FontP) (T : FaceT) (Q : FaceQ) (code n : Int) (w : World) (ok : FaceOk D P T Q) (sn : SeenFace w D P T Q) (c1 : -9223372036854775808 ≤ code) (c2 : code ≤ 9223372036854775807) (n1 : -9223372036854775808 ≤ n) (n2 : n ≤ 9223372036854775807) :
    Calls Try.prog 31 #[.agg #[.int .i64 D.sum, .int .i64 D.design, .int .i64 D.first, .slice P.xc D.nc P.zc, .slice P.xw D.nw P.zw, .slice P.xh D.nh P.zh, .slice P.xd D.nd P.zd, .slice P.xi D.ni P.zi, .slice P.xs D.ns P.zs, .slice P.xk D.nk P.zk, .slice P.xp D.np P.zp, .int .i64 T.size, .int .i64 T.step, .int .i64 T.up, .int .i64 T.down, .slice Q.xt T.nt Q.zt], .int .i64 code, .int .i64 n] w (Ret w (.tuple #[.int .i64 (edgeV D T code n 2), .int .i64 (edgeV D T code n 3), .int .i64 (errF D T code)])) := by
  rcases err_cases D T code with ⟨a, b, e⟩ | ⟨e, h⟩
  · have H := fedges_yes D P T Q code n w ok sn c1 c2 n1 n2 a b
    rw [edgeV, if_pos e, edgeV, if_pos e, e]; exact H
  · have H := fedges_no D P T Q code n w ok sn c1 c2 n1 n2 h
    rw [edgeV, if_neg (by omega), edgeV, if_neg (by omega)]; exact H

theorem thousand (x m : Int) : x * (m * 1000) / 1000000 = x * m / 1000 := by
  rw [← Int.mul_assoc, show (1000000 : Int) = 1000 * 1000 from rfl]
  exact Int.mul_ediv_mul_of_pos_left _ _ (by omega)

set_option maxRecDepth 100000 in
set_option maxHeartbeats 4000000 in
theorem fkern_none (D : FontD) (P : FontP) (T : FaceT) (Q : FaceQ) (fix n : Int) (w : World) (ok : FaceOk D P T Q) (sn : SeenFace w D P T Q) (h1 : faceB D T = false) :
    Calls Try.prog 29 #[.agg #[.int .i64 D.sum, .int .i64 D.design, .int .i64 D.first, .slice P.xc D.nc P.zc, .slice P.xw D.nw P.zw, .slice P.xh D.nh P.zh, .slice P.xd D.nd P.zd, .slice P.xi D.ni P.zi, .slice P.xs D.ns P.zs, .slice P.xk D.nk P.zk, .slice P.xp D.np P.zp, .int .i64 T.size, .int .i64 T.step, .int .i64 T.up, .int .i64 T.down, .slice Q.xt T.nt Q.zt], .int .i64 fix, .int .i64 n] w (Ret w (.tuple #[.int .i64 0, .int .i64 90])) := by
  obtain ⟨V, hV⟩ : ∃ V, V = w.alloc (.cells #[.int .i64 D.sum, .int .i64 D.design, .int .i64 D.first, .slice P.xc D.nc P.zc, .slice P.xw D.nw P.zw, .slice P.xh D.nh P.zh, .slice P.xd D.nd P.zd, .slice P.xi D.ni P.zi, .slice P.xs D.ns P.zs, .slice P.xk D.nk P.zk, .slice P.xp D.np P.zp, .int .i64 T.size, .int .i64 T.step, .int .i64 T.up, .int .i64 T.down, .slice Q.xt T.nt Q.zt] 45) := ⟨_, rfl⟩
  have W0 : Ext w V := by rw [hV]; exact (Ext.refl _).alloc _
  have kF : Blk V w.heap.size 45 [.int .i64 D.sum, .int .i64 D.design, .int .i64 D.first, .slice P.xc D.nc P.zc, .slice P.xw D.nw P.zw, .slice P.xh D.nh P.zh, .slice P.xd D.nd P.zd, .slice P.xi D.ni P.zi, .slice P.xs D.ns P.zs, .slice P.xk D.nk P.zk, .slice P.xp D.np P.zp, .int .i64 T.size, .int .i64 T.step, .int .i64 T.up, .int .i64 T.down, .slice Q.xt T.nt Q.zt] := by rw [hV]; exact Blk.lit _ _ _ _ rfl
  have KN := Lib.hid (at_no D P T Q n V ok (sn.ext W0) h1)
  clear ok sn h1
  go_enter Try.func29, Try.ntmps29
  go_upto_region 1 with (fail)
  rw [← hV]
  clear hV
  generalize w.heap.size = B at *
  have HG := Lib.hid kF
  clear kF
  go_wp2_with (first | (refine wpList_load_mid rfl 45 _ rfl B 0 rfl [.int .i64 D.sum, .int .i64 D.design, .int .i64 D.first, .slice P.xc D.nc P.zc, .slice P.xw D.nw P.zw, .slice P.xh D.nh P.zh, .slice P.xd D.nd P.zd, .slice P.xi D.ni P.zi, .slice P.xs D.ns P.zs, .slice P.xk D.nk P.zk, .slice P.xp D.np P.zp, .int .i64 T.size, .int .i64 T.step, .int .i64 T.up, .int .i64 T.down, .slice Q.xt T.nt Q.zt] _ HG.out.range Try.underlying45 rfl (by kernel_rfl) ?_) | fail)
  refine KN.out.mono ?_; rintro e w1 ⟨rfl, x1⟩
  go_upto_region 2 with (fail)
  have X2 := Lib.hid (x1.alloc (.cells #[.int .i64 0, .int .i64 0, .int .i64 0, .slice none 0 0, .slice none 0 0, .slice none 0 0, .slice none 0 0, .slice none 0 0, .slice none 0 0, .slice none 0 0, .slice none 0 0, .int .i64 0, .int .i64 0, .int .i64 0, .int .i64 0, .slice none 0 0, .int .i64 0] 91))
  generalize w1.alloc (.cells #[.int .i64 0, .int .i64 0, .int .i64 0, .slice none 0 0, .slice none 0 0, .slice none 0 0, .slice none 0 0, .slice none 0 0, .slice none 0 0, .slice none 0 0, .slice none 0 0, .int .i64 0, .int .i64 0, .int .i64 0, .int .i64 0, .slice none 0 0, .int .i64 0] 91) = V2 at *
  go_wp2_with fail
  go_ret2
  exact ⟨rfl, W0.trans X2.out⟩

set_option maxRecDepth 100000 in
set_option maxHeartbeats 4000000 in
theorem fkern_some (D : FontD) (P : FontP) (T : FaceT) (Q : FaceQ) (fix n : Int) (w : World) (ok : FaceOk D P T Q) (sn : SeenFace w D P T Q) (n1 : -9223372036854775808 ≤ n) (n2 : n ≤ 9223372036854775807) (h1 : faceB D T = true) :
    Calls Try.prog 29 #[.agg #[.int .i64 D.sum, .int .i64 D.design, .int .i64 D.first, .slice P.xc D.nc P.zc, .slice P.xw D.nw P.zw, .slice P.xh D.nh P.zh, .slice P.xd D.nd P.zd, .slice P.xi D.ni P.zi, .slice P.xs D.ns P.zs, .slice P.xk D.nk P.zk, .slice P.xp D.np P.zp, .int .i64 T.size, .int .i64 T.step, .int .i64 T.up, .int .i64 T.down, .slice Q.xt T.nt Q.zt], .int .i64 fix, .int .i64 n] w (Ret w (.tuple #[.int .i64 (if fixB fix = true then kernN T fix (clampN T n) else 0), .int .i64 (if fixB fix = true then 0 else 90)])) := by
  obtain ⟨V, hV⟩ : ∃ V, V = w.alloc (.cells #[.int .i64 D.sum, .int .i64 D.design, .int .i64 D.first, .slice P.xc D.nc P.zc, .slice P.xw D.nw P.zw, .slice P.xh D.nh P.zh, .slice P.xd D.nd P.zd, .slice P.xi D.ni P.zi, .slice P.xs D.ns P.zs, .slice P.xk D.nk P.zk, .slice P.xp D.np P.zp, .int .i64 T.size, .int .i64 T.step, .int .i64 T.up, .int .i64 T.down, .slice Q.xt T.nt Q.zt] 45) := ⟨_, rfl⟩
  have W0 : Ext w V := by rw [hV]; exact (Ext.refl _).alloc _
  have kF : Blk V w.heap.size 45 [.int .i64 D.sum, .int .i64 D.design, .int .i64 D.first, .slice P.xc D.nc P.zc, .slice P.xw D.nw P.zw, .slice P.xh D.nh P.zh, .slice P.xd D.nd P.zd, .slice P.xi D.ni P.zi, .slice P.xs D.ns P.zs, .slice P.xk D.nk P.zk, .slice P.xp D.np P.zp, .int .i64 T.size, .int .i64 T.step, .int .i64 T.up, .int .i64 T.down, .slice Q.xt T.nt Q.zt] := by rw [hV]; exact Blk.lit _ _ _ _ rfl
  have KY := Lib.hid (at_yes D P T Q n V ok (sn.ext W0) h1 n1 n2)
  have I := (face_in h1).1
  have CL := clamp_in I n
  have C0 := Lib.hid (fun w' => show Calls Try.prog 62 #[.int .i64 fix, .int .i64 (-16777216), .int .i64 16777215] w' _ from lwithin_any fix (-16777216) 16777215 w')
  rw [wi_fix] at C0
  have C1 := Lib.hid (fun (h : fixB fix = true) w' => points_any D P T Q (clampN T n) fix w' I (by simp [fixB] at h; omega) (by simp [fixB] at h; omega))
  have C2 := Lib.hid (fun (h : fixB fix = true) w' => stretched_any D P T Q (clampN T n) (pts T fix) 1000 w' I (pts_in I (by simp [fixB] at h; omega) (by simp [fixB] at h; omega)).2.2.1 (pts_in I (by simp [fixB] at h; omega) (by simp [fixB] at h; omega)).2.2.2 CL.1 CL.2 (by omega) (by omega))
  have HE := Lib.hid (show pts T fix + pts T fix * (clampN T n * T.step * 1000) / 1000000 = kernN T fix (clampN T n) by rw [kernN, thousand])
  clear ok sn n1 n2 h1 I CL
  generalize kernN T fix (clampN T n) = kv at *
  generalize clampN T n = lv at *
  generalize pts T fix = pv at *
  have RV : Hid (∃ v e, (if fixB fix = true then kv else 0) = v ∧ (if fixB fix = true then (0 : Int) else 90) = e) := Lib.hid ⟨_, _, rfl, rfl⟩
  obtain ⟨rv, re, e1, e2⟩ := RV.out
  rw [e1, e2]
  have E1 := Lib.hid e1
  have E2 := Lib.hid e2
  clear RV e1 e2
  go_enter Try.func29, Try.ntmps29
  go_upto_region 1 with (fail)
  rw [← hV]
  clear hV
  generalize w.heap.size = B at *
  have HG := Lib.hid kF
  clear kF
  go_wp2_with (first | (refine wpList_load_mid rfl 45 _ rfl B 0 rfl [.int .i64 D.sum, .int .i64 D.design, .int .i64 D.first, .slice P.xc D.nc P.zc, .slice P.xw D.nw P.zw, .slice P.xh D.nh P.zh, .slice P.xd D.nd P.zd, .slice P.xi D.ni P.zi, .slice P.xs D.ns P.zs, .slice P.xk D.nk P.zk, .slice P.xp D.np P.zp, .int .i64 T.size, .int .i64 T.step, .int .i64 T.up, .int .i64 T.down, .slice Q.xt T.nt Q.zt] _ HG.out.range Try.underlying45 rfl (by kernel_rfl) ?_) | fail)
  refine KY.out.mono ?_; rintro e w1 ⟨rfl, x1⟩
  go_upto_region 2 with (fail)
  have X2 := Lib.hid (x1.alloc (.cells #[.int .i64 D.sum, .int .i64 D.design, .int .i64 D.first, .slice P.xc D.nc P.zc, .slice P.xw D.nw P.zw, .slice P.xh D.nh P.zh, .slice P.xd D.nd P.zd, .slice P.xi D.ni P.zi, .slice P.xs D.ns P.zs, .slice P.xk D.nk P.zk, .slice P.xp D.np P.zp, .int .i64 T.size, .int .i64 T.step, .int .i64 T.up, .int .i64 T.down, .slice Q.xt T.nt Q.zt, .int .i64 lv] 91))
  have HL2 := Lib.hid (Blk.lit w1 w1.heap.size 91 #[.int .i64 D.sum, .int .i64 D.design, .int .i64 D.first, .slice P.xc D.nc P.zc, .slice P.xw D.nw P.zw, .slice P.xh D.nh P.zh, .slice P.xd D.nd P.zd, .slice P.xi D.ni P.zi, .slice P.xs D.ns P.zs, .slice P.xk D.nk P.zk, .slice P.xp D.np P.zp, .int .i64 T.size, .int .i64 T.step, .int .i64 T.up, .int .i64 T.down, .slice Q.xt T.nt Q.zt, .int .i64 lv] rfl)
  generalize w1.alloc (.cells #[.int .i64 D.sum, .int .i64 D.design, .int .i64 D.first, .slice P.xc D.nc P.zc, .slice P.xw D.nw P.zw, .slice P.xh D.nh P.zh, .slice P.xd D.nd P.zd, .slice P.xi D.ni P.zi, .slice P.xs D.ns P.zs, .slice P.xk D.nk P.zk, .slice P.xp D.np P.zp, .int .i64 T.size, .int .i64 T.step, .int .i64 T.up, .int .i64 T.down, .slice Q.xt T.nt Q.zt, .int .i64 lv] 91) = V2 at *
  generalize w1.heap.size = L at *
  go_wp2_with fail
  refine (C0.out _).mono ?_; rintro e w' ⟨rfl, rfl⟩
  cases hx : fixB fix with
  | false =>
    have E1 := Lib.hid (show 0 = rv by rw [← E1.out, hx]; rfl)
    have E2 := Lib.hid (show 90 = re by rw [← E2.out, hx]; rfl)
    clear hx
    go_wp2_with fail
    go_ret2
    exact ⟨ret_two E1.out E2.out, W0.trans X2.out⟩
  | true =>
    have E1 := Lib.hid (show pv + pv * (lv * T.step * 1000) / 1000000 = rv by rw [← E1.out, hx, HE.out]; rfl)
    have E2 := Lib.hid (show 0 = re by rw [← E2.out, hx]; rfl)
    have D1 := fun d os => C1.out hx (Sort.grow (redrawn V2 d) os)
    have D2 := fun d os => C2.out hx (Sort.grow (redrawn V2 d) os)
    have RG := Lib.hid (range_regrown HL2.out)
    have SOME := Lib.hid (some_regrown V2)
    clear hx
    go_wp2_with fail
    refine wp_region_quiet_below (by kernel_rfl) (by kernel_rfl) ?_
    repeat (first | (go_big_quiet_want; refine quiet_load 91 L rfl _ RG.out SOME.out Try.underlying91 rfl (by kernel_rfl) ?_; go_big_quiet_op; go_big_quiet_on) | go_big_quiet_step (first | (with_reducible exact rg (D1 _ _)) | (with_reducible exact rg (D2 _ _))))
    refine wpQuiet_nil ?_
    intro _ hw'
    obtain ⟨⟨dq, osq⟩, hw''⟩ := hw'
    subst hw''
    have z5 : Ext V2 (Sort.grow (redrawn V2 dq) osq) := below_regrown _ _ _
    clear D1 D2
    go_wp2_with fail
    go_ret2
    exact ⟨ret_two E1.out E2.out, (W0.trans X2.out).trans z5⟩

theorem fkern_any (D : FontD) (P : FontP) (T : FaceT) (Q : FaceQ) (fix n : Int) (w : World) (ok : FaceOk D P T Q) (sn : SeenFace w D P T Q) (n1 : -9223372036854775808 ≤ n) (n2 : n ≤ 9223372036854775807) :
    Calls Try.prog 29 #[.agg #[.int .i64 D.sum, .int .i64 D.design, .int .i64 D.first, .slice P.xc D.nc P.zc, .slice P.xw D.nw P.zw, .slice P.xh D.nh P.zh, .slice P.xd D.nd P.zd, .slice P.xi D.ni P.zi, .slice P.xs D.ns P.zs, .slice P.xk D.nk P.zk, .slice P.xp D.np P.zp, .int .i64 T.size, .int .i64 T.step, .int .i64 T.up, .int .i64 T.down, .slice Q.xt T.nt Q.zt], .int .i64 fix, .int .i64 n] w (Ret w (.tuple #[.int .i64 (kernV D T fix n), .int .i64 (kernE D T fix)])) := by
  cases h : faceB D T with
  | false =>
    have H := fkern_none D P T Q fix n w ok sn h
    simpa [kernV, kernE, h] using H
  | true =>
    have H := fkern_some D P T Q fix n w ok sn n1 n2 h
    cases hx : fixB fix with
    | false => simpa [kernV, kernE, h, hx] using H
    | true => simpa [kernV, kernE, h, hx] using H
end L09
end Go.Proofs.Ytpkmpbpifbpomaa

