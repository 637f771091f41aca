/- LevelTells: whether any face may be, its nearest level, any character's width, any kern, and how much stands out, at any level, are what the document says, or its error (at most three hundred of each): for every input. -/
import Derived.Test.YtpkmpbpifbpomaaRLevM09
namespace Go.Proofs.Ytpkmpbpifbpomaa
open Go.ChangeShapes Go.WideShapes Go.ChangeAt Go.RowKit Go.Lib
namespace LevelTells
open L02 L07 L08 L09


set_option maxRecDepth 100000 in
set_option maxHeartbeats 16000000 in
theorem core (D : FontD) (P : FontP) (T : FaceT) (Q : FaceQ) (code fix n wv er kv ke lv rv cv : Int) (ck : Bool) (w : World) (_ : -9223372036854775808 ≤ n) (_ : n ≤ 9223372036854775807)
    (K1 : ∀ w', Ext w w' → Calls Try.prog 27 #[.agg #[.int .i64 D.sum, .int .i64 D.design, .int .i64 D.first, .slice P.xc D.nc P.zc, .slice P.xw D.nw P.zw, .slice P.xh D.nh P.zh, .slice P.xd D.nd P.zd, .slice P.xi D.ni P.zi, .slice P.xs D.ns P.zs, .slice P.xk D.nk P.zk, .slice P.xp D.np P.zp, .int .i64 T.size, .int .i64 T.step, .int .i64 T.up, .int .i64 T.down, .slice Q.xt T.nt Q.zt], .int .i64 code, .int .i64 n] w' (Ret w' (.tuple #[.int .i64 (wv), .int .i64 (er)])))
    (K2 : ∀ w', Ext w w' → Calls Try.prog 28 #[.agg #[.int .i64 D.sum, .int .i64 D.design, .int .i64 D.first, .slice P.xc D.nc P.zc, .slice P.xw D.nw P.zw, .slice P.xh D.nh P.zh, .slice P.xd D.nd P.zd, .slice P.xi D.ni P.zi, .slice P.xs D.ns P.zs, .slice P.xk D.nk P.zk, .slice P.xp D.np P.zp, .int .i64 T.size, .int .i64 T.step, .int .i64 T.up, .int .i64 T.down, .slice Q.xt T.nt Q.zt], .int .i64 code, .int .i64 n] w' (Ret w' (.tuple #[.int .i64 (wv), .int .i64 (er)])))
    (K3 : ∀ w', Ext w w' → Calls Try.prog 29 #[.agg #[.int .i64 D.sum, .int .i64 D.design, .int .i64 D.first, .slice P.xc D.nc P.zc, .slice P.xw D.nw P.zw, .slice P.xh D.nh P.zh, .slice P.xd D.nd P.zd, .slice P.xi D.ni P.zi, .slice P.xs D.ns P.zs, .slice P.xk D.nk P.zk, .slice P.xp D.np P.zp, .int .i64 T.size, .int .i64 T.step, .int .i64 T.up, .int .i64 T.down, .slice Q.xt T.nt Q.zt], .int .i64 fix, .int .i64 n] w' (Ret w' (.tuple #[.int .i64 (kv), .int .i64 (ke)])))
    (K4 : ∀ w', Ext w w' → Calls Try.prog 30 #[.agg #[.int .i64 D.sum, .int .i64 D.design, .int .i64 D.first, .slice P.xc D.nc P.zc, .slice P.xw D.nw P.zw, .slice P.xh D.nh P.zh, .slice P.xd D.nd P.zd, .slice P.xi D.ni P.zi, .slice P.xs D.ns P.zs, .slice P.xk D.nk P.zk, .slice P.xp D.np P.zp, .int .i64 T.size, .int .i64 T.step, .int .i64 T.up, .int .i64 T.down, .slice Q.xt T.nt Q.zt], .int .i64 fix, .int .i64 n] w' (Ret w' (.tuple #[.int .i64 (kv), .int .i64 (ke)])))
    (K5 : ∀ w', Ext w w' → Calls Try.prog 31 #[.agg #[.int .i64 D.sum, .int .i64 D.design, .int .i64 D.first, .slice P.xc D.nc P.zc, .slice P.xw D.nw P.zw, .slice P.xh D.nh P.zh, .slice P.xd D.nd P.zd, .slice P.xi D.ni P.zi, .slice P.xs D.ns P.zs, .slice P.xk D.nk P.zk, .slice P.xp D.np P.zp, .int .i64 T.size, .int .i64 T.step, .int .i64 T.up, .int .i64 T.down, .slice Q.xt T.nt Q.zt], .int .i64 code, .int .i64 n] w' (Ret w' (.tuple #[.int .i64 (lv), .int .i64 (rv), .int .i64 (er)])))
    (K6 : ∀ w', Ext w w' → Calls Try.prog 32 #[.agg #[.int .i64 D.sum, .int .i64 D.design, .int .i64 D.first, .slice P.xc D.nc P.zc, .slice P.xw D.nw P.zw, .slice P.xh D.nh P.zh, .slice P.xd D.nd P.zd, .slice P.xi D.ni P.zi, .slice P.xs D.ns P.zs, .slice P.xk D.nk P.zk, .slice P.xp D.np P.zp, .int .i64 T.size, .int .i64 T.step, .int .i64 T.up, .int .i64 T.down, .slice Q.xt T.nt Q.zt], .int .i64 code, .int .i64 n] w' (Ret w' (.tuple #[.int .i64 (lv), .int .i64 (rv), .int .i64 (er)])))
    (K7 : ∀ w', Ext w w' → Calls Try.prog 33 #[.agg #[.int .i64 D.sum, .int .i64 D.design, .int .i64 D.first, .slice P.xc D.nc P.zc, .slice P.xw D.nw P.zw, .slice P.xh D.nh P.zh, .slice P.xd D.nd P.zd, .slice P.xi D.ni P.zi, .slice P.xs D.ns P.zs, .slice P.xk D.nk P.zk, .slice P.xp D.np P.zp, .int .i64 T.size, .int .i64 T.step, .int .i64 T.up, .int .i64 T.down, .slice Q.xt T.nt Q.zt]] w' (Ret w' (.bool ck)))
    (K8 : ∀ w', Ext w w' → Calls Try.prog 34 #[.agg #[.int .i64 D.sum, .int .i64 D.design, .int .i64 D.first, .slice P.xc D.nc P.zc, .slice P.xw D.nw P.zw, .slice P.xh D.nh P.zh, .slice P.xd D.nd P.zd, .slice P.xi D.ni P.zi, .slice P.xs D.ns P.zs, .slice P.xk D.nk P.zk, .slice P.xp D.np P.zp, .int .i64 T.size, .int .i64 T.step, .int .i64 T.up, .int .i64 T.down, .slice Q.xt T.nt Q.zt]] w' (Ret w' (.bool ck)))
    (K9 : ∀ w', Ext w w' → Calls Try.prog 35 #[.agg #[.int .i64 D.sum, .int .i64 D.design, .int .i64 D.first, .slice P.xc D.nc P.zc, .slice P.xw D.nw P.zw, .slice P.xh D.nh P.zh, .slice P.xd D.nd P.zd, .slice P.xi D.ni P.zi, .slice P.xs D.ns P.zs, .slice P.xk D.nk P.zk, .slice P.xp D.np P.zp, .int .i64 T.size, .int .i64 T.step, .int .i64 T.up, .int .i64 T.down, .slice Q.xt T.nt Q.zt], .int .i64 n] w' (Ret w' (.int .i64 cv)))
    (K10 : ∀ w', Ext w w' → Calls Try.prog 36 #[.agg #[.int .i64 D.sum, .int .i64 D.design, .int .i64 D.first, .slice P.xc D.nc P.zc, .slice P.xw D.nw P.zw, .slice P.xh D.nh P.zh, .slice P.xd D.nd P.zd, .slice P.xi D.ni P.zi, .slice P.xs D.ns P.zs, .slice P.xk D.nk P.zk, .slice P.xp D.np P.zp, .int .i64 T.size, .int .i64 T.step, .int .i64 T.up, .int .i64 T.down, .slice Q.xt T.nt Q.zt], .int .i64 n] w' (Ret w' (.int .i64 cv))) :
    Calls Try.prog 5 #[.agg #[.int .i64 D.sum, .int .i64 D.design, .int .i64 D.first, .slice P.xc D.nc P.zc, .slice P.xw D.nw P.zw, .slice P.xh D.nh P.zh, .slice P.xd D.nd P.zd, .slice P.xi D.ni P.zi, .slice P.xs D.ns P.zs, .slice P.xk D.nk P.zk, .slice P.xp D.np P.zp, .int .i64 T.size, .int .i64 T.step, .int .i64 T.up, .int .i64 T.down, .slice Q.xt T.nt Q.zt], .int .i64 code, .int .i64 fix, .int .i64 n] w (Ret w (.bool true)) := by
  obtain ⟨V, hV⟩ : ∃ V, V = w.alloc (.cells #[.int .i64 D.sum, .int .i64 D.design, .int .i64 D.first, .slice P.xc D.nc P.zc, .slice P.xw D.nw P.zw, .slice P.xh D.nh P.zh, .slice P.xd D.nd P.zd, .slice P.xi D.ni P.zi, .slice P.xs D.ns P.zs, .slice P.xk D.nk P.zk, .slice P.xp D.np P.zp, .int .i64 T.size, .int .i64 T.step, .int .i64 T.up, .int .i64 T.down, .slice Q.xt T.nt Q.zt] 45) := ⟨_, rfl⟩
  have W0 : Ext w V := by rw [hV]; exact (Ext.refl _).alloc _
  have kF : Blk V w.heap.size 45 [.int .i64 D.sum, .int .i64 D.design, .int .i64 D.first, .slice P.xc D.nc P.zc, .slice P.xw D.nw P.zw, .slice P.xh D.nh P.zh, .slice P.xd D.nd P.zd, .slice P.xi D.ni P.zi, .slice P.xs D.ns P.zs, .slice P.xk D.nk P.zk, .slice P.xp D.np P.zp, .int .i64 T.size, .int .i64 T.step, .int .i64 T.up, .int .i64 T.down, .slice Q.xt T.nt Q.zt] := by rw [hV]; exact Blk.lit _ _ _ _ rfl
  have K1 := Lib.hid (fun w' (x : Ext V w') => K1 w' (W0.trans x))
  have K2 := Lib.hid (fun w' (x : Ext V w') => K2 w' (W0.trans x))
  have K3 := Lib.hid (fun w' (x : Ext V w') => K3 w' (W0.trans x))
  have K4 := Lib.hid (fun w' (x : Ext V w') => K4 w' (W0.trans x))
  have K5 := Lib.hid (fun w' (x : Ext V w') => K5 w' (W0.trans x))
  have K6 := Lib.hid (fun w' (x : Ext V w') => K6 w' (W0.trans x))
  have K7 := Lib.hid (fun w' (x : Ext V w') => K7 w' (W0.trans x))
  have K8 := Lib.hid (fun w' (x : Ext V w') => K8 w' (W0.trans x))
  have K9 := Lib.hid (fun w' (x : Ext V w') => K9 w' (W0.trans x))
  have K10 := Lib.hid (fun w' (x : Ext V w') => K10 w' (W0.trans x))
  have KF := Lib.hid (fun w' (_ : Ext V w') => fewf_any D P T Q w')
  go_enter Try.func5, Try.ntmps5
  go_upto_region 1 with (fail)
  rw [← hV]
  clear hV
  generalize w.heap.size = B at *
  have HG := Lib.hid kF
  have HW := Lib.hid W0
  clear kF W0
  go_wp2_with fail
  refine (awake_any _).mono ?_; rintro e w1 ⟨rfl, x1⟩
  have X1 := Lib.hid x1
  have HG1 := Lib.hid (HG.out.ext x1)
  clear x1
  go_wp2_with (first | (refine wpList_load (by kernel_rfl) 45 _ rfl B rfl [.int .i64 D.sum, .int .i64 D.design, .int .i64 D.first, .slice P.xc D.nc P.zc, .slice P.xw D.nw P.zw, .slice P.xh D.nh P.zh, .slice P.xd D.nd P.zd, .slice P.xi D.ni P.zi, .slice P.xs D.ns P.zs, .slice P.xk D.nk P.zk, .slice P.xp D.np P.zp, .int .i64 T.size, .int .i64 T.step, .int .i64 T.up, .int .i64 T.down, .slice Q.xt T.nt Q.zt] _ HG1.out.range Try.underlying45 rfl (by kernel_rfl) ?_) | fail)
  refine (KF.out _ X1.out).mono ?_; rintro e w2 ⟨rfl, x2⟩
  have X2 := Lib.hid (X1.out.trans x2)
  have HG2 := Lib.hid (HG1.out.ext x2)
  clear x2
  cases fewF D T with
  | false =>
    go_wp2_with fail
    go_ret
    exact ⟨rfl, HW.out.trans X2.out⟩
  | true =>
  go_wp2_with (first | (refine wpList_load (by kernel_rfl) 45 _ rfl B rfl [.int .i64 D.sum, .int .i64 D.design, .int .i64 D.first, .slice P.xc D.nc P.zc, .slice P.xw D.nw P.zw, .slice P.xh D.nh P.zh, .slice P.xd D.nd P.zd, .slice P.xi D.ni P.zi, .slice P.xs D.ns P.zs, .slice P.xk D.nk P.zk, .slice P.xp D.np P.zp, .int .i64 T.size, .int .i64 T.step, .int .i64 T.up, .int .i64 T.down, .slice Q.xt T.nt Q.zt] _ HG2.out.range Try.underlying45 rfl (by kernel_rfl) ?_) | fail)
  refine (K1.out _ X2.out).mono ?_; rintro e w3 ⟨rfl, x3⟩
  have X3 := Lib.hid (X2.out.trans x3)
  have HG3 := Lib.hid (HG2.out.ext x3)
  clear x3
  go_wp2_with (first | (refine wpList_load (by kernel_rfl) 45 _ rfl B rfl [.int .i64 D.sum, .int .i64 D.design, .int .i64 D.first, .slice P.xc D.nc P.zc, .slice P.xw D.nw P.zw, .slice P.xh D.nh P.zh, .slice P.xd D.nd P.zd, .slice P.xi D.ni P.zi, .slice P.xs D.ns P.zs, .slice P.xk D.nk P.zk, .slice P.xp D.np P.zp, .int .i64 T.size, .int .i64 T.step, .int .i64 T.up, .int .i64 T.down, .slice Q.xt T.nt Q.zt] _ HG3.out.range Try.underlying45 rfl (by kernel_rfl) ?_) | fail)
  refine (K2.out _ X3.out).mono ?_; rintro e w4 ⟨rfl, x4⟩
  have X4 := Lib.hid (X3.out.trans x4)
  have HG4 := Lib.hid (HG3.out.ext x4)
  clear x4
  go_wp2_with (first | (refine wpList_load (by kernel_rfl) 45 _ rfl B rfl [.int .i64 D.sum, .int .i64 D.design, .int .i64 D.first, .slice P.xc D.nc P.zc, .slice P.xw D.nw P.zw, .slice P.xh D.nh P.zh, .slice P.xd D.nd P.zd, .slice P.xi D.ni P.zi, .slice P.xs D.ns P.zs, .slice P.xk D.nk P.zk, .slice P.xp D.np P.zp, .int .i64 T.size, .int .i64 T.step, .int .i64 T.up, .int .i64 T.down, .slice Q.xt T.nt Q.zt] _ HG4.out.range Try.underlying45 rfl (by kernel_rfl) ?_) | fail)
  refine (K3.out _ X4.out).mono ?_; rintro e w5 ⟨rfl, x5⟩
  have X5 := Lib.hid (X4.out.trans x5)
  have HG5 := Lib.hid (HG4.out.ext x5)
  clear x5
  go_wp2_with (first | (refine wpList_load (by kernel_rfl) 45 _ rfl B rfl [.int .i64 D.sum, .int .i64 D.design, .int .i64 D.first, .slice P.xc D.nc P.zc, .slice P.xw D.nw P.zw, .slice P.xh D.nh P.zh, .slice P.xd D.nd P.zd, .slice P.xi D.ni P.zi, .slice P.xs D.ns P.zs, .slice P.xk D.nk P.zk, .slice P.xp D.np P.zp, .int .i64 T.size, .int .i64 T.step, .int .i64 T.up, .int .i64 T.down, .slice Q.xt T.nt Q.zt] _ HG5.out.range Try.underlying45 rfl (by kernel_rfl) ?_) | fail)
  refine (K4.out _ X5.out).mono ?_; rintro e w6 ⟨rfl, x6⟩
  have X6 := Lib.hid (X5.out.trans x6)
  have HG6 := Lib.hid (HG5.out.ext x6)
  clear x6
  go_wp2_with (first | (refine wpList_load (by kernel_rfl) 45 _ rfl B rfl [.int .i64 D.sum, .int .i64 D.design, .int .i64 D.first, .slice P.xc D.nc P.zc, .slice P.xw D.nw P.zw, .slice P.xh D.nh P.zh, .slice P.xd D.nd P.zd, .slice P.xi D.ni P.zi, .slice P.xs D.ns P.zs, .slice P.xk D.nk P.zk, .slice P.xp D.np P.zp, .int .i64 T.size, .int .i64 T.step, .int .i64 T.up, .int .i64 T.down, .slice Q.xt T.nt Q.zt] _ HG6.out.range Try.underlying45 rfl (by kernel_rfl) ?_) | fail)
  refine (K5.out _ X6.out).mono ?_; rintro e w7 ⟨rfl, x7⟩
  have X7 := Lib.hid (X6.out.trans x7)
  have HG7 := Lib.hid (HG6.out.ext x7)
  clear x7
  go_wp2_with (first | (refine wpList_load (by kernel_rfl) 45 _ rfl B rfl [.int .i64 D.sum, .int .i64 D.design, .int .i64 D.first, .slice P.xc D.nc P.zc, .slice P.xw D.nw P.zw, .slice P.xh D.nh P.zh, .slice P.xd D.nd P.zd, .slice P.xi D.ni P.zi, .slice P.xs D.ns P.zs, .slice P.xk D.nk P.zk, .slice P.xp D.np P.zp, .int .i64 T.size, .int .i64 T.step, .int .i64 T.up, .int .i64 T.down, .slice Q.xt T.nt Q.zt] _ HG7.out.range Try.underlying45 rfl (by kernel_rfl) ?_) | fail)
  refine (K6.out _ X7.out).mono ?_; rintro e w8 ⟨rfl, x8⟩
  have X8 := Lib.hid (X7.out.trans x8)
  have HG8 := Lib.hid (HG7.out.ext x8)
  clear x8
  have D7 := fun d os => K7.out (Sort.grow (redrawn w8 d) os) (X8.out.trans (below_regrown _ _ _))
  have D8 := fun d os => K8.out (Sort.grow (redrawn w8 d) os) (X8.out.trans (below_regrown _ _ _))
  have D9 := fun d os => K9.out (Sort.grow (redrawn w8 d) os) (X8.out.trans (below_regrown _ _ _))
  have D10 := fun d os => K10.out (Sort.grow (redrawn w8 d) os) (X8.out.trans (below_regrown _ _ _))
  have RG := Lib.hid (range_regrown HG8.out)
  have SOME := Lib.hid (some_regrown w8)
  cases ck
  all_goals
    go_wp2_with fail
    refine wp_region_quiet_below (by kernel_rfl) (by kernel_rfl) ?_
    repeat (first | (go_big_quiet_want; refine quiet_load 45 B rfl _ RG.out SOME.out Try.underlying45 rfl (by kernel_rfl) ?_; go_big_quiet_op; go_big_quiet_on) | go_big_quiet_step (first | (with_reducible exact rg (D7 _ _)) | (with_reducible exact rg (D8 _ _)) | (with_reducible exact rg (D9 _ _)) | (with_reducible exact rg (D10 _ _))))
    refine wpQuiet_nil ?_
    intro _ hw'
    obtain ⟨⟨dq, osq⟩, hw''⟩ := hw'
    subst hw''
    have z5 : Ext w8 (Sort.grow (redrawn w8 dq) osq) := below_regrown _ _ _
    clear D7 D8 D9 D10
    go_wp2_with fail
    go_ret
    exact ⟨rfl, (HW.out.trans X8.out).trans z5⟩

set_option maxRecDepth 100000 in
set_option maxHeartbeats 4000000 in
theorem walk (D : FontD) (P : FontP) (T : FaceT) (Q : FaceQ) (ok : FaceOk D P T Q) (code : Int) (hcode : -9223372036854775808 ≤ code ∧ code ≤ 9223372036854775807) (fix : Int) (_ : -9223372036854775808 ≤ fix ∧ fix ≤ 9223372036854775807) (n : Int) (hn : -9223372036854775808 ≤ n ∧ n ≤ 9223372036854775807) (w : World) (sn : SeenFace w D P T Q) :
    Calls Try.prog 5 #[faceV D P T Q, .int .i64 code, .int .i64 fix, .int .i64 n] w (Ret w (.bool true)) := by
  exact core D P T Q code fix n _ _ _ _ _ _ _ _ w hn.1 hn.2 (fun w' x => fwidth_any D P T Q code n w' ok (sn.ext x) hcode.1 hcode.2 hn.1 hn.2) (fun w' x => rfwidth_any D P T Q code n w' ok (sn.ext x) hcode.1 hcode.2)
    (fun w' x => fkern_any D P T Q fix n w' ok (sn.ext x) hn.1 hn.2) (fun w' x => rfkern_any D P T Q fix n w' ok (sn.ext x)) (fun w' x => fedges_any D P T Q code n w' ok (sn.ext x) hcode.1 hcode.2 hn.1 hn.2) (fun w' x => rfedges_any D P T Q code n w' ok (sn.ext x) hcode.1 hcode.2)
    (fun w' x => fcheck_any D P T Q w' ok (sn.ext x)) (fun w' x => rfcheck_any D P T Q w' ok (sn.ext x)) (fun w' x => fclamp_any D P T Q n w' ok (sn.ext x) hn.1 hn.2) (fun w' x => rfclamp_any D P T Q n w' ok (sn.ext x))

set_option maxRecDepth 100000 in
theorem lifted (os : Os) (started : os.Started) (H : Type) (enc : TypeId × Value → H) :
    ReturnsInHanded {} Try.checked os 5 .any (Rows.levelTellsSpec.pre6 enc Try.prog Try.f5 [] false) (Rows.levelTellsSpec.post enc Try.prog Try.f5 false true false false) := by
  refine law_lift (C := Try.checked) own started (by kernel_rfl) Try.func5 laidOut rfl rfl Try.underlying4 (by kernel_rfl) ?_
    (ChangeSpec.witness6 (enc := enc) (C := Try.checked) false ⟨#[], #[.agg #[.int .i64 0, .int .i64 0, .int .i64 0, .slice none 0 0, .slice none 0 0, .slice none 0 0, .slice none 0 0, .slice none 0 0, .slice none 0 0, .slice none 0 0, .slice none 0 0, .int .i64 0, .int .i64 0, .int .i64 0, .int .i64 0, .slice none 0 0], .int .i64 0, .int .i64 0, .int .i64 0], []⟩ 8 (by kernel_rfl) (by kernel_rfl) (by kernel_rfl) (by kernel_rfl)) ?_
  · intro H ds h
    match ds, h with
    | [_, _, _, _], _ => rfl
  · intro W base args ds p hval hA hlt hwt hsh
    rw [Try.params5] at hA hval
    obtain ⟨v0, vs0, d0, ds0, p0, q0, hargs, rfl, rfl, h0, r0⟩ := trodAll_cons hA
    obtain ⟨v1, vs1, d1, ds1, p1, q1, rfl, rfl, rfl, h1, r1⟩ := trodAll_cons r0
    obtain ⟨v2, vs2, d2, ds2, p2, q2, rfl, rfl, rfl, h2, r2⟩ := trodAll_cons r1
    obtain ⟨v3, vs3, d3, ds3, p3, q3, rfl, rfl, rfl, h3, r3⟩ := trodAll_cons r2
    obtain ⟨rfl, rfl, rfl⟩ := trodAll_nil r3
    obtain rfl : args = #[v0, v1, v2, v3] := by cases args; simp_all
    obtain ⟨D0, P0, T0, Q0, rfl, ok0, hs0⟩ := arg_face (hval 0 45 v0 rfl rfl) h0
    obtain ⟨a1, rfl, rfl, rfl, wf1⟩ := open_int Try.underlying3 (hval 1 3 v1 rfl rfl) h1
    obtain ⟨a2, rfl, rfl, rfl, wf2⟩ := open_int Try.underlying3 (hval 2 3 v2 rfl rfl) h2
    obtain ⟨a3, rfl, rfl, rfl, wf3⟩ := open_int Try.underlying3 (hval 3 3 v3 rfl rfl) h3
    exact walk D0 P0 T0 Q0 ok0 a1 (bounds_i64 wf1) a2 (bounds_i64 wf2) a3 (bounds_i64 wf3) W hs0

theorem holds : Rows.LevelTellsSaid :=
  OpenClaim.holds_of_wide 5 Try.f5 rfl rfl rfl rfl rfl rfl rfl ⟨rfl, rfl, rfl, rfl, rfl⟩ rfl rfl rfl rfl rfl (by kernel_rfl) Try.func5 (by kernel_rfl)
    (of_decide_eq_true (by kernel_rfl)) (by unfold Func.isWrapper; first | (rw [if_pos (by decide +kernel)]; kernel_rfl) | (rw [if_neg (by decide +kernel)]; exact ⟨rfl, rfl⟩))
    (fun os started H enc _ => lifted os started H enc)
end LevelTells
end Go.Proofs.Ytpkmpbpifbpomaa

