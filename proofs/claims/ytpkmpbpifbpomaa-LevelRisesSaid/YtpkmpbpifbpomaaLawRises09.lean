/- LevelRises: a greater level has no lesser width of a character that is not below 0, and no lesser kern of such, levels beyond the last ones are as they, and at the level 0 the Step does not matter (at most three hundred of each): for every input. -/
import Derived.Test.YtpkmpbpifbpomaaFew09
namespace Go.Proofs.Ytpkmpbpifbpomaa
open Go.ChangeShapes Go.WideShapes Go.ChangeAt Go.RowKit Go.Lib
namespace LevelRises
open L02 L07 L08 L09


theorem clamp_nought {T : FaceT} (h : FaceIn T) : clampN T 0 = 0 := by
  have := h.up; have := h.down; unfold clampN; omega
theorem wide_nought (D : FontD) (T : FaceT) (code : Int) : wideN D T code 0 = pts T (wfix D code) := by
  rw [wideN, Int.zero_mul, Int.zero_mul, Int.mul_zero]; simp
theorem kern_nought (T : FaceT) (x : Int) : kernN T x 0 = pts T x := by
  rw [kernN, Int.zero_mul, Int.mul_zero]; simp
theorem clamp_mono {T : FaceT} {n m : Int} (h : n ≤ m) : clampN T n ≤ clampN T m := by unfold clampN; omega
theorem rise {x a b c : Int} (hx : 0 ≤ x) (h : a ≤ b) (hc : 0 < c) : x * a / c ≤ x * b / c := Int.ediv_le_ediv hc (Int.mul_le_mul_of_nonneg_left h hx)
theorem err_face {D : FontD} {T : FaceT} {code : Int} (h : errF D T code = 0) : faceB D T = true := by
  cases q : faceB D T with
  | true => rfl
  | false => simp [errF, q] at h
theorem kern_face {D : FontD} {T : FaceT} {fix : Int} (h : kernE D T fix = 0) : faceB D T = true := by
  cases q : faceB D T with
  | true => rfl
  | false => simp [kernE, q] at h
theorem still_face {D : FontD} {T : FaceT} (h : faceB D T = true) : faceB D ⟨T.size, 0, T.up, T.down, T.nt, T.trt⟩ = true := by
  simp only [faceB, Bool.and_eq_true] at h ⊢
  exact ⟨h.1, rfl, h.2.2⟩

set_option maxRecDepth 100000 in
set_option maxHeartbeats 16000000 in
theorem core (D : FontD) (P : FontP) (T : FaceT) (Q : FaceQ) (code fix n more a e b c i d x k cl y l ey ek : Int) (w : World) (n1 : -128 ≤ n) (n2 : n ≤ 127) (m1 : 0 ≤ more) (m2 : more ≤ 255)
    (K1 : ∀ w', Ext w w' → Calls Try.prog 27 #[.agg #[.int .i64 D.sum, .int .i64 D.design, .int .i64 D.first, .slice P.xc D.nc P.zc, .slice P.xw D.nw P.zw, .slice P.xh D.nh P.zh, .slice P.xd D.nd P.zd, .slice P.xi D.ni P.zi, .slice P.xs D.ns P.zs, .slice P.xk D.nk P.zk, .slice P.xp D.np P.zp, .int .i64 T.size, .int .i64 T.step, .int .i64 T.up, .int .i64 T.down, .slice Q.xt T.nt Q.zt], .int .i64 code, .int .i64 n] w' (Ret w' (.tuple #[.int .i64 (a), .int .i64 (e)])))
    (K2 : ∀ w', Ext w w' → Calls Try.prog 27 #[.agg #[.int .i64 D.sum, .int .i64 D.design, .int .i64 D.first, .slice P.xc D.nc P.zc, .slice P.xw D.nw P.zw, .slice P.xh D.nh P.zh, .slice P.xd D.nd P.zd, .slice P.xi D.ni P.zi, .slice P.xs D.ns P.zs, .slice P.xk D.nk P.zk, .slice P.xp D.np P.zp, .int .i64 T.size, .int .i64 T.step, .int .i64 T.up, .int .i64 T.down, .slice Q.xt T.nt Q.zt], .int .i64 code, .int .i64 (n + more)] w' (Ret w' (.tuple #[.int .i64 (b), .int .i64 (e)])))
    (K3 : ∀ w', Ext w w' → Calls Try.prog 29 #[.agg #[.int .i64 D.sum, .int .i64 D.design, .int .i64 D.first, .slice P.xc D.nc P.zc, .slice P.xw D.nw P.zw, .slice P.xh D.nh P.zh, .slice P.xd D.nd P.zd, .slice P.xi D.ni P.zi, .slice P.xs D.ns P.zs, .slice P.xk D.nk P.zk, .slice P.xp D.np P.zp, .int .i64 T.size, .int .i64 T.step, .int .i64 T.up, .int .i64 T.down, .slice Q.xt T.nt Q.zt], .int .i64 fix, .int .i64 n] w' (Ret w' (.tuple #[.int .i64 (c), .int .i64 (i)])))
    (K4 : ∀ w', Ext w w' → Calls Try.prog 29 #[.agg #[.int .i64 D.sum, .int .i64 D.design, .int .i64 D.first, .slice P.xc D.nc P.zc, .slice P.xw D.nw P.zw, .slice P.xh D.nh P.zh, .slice P.xd D.nd P.zd, .slice P.xi D.ni P.zi, .slice P.xs D.ns P.zs, .slice P.xk D.nk P.zk, .slice P.xp D.np P.zp, .int .i64 T.size, .int .i64 T.step, .int .i64 T.up, .int .i64 T.down, .slice Q.xt T.nt Q.zt], .int .i64 fix, .int .i64 (n + more)] w' (Ret w' (.tuple #[.int .i64 (d), .int .i64 (i)])))
    (K5 : ∀ w', Ext w w' → Calls Try.prog 27 #[.agg #[.int .i64 D.sum, .int .i64 D.design, .int .i64 D.first, .slice P.xc D.nc P.zc, .slice P.xw D.nw P.zw, .slice P.xh D.nh P.zh, .slice P.xd D.nd P.zd, .slice P.xi D.ni P.zi, .slice P.xs D.ns P.zs, .slice P.xk D.nk P.zk, .slice P.xp D.np P.zp, .int .i64 T.size, .int .i64 T.step, .int .i64 T.up, .int .i64 T.down, .slice Q.xt T.nt Q.zt], .int .i64 code, .int .i64 0] w' (Ret w' (.tuple #[.int .i64 (x), .int .i64 (e)])))
    (K6 : ∀ w', Ext w w' → Calls Try.prog 29 #[.agg #[.int .i64 D.sum, .int .i64 D.design, .int .i64 D.first, .slice P.xc D.nc P.zc, .slice P.xw D.nw P.zw, .slice P.xh D.nh P.zh, .slice P.xd D.nd P.zd, .slice P.xi D.ni P.zi, .slice P.xs D.ns P.zs, .slice P.xk D.nk P.zk, .slice P.xp D.np P.zp, .int .i64 T.size, .int .i64 T.step, .int .i64 T.up, .int .i64 T.down, .slice Q.xt T.nt Q.zt], .int .i64 fix, .int .i64 0] w' (Ret w' (.tuple #[.int .i64 (k), .int .i64 (i)])))
    (K7 : ∀ w', Ext w w' → Calls Try.prog 35 #[.agg #[.int .i64 D.sum, .int .i64 D.design, .int .i64 D.first, .slice P.xc D.nc P.zc, .slice P.xw D.nw P.zw, .slice P.xh D.nh P.zh, .slice P.xd D.nd P.zd, .slice P.xi D.ni P.zi, .slice P.xs D.ns P.zs, .slice P.xk D.nk P.zk, .slice P.xp D.np P.zp, .int .i64 T.size, .int .i64 T.step, .int .i64 T.up, .int .i64 T.down, .slice Q.xt T.nt Q.zt], .int .i64 n] w' (Ret w' (.int .i64 cl)))
    (K8 : ∀ w', Ext w w' → Calls Try.prog 27 #[.agg #[.int .i64 D.sum, .int .i64 D.design, .int .i64 D.first, .slice P.xc D.nc P.zc, .slice P.xw D.nw P.zw, .slice P.xh D.nh P.zh, .slice P.xd D.nd P.zd, .slice P.xi D.ni P.zi, .slice P.xs D.ns P.zs, .slice P.xk D.nk P.zk, .slice P.xp D.np P.zp, .int .i64 T.size, .int .i64 T.step, .int .i64 T.up, .int .i64 T.down, .slice Q.xt T.nt Q.zt], .int .i64 code, .int .i64 cl] w' (Ret w' (.tuple #[.int .i64 (a), .int .i64 (e)])))
    (K9 : ∀ w', Ext w w' → Calls Try.prog 27 #[.agg #[.int .i64 D.sum, .int .i64 D.design, .int .i64 D.first, .slice P.xc D.nc P.zc, .slice P.xw D.nw P.zw, .slice P.xh D.nh P.zh, .slice P.xd D.nd P.zd, .slice P.xi D.ni P.zi, .slice P.xs D.ns P.zs, .slice P.xk D.nk P.zk, .slice P.xp D.np P.zp, .int .i64 T.size, .int .i64 0, .int .i64 T.up, .int .i64 T.down, .slice Q.xt T.nt Q.zt], .int .i64 code, .int .i64 (n + more)] w' (Ret w' (.tuple #[.int .i64 (y), .int .i64 (ey)])))
    (K10 : ∀ w', Ext w w' → Calls Try.prog 29 #[.agg #[.int .i64 D.sum, .int .i64 D.design, .int .i64 D.first, .slice P.xc D.nc P.zc, .slice P.xw D.nw P.zw, .slice P.xh D.nh P.zh, .slice P.xd D.nd P.zd, .slice P.xi D.ni P.zi, .slice P.xs D.ns P.zs, .slice P.xk D.nk P.zk, .slice P.xp D.np P.zp, .int .i64 T.size, .int .i64 0, .int .i64 T.up, .int .i64 T.down, .slice Q.xt T.nt Q.zt], .int .i64 fix, .int .i64 (n + more)] w' (Ret w' (.tuple #[.int .i64 (l), .int .i64 (ek)])))
    (FIN : (e = 0 → y = x) ∧ (i = 0 → l = k) ∧ (x < 0 ∨ a ≤ b) ∧ (k < 0 ∨ c ≤ d)) :
    Calls Try.prog 6 #[.agg #[.int .i64 D.sum, .int .i64 D.design, .int .i64 D.first, .slice P.xc D.nc P.zc, .slice P.xw D.nw P.zw, .slice P.xh D.nh P.zh, .slice P.xd D.nd P.zd, .slice P.xi D.ni P.zi, .slice P.xs D.ns P.zs, .slice P.xk D.nk P.zk, .slice P.xp D.np P.zp, .int .i64 T.size, .int .i64 T.step, .int .i64 T.up, .int .i64 T.down, .slice Q.xt T.nt Q.zt], .int .i64 code, .int .i64 fix, .int .i8 n, .int .u8 more] w (Ret w (.bool true)) := by
  obtain ⟨V, hV⟩ : ∃ V, V = w.alloc (.cells #[.int .i64 D.sum, .int .i64 D.design, .int .i64 D.first, .slice P.xc D.nc P.zc, .slice P.xw D.nw P.zw, .slice P.xh D.nh P.zh, .slice P.xd D.nd P.zd, .slice P.xi D.ni P.zi, .slice P.xs D.ns P.zs, .slice P.xk D.nk P.zk, .slice P.xp D.np P.zp, .int .i64 T.size, .int .i64 T.step, .int .i64 T.up, .int .i64 T.down, .slice Q.xt T.nt Q.zt] 45) := ⟨_, rfl⟩
  have W0 : Ext w V := by rw [hV]; exact (Ext.refl _).alloc _
  have kF : Blk V w.heap.size 45 [.int .i64 D.sum, .int .i64 D.design, .int .i64 D.first, .slice P.xc D.nc P.zc, .slice P.xw D.nw P.zw, .slice P.xh D.nh P.zh, .slice P.xd D.nd P.zd, .slice P.xi D.ni P.zi, .slice P.xs D.ns P.zs, .slice P.xk D.nk P.zk, .slice P.xp D.np P.zp, .int .i64 T.size, .int .i64 T.step, .int .i64 T.up, .int .i64 T.down, .slice Q.xt T.nt Q.zt] := by rw [hV]; exact Blk.lit _ _ _ _ rfl
  have K1 := Lib.hid (fun w' (x : Ext V w') => K1 w' (W0.trans x))
  have K2 := Lib.hid (fun w' (x : Ext V w') => K2 w' (W0.trans x))
  have K3 := Lib.hid (fun w' (x : Ext V w') => K3 w' (W0.trans x))
  have K4 := Lib.hid (fun w' (x : Ext V w') => K4 w' (W0.trans x))
  have K5 := Lib.hid (fun w' (x : Ext V w') => K5 w' (W0.trans x))
  have K6 := Lib.hid (fun w' (x : Ext V w') => K6 w' (W0.trans x))
  have K7 := Lib.hid (fun w' (x : Ext V w') => K7 w' (W0.trans x))
  have K8 := Lib.hid (fun w' (x : Ext V w') => K8 w' (W0.trans x))
  have K9 := Lib.hid (fun w' (x : Ext V w') => K9 w' (W0.trans x))
  have K10 := Lib.hid (fun w' (x : Ext V w') => K10 w' (W0.trans x))
  have KF := Lib.hid (fun w' (_ : Ext V w') => fewf_any D P T Q w')
  have FIN := Lib.hid FIN
  have e1 : IntKind.i64.wrap n = n := IntWalk.i64_in _ (by omega)
  have e2 : IntKind.i64.wrap more = more := IntWalk.i64_in _ (by omega)
  go_enter Try.func6, Try.ntmps6
  go_upto_region 1 with (fail)
  rw [← hV]
  clear hV
  generalize w.heap.size = B at *
  have HG := Lib.hid kF
  have HW := Lib.hid W0
  clear kF W0
  go_wp2_with fail
  refine (awake_any _).mono ?_; rintro e w1 ⟨rfl, x1⟩
  have X1 := Lib.hid x1
  have HG1 := Lib.hid (HG.out.ext x1)
  clear x1
  go_wp2_with (first | (refine wpList_load (by kernel_rfl) 45 _ rfl B rfl [.int .i64 D.sum, .int .i64 D.design, .int .i64 D.first, .slice P.xc D.nc P.zc, .slice P.xw D.nw P.zw, .slice P.xh D.nh P.zh, .slice P.xd D.nd P.zd, .slice P.xi D.ni P.zi, .slice P.xs D.ns P.zs, .slice P.xk D.nk P.zk, .slice P.xp D.np P.zp, .int .i64 T.size, .int .i64 T.step, .int .i64 T.up, .int .i64 T.down, .slice Q.xt T.nt Q.zt] _ HG1.out.range Try.underlying45 rfl (by kernel_rfl) ?_) | fail)
  refine (KF.out _ X1.out).mono ?_; rintro e w2 ⟨rfl, x2⟩
  have X2 := Lib.hid (X1.out.trans x2)
  have HG2 := Lib.hid (HG1.out.ext x2)
  clear x2
  cases fewF D T with
  | false =>
    go_wp2_with fail
    go_ret
    exact ⟨rfl, HW.out.trans X2.out⟩
  | true =>
  go_wp2_with (first | (refine wpList_load (by kernel_rfl) 45 _ rfl B rfl [.int .i64 D.sum, .int .i64 D.design, .int .i64 D.first, .slice P.xc D.nc P.zc, .slice P.xw D.nw P.zw, .slice P.xh D.nh P.zh, .slice P.xd D.nd P.zd, .slice P.xi D.ni P.zi, .slice P.xs D.ns P.zs, .slice P.xk D.nk P.zk, .slice P.xp D.np P.zp, .int .i64 T.size, .int .i64 T.step, .int .i64 T.up, .int .i64 T.down, .slice Q.xt T.nt Q.zt] _ HG2.out.range Try.underlying45 rfl (by kernel_rfl) ?_) | fail)
  refine (K1.out _ X2.out).mono ?_; rintro e w3 ⟨rfl, x3⟩
  have X3 := Lib.hid (X2.out.trans x3)
  have HG3 := Lib.hid (HG2.out.ext x3)
  clear x3
  go_wp2_with (first | (refine wpList_load (by kernel_rfl) 45 _ rfl B rfl [.int .i64 D.sum, .int .i64 D.design, .int .i64 D.first, .slice P.xc D.nc P.zc, .slice P.xw D.nw P.zw, .slice P.xh D.nh P.zh, .slice P.xd D.nd P.zd, .slice P.xi D.ni P.zi, .slice P.xs D.ns P.zs, .slice P.xk D.nk P.zk, .slice P.xp D.np P.zp, .int .i64 T.size, .int .i64 T.step, .int .i64 T.up, .int .i64 T.down, .slice Q.xt T.nt Q.zt] _ HG3.out.range Try.underlying45 rfl (by kernel_rfl) ?_) | fail)
  refine (K2.out _ X3.out).mono ?_; rintro e w4 ⟨rfl, x4⟩
  have X4 := Lib.hid (X3.out.trans x4)
  have HG4 := Lib.hid (HG3.out.ext x4)
  clear x4
  go_wp2_with (first | (refine wpList_load (by kernel_rfl) 45 _ rfl B rfl [.int .i64 D.sum, .int .i64 D.design, .int .i64 D.first, .slice P.xc D.nc P.zc, .slice P.xw D.nw P.zw, .slice P.xh D.nh P.zh, .slice P.xd D.nd P.zd, .slice P.xi D.ni P.zi, .slice P.xs D.ns P.zs, .slice P.xk D.nk P.zk, .slice P.xp D.np P.zp, .int .i64 T.size, .int .i64 T.step, .int .i64 T.up, .int .i64 T.down, .slice Q.xt T.nt Q.zt] _ HG4.out.range Try.underlying45 rfl (by kernel_rfl) ?_) | fail)
  refine (K3.out _ X4.out).mono ?_; rintro e w5 ⟨rfl, x5⟩
  have X5 := Lib.hid (X4.out.trans x5)
  have HG5 := Lib.hid (HG4.out.ext x5)
  clear x5
  go_wp2_with (first | (refine wpList_load (by kernel_rfl) 45 _ rfl B rfl [.int .i64 D.sum, .int .i64 D.design, .int .i64 D.first, .slice P.xc D.nc P.zc, .slice P.xw D.nw P.zw, .slice P.xh D.nh P.zh, .slice P.xd D.nd P.zd, .slice P.xi D.ni P.zi, .slice P.xs D.ns P.zs, .slice P.xk D.nk P.zk, .slice P.xp D.np P.zp, .int .i64 T.size, .int .i64 T.step, .int .i64 T.up, .int .i64 T.down, .slice Q.xt T.nt Q.zt] _ HG5.out.range Try.underlying45 rfl (by kernel_rfl) ?_) | fail)
  refine (K4.out _ X5.out).mono ?_; rintro e w6 ⟨rfl, x6⟩
  have X6 := Lib.hid (X5.out.trans x6)
  have HG6 := Lib.hid (HG5.out.ext x6)
  clear x6
  go_wp2_with (first | (refine wpList_load (by kernel_rfl) 45 _ rfl B rfl [.int .i64 D.sum, .int .i64 D.design, .int .i64 D.first, .slice P.xc D.nc P.zc, .slice P.xw D.nw P.zw, .slice P.xh D.nh P.zh, .slice P.xd D.nd P.zd, .slice P.xi D.ni P.zi, .slice P.xs D.ns P.zs, .slice P.xk D.nk P.zk, .slice P.xp D.np P.zp, .int .i64 T.size, .int .i64 T.step, .int .i64 T.up, .int .i64 T.down, .slice Q.xt T.nt Q.zt] _ HG6.out.range Try.underlying45 rfl (by kernel_rfl) ?_) | fail)
  refine (K5.out _ X6.out).mono ?_; rintro e w7 ⟨rfl, x7⟩
  have X7 := Lib.hid (X6.out.trans x7)
  have HG7 := Lib.hid (HG6.out.ext x7)
  clear x7
  go_wp2_with (first | (refine wpList_load (by kernel_rfl) 45 _ rfl B rfl [.int .i64 D.sum, .int .i64 D.design, .int .i64 D.first, .slice P.xc D.nc P.zc, .slice P.xw D.nw P.zw, .slice P.xh D.nh P.zh, .slice P.xd D.nd P.zd, .slice P.xi D.ni P.zi, .slice P.xs D.ns P.zs, .slice P.xk D.nk P.zk, .slice P.xp D.np P.zp, .int .i64 T.size, .int .i64 T.step, .int .i64 T.up, .int .i64 T.down, .slice Q.xt T.nt Q.zt] _ HG7.out.range Try.underlying45 rfl (by kernel_rfl) ?_) | fail)
  refine (K6.out _ X7.out).mono ?_; rintro e w8 ⟨rfl, x8⟩
  have X8 := Lib.hid (X7.out.trans x8)
  have HG8 := Lib.hid (HG7.out.ext x8)
  clear x8
  go_wp2_with (first | (refine wpList_load (by kernel_rfl) 45 _ rfl B rfl [.int .i64 D.sum, .int .i64 D.design, .int .i64 D.first, .slice P.xc D.nc P.zc, .slice P.xw D.nw P.zw, .slice P.xh D.nh P.zh, .slice P.xd D.nd P.zd, .slice P.xi D.ni P.zi, .slice P.xs D.ns P.zs, .slice P.xk D.nk P.zk, .slice P.xp D.np P.zp, .int .i64 T.size, .int .i64 T.step, .int .i64 T.up, .int .i64 T.down, .slice Q.xt T.nt Q.zt] _ HG8.out.range Try.underlying45 rfl (by kernel_rfl) ?_) | fail)
  have D7 := fun d os => K7.out (Sort.grow (redrawn w8 d) os) (X8.out.trans (below_regrown _ _ _))
  have D8 := fun d os => K8.out (Sort.grow (redrawn w8 d) os) (X8.out.trans (below_regrown _ _ _))
  have RG := Lib.hid (range_regrown HG8.out)
  have SOME := Lib.hid (some_regrown w8)
  refine wp_region_quiet_below (by kernel_rfl) (by kernel_rfl) ?_
  repeat (first | (go_big_quiet_want; refine quiet_load 45 B rfl _ RG.out SOME.out Try.underlying45 rfl (by kernel_rfl) ?_; go_big_quiet_op; go_big_quiet_on) | go_big_quiet_step (first | (with_reducible exact rg (D7 _ _)) | (with_reducible exact rg (D8 _ _))))
  refine wpQuiet_nil ?_
  intro _ hw'
  obtain ⟨⟨dq, osq⟩, hw''⟩ := hw'
  subst hw''
  have z5 : Ext w8 (Sort.grow (redrawn w8 dq) osq) := below_regrown _ _ _
  clear D7 D8
  generalize Sort.grow (redrawn w8 dq) osq = w9 at *
  have X9 := Lib.hid (X8.out.trans z5)
  have HG9 := Lib.hid (HG8.out.ext z5)
  clear z5
  have XA := Lib.hid (X9.out.alloc (.cells #[.int .i64 D.sum, .int .i64 D.design, .int .i64 D.first, .slice P.xc D.nc P.zc, .slice P.xw D.nw P.zw, .slice P.xh D.nh P.zh, .slice P.xd D.nd P.zd, .slice P.xi D.ni P.zi, .slice P.xs D.ns P.zs, .slice P.xk D.nk P.zk, .slice P.xp D.np P.zp, .int .i64 T.size, .int .i64 0, .int .i64 T.up, .int .i64 T.down, .slice Q.xt T.nt Q.zt] 45))
  have HA1 := Lib.hid (Blk.lit w9 w9.heap.size 45 #[.int .i64 D.sum, .int .i64 D.design, .int .i64 D.first, .slice P.xc D.nc P.zc, .slice P.xw D.nw P.zw, .slice P.xh D.nh P.zh, .slice P.xd D.nd P.zd, .slice P.xi D.ni P.zi, .slice P.xs D.ns P.zs, .slice P.xk D.nk P.zk, .slice P.xp D.np P.zp, .int .i64 T.size, .int .i64 0, .int .i64 T.up, .int .i64 T.down, .slice Q.xt T.nt Q.zt] rfl)
  go_upto_region 14 with (first | (refine wpList_load (by kernel_rfl) 45 _ rfl B rfl [.int .i64 D.sum, .int .i64 D.design, .int .i64 D.first, .slice P.xc D.nc P.zc, .slice P.xw D.nw P.zw, .slice P.xh D.nh P.zh, .slice P.xd D.nd P.zd, .slice P.xi D.ni P.zi, .slice P.xs D.ns P.zs, .slice P.xk D.nk P.zk, .slice P.xp D.np P.zp, .int .i64 T.size, .int .i64 T.step, .int .i64 T.up, .int .i64 T.down, .slice Q.xt T.nt Q.zt] _ HG9.out.range Try.underlying45 rfl (by kernel_rfl) ?_) | fail)
  generalize w9.alloc (.cells #[.int .i64 D.sum, .int .i64 D.design, .int .i64 D.first, .slice P.xc D.nc P.zc, .slice P.xw D.nw P.zw, .slice P.xh D.nh P.zh, .slice P.xd D.nd P.zd, .slice P.xi D.ni P.zi, .slice P.xs D.ns P.zs, .slice P.xk D.nk P.zk, .slice P.xp D.np P.zp, .int .i64 T.size, .int .i64 0, .int .i64 T.up, .int .i64 T.down, .slice Q.xt T.nt Q.zt] 45) = V2 at *
  generalize w9.heap.size = R0 at *
  go_wp2_with (first | (refine wpList_load (by kernel_rfl) 45 _ rfl R0 rfl [.int .i64 D.sum, .int .i64 D.design, .int .i64 D.first, .slice P.xc D.nc P.zc, .slice P.xw D.nw P.zw, .slice P.xh D.nh P.zh, .slice P.xd D.nd P.zd, .slice P.xi D.ni P.zi, .slice P.xs D.ns P.zs, .slice P.xk D.nk P.zk, .slice P.xp D.np P.zp, .int .i64 T.size, .int .i64 0, .int .i64 T.up, .int .i64 T.down, .slice Q.xt T.nt Q.zt] _ HA1.out.range Try.underlying45 rfl (by kernel_rfl) ?_) | fail)
  refine (K9.out _ XA.out).mono ?_; rintro e w10 ⟨rfl, x10⟩
  have X10 := Lib.hid (XA.out.trans x10)
  have HA10 := Lib.hid (HA1.out.ext x10)
  clear x10
  go_wp2_with (first | (refine wpList_load (by kernel_rfl) 45 _ rfl R0 rfl [.int .i64 D.sum, .int .i64 D.design, .int .i64 D.first, .slice P.xc D.nc P.zc, .slice P.xw D.nw P.zw, .slice P.xh D.nh P.zh, .slice P.xd D.nd P.zd, .slice P.xi D.ni P.zi, .slice P.xs D.ns P.zs, .slice P.xk D.nk P.zk, .slice P.xp D.np P.zp, .int .i64 T.size, .int .i64 0, .int .i64 T.up, .int .i64 T.down, .slice Q.xt T.nt Q.zt] _ HA10.out.range Try.underlying45 rfl (by kernel_rfl) ?_) | fail)
  refine (K10.out _ X10.out).mono ?_; rintro e w11 ⟨rfl, x11⟩
  have X11 := Lib.hid ((HW.out.trans X10.out).trans x11)
  clear x11
  have HE : Hid (e = 0 ∨ (e != 0) = true) := Lib.hid (by by_cases q : e = 0; exact .inl q; exact .inr (by simpa using q))
  have HI : Hid (i = 0 ∨ (i != 0) = true) := Lib.hid (by by_cases q : i = 0; exact .inl q; exact .inr (by simpa using q))
  rcases HE.out with he | he <;> rcases HI.out with hi | hi
  all_goals
    have fx : Hid (e = 0 → y = x) := Lib.hid FIN.out.1
    have fk : Hid (i = 0 → l = k) := Lib.hid FIN.out.2.1
    have r1 := FIN.out.2.2.1
    have r2 := FIN.out.2.2.2
    (try (have q := (fx.out he).symm; subst he; subst q))
    (try (have q := (fk.out hi).symm; subst hi; subst q))
    clear fx fk HE HI FIN
    by_cases c1 : x < 0 <;> by_cases c2 : k < 0
    all_goals
      (try (have r1 := r1.resolve_left c1))
      (try (have r2 := r2.resolve_left c2))
      go_wp2_with fail
      go_ret
      exact ⟨rfl, X11.out⟩

set_option maxRecDepth 100000 in
set_option maxHeartbeats 4000000 in
theorem walk (D : FontD) (P : FontP) (T : FaceT) (Q : FaceQ) (ok : FaceOk D P T Q) (code : Int) (hcode : -9223372036854775808 ≤ code ∧ code ≤ 9223372036854775807) (fix : Int) (_ : -9223372036854775808 ≤ fix ∧ fix ≤ 9223372036854775807) (n : Int) (hn : -128 ≤ n ∧ n ≤ 127) (more : Int) (hmore : 0 ≤ more ∧ more ≤ 255) (w : World) (sn : SeenFace w D P T Q) :
    Calls Try.prog 6 #[faceV D P T Q, .int .i64 code, .int .i64 fix, .int .i8 n, .int .u8 more] w (Ret w (.bool true)) := by
  have os : FaceOk D P ⟨T.size, 0, T.up, T.down, T.nt, T.trt⟩ Q := ⟨ok.font, ok.size, by simp [Wide], ok.up, ok.down, ok.bt, ok.rt⟩
  have nn : -9223372036854775808 ≤ n ∧ n ≤ 9223372036854775807 := by omega
  have nm : -9223372036854775808 ≤ n + more ∧ n + more ≤ 9223372036854775807 := by omega
  have nz : -9223372036854775808 ≤ (0 : Int) ∧ (0 : Int) ≤ 9223372036854775807 := by omega
  have ef : faceB D T = true → errF D ⟨T.size, 0, T.up, T.down, T.nt, T.trt⟩ code = errF D T code := fun h => by rw [errF, errF, still_face h, h]
  have ek : faceB D T = true → kernE D ⟨T.size, 0, T.up, T.down, T.nt, T.trt⟩ fix = kernE D T fix := fun h => by rw [kernE, kernE, still_face h, h]
  have cl : -9223372036854775808 ≤ clampV D T n ∧ clampV D T n ≤ 9223372036854775807 ∧ widthV D T code (clampV D T n) = widthV D T code n := by
    cases hF : faceB D T with
    | false => rw [(no_values hF code n fix 2).2.2.2.1, (no_values hF code 0 fix 2).2.1, (no_values hF code n fix 2).2.1]; exact ⟨by omega, by omega, rfl⟩
    | true => obtain ⟨c1, _, _, c4, _⟩ := clamped hF code n fix 2; rw [c4]; have := clamp_in (face_in hF).1 n; exact ⟨by omega, by omega, c1⟩
  refine core D P T Q code fix n more (widthV D T code n) (errF D T code) (widthV D T code (n + more)) (kernV D T fix n) (kernE D T fix) (kernV D T fix (n + more)) (widthV D T code 0) (kernV D T fix 0) (clampV D T n) (widthV D ⟨T.size, 0, T.up, T.down, T.nt, T.trt⟩ code (n + more)) (kernV D ⟨T.size, 0, T.up, T.down, T.nt, T.trt⟩ fix (n + more)) _ _ w hn.1 hn.2 hmore.1 hmore.2
    (fun w' x => fwidth_any D P T Q code n w' ok (sn.ext x) hcode.1 hcode.2 nn.1 nn.2) (fun w' x => fwidth_any D P T Q code _ w' ok (sn.ext x) hcode.1 hcode.2 nm.1 nm.2) (fun w' x => fkern_any D P T Q fix n w' ok (sn.ext x) nn.1 nn.2) (fun w' x => fkern_any D P T Q fix _ w' ok (sn.ext x) nm.1 nm.2)
    (fun w' x => fwidth_any D P T Q code 0 w' ok (sn.ext x) hcode.1 hcode.2 nz.1 nz.2) (fun w' x => fkern_any D P T Q fix 0 w' ok (sn.ext x) nz.1 nz.2) (fun w' x => fclamp_any D P T Q n w' ok (sn.ext x) nn.1 nn.2)
    (fun w' x => by have h := fwidth_any D P T Q code (clampV D T n) w' ok (sn.ext x) hcode.1 hcode.2 cl.1 cl.2.1; rw [cl.2.2] at h; exact h)
    (fun w' x => fwidth_any D P ⟨T.size, 0, T.up, T.down, T.nt, T.trt⟩ Q code (n + more) w' os ⟨(sn.ext x).font, (sn.ext x).ot⟩ hcode.1 hcode.2 nm.1 nm.2)
    (fun w' x => fkern_any D P ⟨T.size, 0, T.up, T.down, T.nt, T.trt⟩ Q fix (n + more) w' os ⟨(sn.ext x).font, (sn.ext x).ot⟩ nm.1 nm.2) ?_
  have hm : 0 ≤ more := hmore.1
  refine ⟨fun he => ?_, fun hi => ?_, ?_, ?_⟩
  · have hF := err_face he
    rw [widthV, if_pos ((ef hF).trans he), widthV, if_pos he, clamp_nought (face_in hF).1, wide_nought]
    rw [wideN]; simp; rfl
  · have hF := kern_face hi
    rw [kernV, if_pos ((ek hF).trans hi), kernV, if_pos hi, clamp_nought (face_in hF).1, kern_nought]
    rw [kernN]; simp; rfl
  · by_cases he : errF D T code = 0
    · have hF := err_face he
      rw [widthV, if_pos he, widthV, if_pos he, widthV, if_pos he, clamp_nought (face_in hF).1, wide_nought, wideN, wideN]
      by_cases hp : pts T (wfix D code) < 0
      · exact .inl hp
      · exact .inr (Int.add_le_add_left (rise (by omega) (by
          have h := face_in hF
          exact Int.mul_le_mul_of_nonneg_right (Int.mul_le_mul_of_nonneg_right (clamp_mono (by omega)) h.1.step.1) (h.1.tr code).1.1) (by omega)) _)
    · right; rw [widthV, if_neg he, widthV, if_neg he]; omega
  · by_cases hi : kernE D T fix = 0
    · have hF := kern_face hi
      rw [kernV, if_pos hi, kernV, if_pos hi, kernV, if_pos hi, clamp_nought (face_in hF).1, kern_nought, kernN, kernN]
      by_cases hp : pts T fix < 0
      · exact .inl hp
      · exact .inr (Int.add_le_add_left (rise (by omega) (Int.mul_le_mul_of_nonneg_right (clamp_mono (by omega)) (face_in hF).1.step.1) (by omega)) _)
    · right; rw [kernV, if_neg hi, kernV, if_neg hi]; omega

set_option maxRecDepth 100000 in
theorem lifted (os : Os) (started : os.Started) (H : Type) (enc : TypeId × Value → H) :
    ReturnsInHanded {} Try.checked os 6 .any (Rows.levelRisesSpec.pre6 enc Try.prog Try.f6 [] false) (Rows.levelRisesSpec.post enc Try.prog Try.f6 false true false false) := by
  refine law_lift (C := Try.checked) own started (by kernel_rfl) Try.func6 laidOut rfl rfl Try.underlying4 (by kernel_rfl) ?_
    (ChangeSpec.witness6 (enc := enc) (C := Try.checked) false ⟨#[], #[.agg #[.int .i64 0, .int .i64 0, .int .i64 0, .slice none 0 0, .slice none 0 0, .slice none 0 0, .slice none 0 0, .slice none 0 0, .slice none 0 0, .slice none 0 0, .slice none 0 0, .int .i64 0, .int .i64 0, .int .i64 0, .int .i64 0, .slice none 0 0], .int .i64 0, .int .i64 0, .int .i8 0, .int .u8 0], []⟩ 8 (by kernel_rfl) (by kernel_rfl) (by kernel_rfl) (by kernel_rfl)) ?_
  · intro H ds h
    match ds, h with
    | [_, _, _, _, _], _ => rfl
  · intro W base args ds p hval hA hlt hwt hsh
    rw [Try.params6] at hA hval
    obtain ⟨v0, vs0, d0, ds0, p0, q0, hargs, rfl, rfl, h0, r0⟩ := trodAll_cons hA
    obtain ⟨v1, vs1, d1, ds1, p1, q1, rfl, rfl, rfl, h1, r1⟩ := trodAll_cons r0
    obtain ⟨v2, vs2, d2, ds2, p2, q2, rfl, rfl, rfl, h2, r2⟩ := trodAll_cons r1
    obtain ⟨v3, vs3, d3, ds3, p3, q3, rfl, rfl, rfl, h3, r3⟩ := trodAll_cons r2
    obtain ⟨v4, vs4, d4, ds4, p4, q4, rfl, rfl, rfl, h4, r4⟩ := trodAll_cons r3
    obtain ⟨rfl, rfl, rfl⟩ := trodAll_nil r4
    obtain rfl : args = #[v0, v1, v2, v3, v4] := by cases args; simp_all
    obtain ⟨D0, P0, T0, Q0, rfl, ok0, hs0⟩ := arg_face (hval 0 45 v0 rfl rfl) h0
    obtain ⟨a1, rfl, rfl, rfl, wf1⟩ := open_int Try.underlying3 (hval 1 3 v1 rfl rfl) h1
    obtain ⟨a2, rfl, rfl, rfl, wf2⟩ := open_int Try.underlying3 (hval 2 3 v2 rfl rfl) h2
    obtain ⟨a3, rfl, rfl, rfl, wf3⟩ := open_int Try.underlying53 (hval 3 53 v3 rfl rfl) h3
    obtain ⟨a4, rfl, rfl, rfl, wf4⟩ := open_int Try.underlying5 (hval 4 5 v4 rfl rfl) h4
    exact walk D0 P0 T0 Q0 ok0 a1 (bounds_i64 wf1) a2 (bounds_i64 wf2) a3 (bounds_i8 wf3) a4 (bounds_u8 wf4) W hs0

theorem holds : Rows.LevelRisesSaid :=
  OpenClaim.holds_of_wide 6 Try.f6 rfl rfl rfl rfl rfl rfl rfl ⟨rfl, rfl, rfl, rfl, rfl⟩ rfl rfl rfl rfl rfl (by kernel_rfl) Try.func6 (by kernel_rfl)
    (of_decide_eq_true (by kernel_rfl)) (by unfold Func.isWrapper; first | (rw [if_pos (by decide +kernel)]; kernel_rfl) | (rw [if_neg (by decide +kernel)]; exact ⟨rfl, rfl⟩))
    (fun os started H enc _ => lifted os started H enc)
end LevelRises
end Go.Proofs.Ytpkmpbpifbpomaa

