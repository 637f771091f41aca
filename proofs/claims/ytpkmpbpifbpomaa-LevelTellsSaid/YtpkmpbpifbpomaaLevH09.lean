/- The landed calls of layer 9: Clamp, Width. -/
import Derived.Test.YtpkmpbpifbpomaaLevG09
namespace Go.Proofs.Ytpkmpbpifbpomaa
open Go.RowKit Go.Lib
namespace L09
open L02 L07 L08

/-- A character's error at a face. -/
def errF (D : FontD) (T : FaceT) (code : Int) : Int := if faceB D T = true then (if hasB D code = true then 0 else 80) else 90
theorem err_cases (D : FontD) (T : FaceT) (code : Int) : (faceB D T = true ∧ hasB D code = true ∧ errF D T code = 0) ∨ ((errF D T code = 80 ∨ errF D T code = 90) ∧ ¬ (faceB D T = true ∧ hasB D code = true)) := by
  cases h1 : faceB D T <;> cases h2 : hasB D code <;> simp [errF, h1, h2]
/-- Its width; the nearest level; how much stands out; a kern's width. -/
def widthV (D : FontD) (T : FaceT) (code n : Int) : Int := if errF D T code = 0 then wideN D T code (clampN T n) else 0
def edgeV (D : FontD) (T : FaceT) (code n : Int) (j : Nat) : Int := if errF D T code = 0 then wideN D T code (clampN T n) * trV T code j / 1000 else 0
def clampV (D : FontD) (T : FaceT) (n : Int) : Int := if faceB D T = true then clampN T n else 0
def kernE (D : FontD) (T : FaceT) (x : Int) : Int := if faceB D T = true ∧ fixB x = true then 0 else 90
def kernN (T : FaceT) (x lv : Int) : Int := pts T x + pts T x * (lv * T.step) / 1000
def kernV (D : FontD) (T : FaceT) (x n : Int) : Int := if kernE D T x = 0 then kernN T x (clampN T n) else 0

theorem has_in {D : FontD} {code : Int} (h : hasB D code = true) : FontIn D ∧ D.first ≤ code ∧ code < D.first + D.nc := by
  simp only [hasB, Bool.and_eq_true, decide_eq_true_eq] at h
  exact ⟨check_in h.1, h.2.1.1, h.2.1.2⟩
theorem having_no (D : FontD) (P : FontP) (T : FaceT) (Q : FaceQ) (code n : Int) (w : World) (ok : FaceOk D P T Q) (sn : SeenFace w D P T Q) (c1 : -9223372036854775808 ≤ code) (c2 : code ≤ 9223372036854775807) (n1 : -9223372036854775808 ≤ n) (n2 : n ≤ 9223372036854775807) (h : ¬ (faceB D T = true ∧ hasB D code = true)) :
    Calls Try.prog 58 #[.agg #[.int .i64 D.sum, .int .i64 D.design, .int .i64 D.first, .slice P.xc D.nc P.zc, .slice P.xw D.nw P.zw, .slice P.xh D.nh P.zh, .slice P.xd D.nd P.zd, .slice P.xi D.ni P.zi, .slice P.xs D.ns P.zs, .slice P.xk D.nk P.zk, .slice P.xp D.np P.zp, .int .i64 T.size, .int .i64 T.step, .int .i64 T.up, .int .i64 T.down, .slice Q.xt T.nt Q.zt], .int .i64 code, .int .i64 n] w (Ret w (.tuple #[.agg #[.int .i64 0, .int .i64 0, .int .i64 0, .slice none 0 0, .slice none 0 0, .slice none 0 0, .slice none 0 0, .slice none 0 0, .slice none 0 0, .slice none 0 0, .slice none 0 0, .int .i64 0, .int .i64 0, .int .i64 0, .int .i64 0, .slice none 0 0, .int .i64 0], .int .i64 (errF D T code)])) := by
  have H := having_any D P T Q code n w ok sn c1 c2 n1 n2
  cases h1 : faceB D T with
  | false => rw [h1] at H; simpa [errF, h1] using H
  | true =>
    cases h2 : hasB D code with
    | false => rw [h1, h2] at H; simpa [errF, h1, h2] using H
    | true => exact absurd ⟨h1, h2⟩ h
theorem having_yes (D : FontD) (P : FontP) (T : FaceT) (Q : FaceQ) (code n : Int) (w : World) (ok : FaceOk D P T Q) (sn : SeenFace w D P T Q) (c1 : -9223372036854775808 ≤ code) (c2 : code ≤ 9223372036854775807) (n1 : -9223372036854775808 ≤ n) (n2 : n ≤ 9223372036854775807) (h1 : faceB D T = true) (h2 : hasB D code = true) :
    Calls Try.prog 58 #[.agg #[.int .i64 D.sum, .int .i64 D.design, .int .i64 D.first, .slice P.xc D.nc P.zc, .slice P.xw D.nw P.zw, .slice P.xh D.nh P.zh, .slice P.xd D.nd P.zd, .slice P.xi D.ni P.zi, .slice P.xs D.ns P.zs, .slice P.xk D.nk P.zk, .slice P.xp D.np P.zp, .int .i64 T.size, .int .i64 T.step, .int .i64 T.up, .int .i64 T.down, .slice Q.xt T.nt Q.zt], .int .i64 code, .int .i64 n] w (Ret w (.tuple #[.agg #[.int .i64 D.sum, .int .i64 D.design, .int .i64 D.first, .slice P.xc D.nc P.zc, .slice P.xw D.nw P.zw, .slice P.xh D.nh P.zh, .slice P.xd D.nd P.zd, .slice P.xi D.ni P.zi, .slice P.xs D.ns P.zs, .slice P.xk D.nk P.zk, .slice P.xp D.np P.zp, .int .i64 T.size, .int .i64 T.step, .int .i64 T.up, .int .i64 T.down, .slice Q.xt T.nt Q.zt, .int .i64 (clampN T n)], .int .i64 0])) := by
  have H := having_any D P T Q code n w ok sn c1 c2 n1 n2
  rw [h1, h2] at H
  simpa using H

set_option maxRecDepth 100000 in
set_option maxHeartbeats 4000000 in
theorem fwidth_no (D : FontD) (P : FontP) (T : FaceT) (Q : FaceQ) (code n : Int) (w : World) (ok : FaceOk D P T Q) (sn : SeenFace w D P T Q) (c1 : -9223372036854775808 ≤ code) (c2 : code ≤ 9223372036854775807) (n1 : -9223372036854775808 ≤ n) (n2 : n ≤ 9223372036854775807) (h : ¬ (faceB D T = true ∧ hasB D code = true)) :
    Calls Try.prog 27 #[.agg #[.int .i64 D.sum, .int .i64 D.design, .int .i64 D.first, .slice P.xc D.nc P.zc, .slice P.xw D.nw P.zw, .slice P.xh D.nh P.zh, .slice P.xd D.nd P.zd, .slice P.xi D.ni P.zi, .slice P.xs D.ns P.zs, .slice P.xk D.nk P.zk, .slice P.xp D.np P.zp, .int .i64 T.size, .int .i64 T.step, .int .i64 T.up, .int .i64 T.down, .slice Q.xt T.nt Q.zt], .int .i64 code, .int .i64 n] w (Ret w (.tuple #[.int .i64 0, .int .i64 (errF D T code)])) := by
  obtain ⟨V, hV⟩ : ∃ V, V = w.alloc (.cells #[.int .i64 D.sum, .int .i64 D.design, .int .i64 D.first, .slice P.xc D.nc P.zc, .slice P.xw D.nw P.zw, .slice P.xh D.nh P.zh, .slice P.xd D.nd P.zd, .slice P.xi D.ni P.zi, .slice P.xs D.ns P.zs, .slice P.xk D.nk P.zk, .slice P.xp D.np P.zp, .int .i64 T.size, .int .i64 T.step, .int .i64 T.up, .int .i64 T.down, .slice Q.xt T.nt Q.zt] 45) := ⟨_, rfl⟩
  have W0 : Ext w V := by rw [hV]; exact (Ext.refl _).alloc _
  have kF : Blk V w.heap.size 45 [.int .i64 D.sum, .int .i64 D.design, .int .i64 D.first, .slice P.xc D.nc P.zc, .slice P.xw D.nw P.zw, .slice P.xh D.nh P.zh, .slice P.xd D.nd P.zd, .slice P.xi D.ni P.zi, .slice P.xs D.ns P.zs, .slice P.xk D.nk P.zk, .slice P.xp D.np P.zp, .int .i64 T.size, .int .i64 T.step, .int .i64 T.up, .int .i64 T.down, .slice Q.xt T.nt Q.zt] := by rw [hV]; exact Blk.lit _ _ _ _ rfl
  have KN := Lib.hid (having_no D P T Q code n V ok (sn.ext W0) c1 c2 n1 n2 h)
  have he : errF D T code ≠ 0 := by rcases err_cases D T code with ⟨a, b, _⟩ | ⟨a, _⟩; exact absurd ⟨a, b⟩ h; omega
  have he : (errF D T code != 0) = true := by simpa using he
  clear ok sn c1 c2 n1 n2 h
  generalize errF D T code = er at *
  go_enter Try.func27, Try.ntmps27
  go_upto_region 1 with (fail)
  rw [← hV]
  clear hV
  generalize w.heap.size = B at *
  have HG := Lib.hid kF
  clear kF
  go_wp2_with (first | (refine wpList_load_mid rfl 45 _ rfl B 0 rfl [.int .i64 D.sum, .int .i64 D.design, .int .i64 D.first, .slice P.xc D.nc P.zc, .slice P.xw D.nw P.zw, .slice P.xh D.nh P.zh, .slice P.xd D.nd P.zd, .slice P.xi D.ni P.zi, .slice P.xs D.ns P.zs, .slice P.xk D.nk P.zk, .slice P.xp D.np P.zp, .int .i64 T.size, .int .i64 T.step, .int .i64 T.up, .int .i64 T.down, .slice Q.xt T.nt Q.zt] _ HG.out.range Try.underlying45 rfl (by kernel_rfl) ?_) | fail)
  refine KN.out.mono ?_; rintro e w1 ⟨rfl, x1⟩
  go_upto_region 2 with (fail)
  have X2 := Lib.hid (x1.alloc (.cells #[.int .i64 0, .int .i64 0, .int .i64 0, .slice none 0 0, .slice none 0 0, .slice none 0 0, .slice none 0 0, .slice none 0 0, .slice none 0 0, .slice none 0 0, .slice none 0 0, .int .i64 0, .int .i64 0, .int .i64 0, .int .i64 0, .slice none 0 0, .int .i64 0] 91))
  generalize w1.alloc (.cells #[.int .i64 0, .int .i64 0, .int .i64 0, .slice none 0 0, .slice none 0 0, .slice none 0 0, .slice none 0 0, .slice none 0 0, .slice none 0 0, .slice none 0 0, .slice none 0 0, .int .i64 0, .int .i64 0, .int .i64 0, .int .i64 0, .slice none 0 0, .int .i64 0] 91) = V2 at *
  go_wp2_with fail
  go_ret2
  exact ⟨rfl, W0.trans X2.out⟩

set_option maxRecDepth 100000 in
set_option maxHeartbeats 4000000 in
theorem fwidth_yes (D : FontD) (P : FontP) (T : FaceT) (Q : FaceQ) (code n : Int) (w : World) (ok : FaceOk D P T Q) (sn : SeenFace w D P T Q) (c1 : -9223372036854775808 ≤ code) (c2 : code ≤ 9223372036854775807) (n1 : -9223372036854775808 ≤ n) (n2 : n ≤ 9223372036854775807) (h1 : faceB D T = true) (h2 : hasB D code = true) :
    Calls Try.prog 27 #[.agg #[.int .i64 D.sum, .int .i64 D.design, .int .i64 D.first, .slice P.xc D.nc P.zc, .slice P.xw D.nw P.zw, .slice P.xh D.nh P.zh, .slice P.xd D.nd P.zd, .slice P.xi D.ni P.zi, .slice P.xs D.ns P.zs, .slice P.xk D.nk P.zk, .slice P.xp D.np P.zp, .int .i64 T.size, .int .i64 T.step, .int .i64 T.up, .int .i64 T.down, .slice Q.xt T.nt Q.zt], .int .i64 code, .int .i64 n] w (Ret w (.tuple #[.int .i64 (wideN D T code (clampN T n)), .int .i64 0])) := by
  obtain ⟨V, hV⟩ : ∃ V, V = w.alloc (.cells #[.int .i64 D.sum, .int .i64 D.design, .int .i64 D.first, .slice P.xc D.nc P.zc, .slice P.xw D.nw P.zw, .slice P.xh D.nh P.zh, .slice P.xd D.nd P.zd, .slice P.xi D.ni P.zi, .slice P.xs D.ns P.zs, .slice P.xk D.nk P.zk, .slice P.xp D.np P.zp, .int .i64 T.size, .int .i64 T.step, .int .i64 T.up, .int .i64 T.down, .slice Q.xt T.nt Q.zt] 45) := ⟨_, rfl⟩
  have W0 : Ext w V := by rw [hV]; exact (Ext.refl _).alloc _
  have kF : Blk V w.heap.size 45 [.int .i64 D.sum, .int .i64 D.design, .int .i64 D.first, .slice P.xc D.nc P.zc, .slice P.xw D.nw P.zw, .slice P.xh D.nh P.zh, .slice P.xd D.nd P.zd, .slice P.xi D.ni P.zi, .slice P.xs D.ns P.zs, .slice P.xk D.nk P.zk, .slice P.xp D.np P.zp, .int .i64 T.size, .int .i64 T.step, .int .i64 T.up, .int .i64 T.down, .slice Q.xt T.nt Q.zt] := by rw [hV]; exact Blk.lit _ _ _ _ rfl
  have KY := Lib.hid (having_yes D P T Q code n V ok (sn.ext W0) c1 c2 n1 n2 h1 h2)
  have I := (face_in h1).1
  obtain ⟨J, f1, f2⟩ := has_in h2
  have CL := clamp_in I n
  have CW := Lib.hid (fun w' (x : Ext V w') => width_any D P T Q (clampN T n) code w' ok ((sn.ext W0).ext x) I J CL.1 CL.2 f1 f2)
  clear ok sn c1 c2 n1 n2 h1 h2 I J CL f1 f2
  generalize clampN T n = lv at *
  go_enter Try.func27, Try.ntmps27
  go_upto_region 1 with (fail)
  rw [← hV]
  clear hV
  generalize w.heap.size = B at *
  have HG := Lib.hid kF
  clear kF
  go_wp2_with (first | (refine wpList_load_mid rfl 45 _ rfl B 0 rfl [.int .i64 D.sum, .int .i64 D.design, .int .i64 D.first, .slice P.xc D.nc P.zc, .slice P.xw D.nw P.zw, .slice P.xh D.nh P.zh, .slice P.xd D.nd P.zd, .slice P.xi D.ni P.zi, .slice P.xs D.ns P.zs, .slice P.xk D.nk P.zk, .slice P.xp D.np P.zp, .int .i64 T.size, .int .i64 T.step, .int .i64 T.up, .int .i64 T.down, .slice Q.xt T.nt Q.zt] _ HG.out.range Try.underlying45 rfl (by kernel_rfl) ?_) | fail)
  refine KY.out.mono ?_; rintro e w1 ⟨rfl, x1⟩
  go_upto_region 2 with (fail)
  have X2 := Lib.hid (x1.alloc (.cells #[.int .i64 D.sum, .int .i64 D.design, .int .i64 D.first, .slice P.xc D.nc P.zc, .slice P.xw D.nw P.zw, .slice P.xh D.nh P.zh, .slice P.xd D.nd P.zd, .slice P.xi D.ni P.zi, .slice P.xs D.ns P.zs, .slice P.xk D.nk P.zk, .slice P.xp D.np P.zp, .int .i64 T.size, .int .i64 T.step, .int .i64 T.up, .int .i64 T.down, .slice Q.xt T.nt Q.zt, .int .i64 lv] 91))
  have HL2 := Lib.hid (Blk.lit w1 w1.heap.size 91 #[.int .i64 D.sum, .int .i64 D.design, .int .i64 D.first, .slice P.xc D.nc P.zc, .slice P.xw D.nw P.zw, .slice P.xh D.nh P.zh, .slice P.xd D.nd P.zd, .slice P.xi D.ni P.zi, .slice P.xs D.ns P.zs, .slice P.xk D.nk P.zk, .slice P.xp D.np P.zp, .int .i64 T.size, .int .i64 T.step, .int .i64 T.up, .int .i64 T.down, .slice Q.xt T.nt Q.zt, .int .i64 lv] rfl)
  generalize w1.alloc (.cells #[.int .i64 D.sum, .int .i64 D.design, .int .i64 D.first, .slice P.xc D.nc P.zc, .slice P.xw D.nw P.zw, .slice P.xh D.nh P.zh, .slice P.xd D.nd P.zd, .slice P.xi D.ni P.zi, .slice P.xs D.ns P.zs, .slice P.xk D.nk P.zk, .slice P.xp D.np P.zp, .int .i64 T.size, .int .i64 T.step, .int .i64 T.up, .int .i64 T.down, .slice Q.xt T.nt Q.zt, .int .i64 lv] 91) = V2 at *
  generalize w1.heap.size = L at *
  go_wp2_with (first | (refine wpList_load_mid rfl 91 _ rfl L 0 rfl [.int .i64 D.sum, .int .i64 D.design, .int .i64 D.first, .slice P.xc D.nc P.zc, .slice P.xw D.nw P.zw, .slice P.xh D.nh P.zh, .slice P.xd D.nd P.zd, .slice P.xi D.ni P.zi, .slice P.xs D.ns P.zs, .slice P.xk D.nk P.zk, .slice P.xp D.np P.zp, .int .i64 T.size, .int .i64 T.step, .int .i64 T.up, .int .i64 T.down, .slice Q.xt T.nt Q.zt, .int .i64 lv] _ HL2.out.range Try.underlying91 rfl (by kernel_rfl) ?_) | fail)
  refine (CW.out _ X2.out).mono ?_; rintro e w3 ⟨rfl, x3⟩
  go_wp2_with fail
  go_ret2
  exact ⟨rfl, (W0.trans X2.out).trans x3⟩

theorem fwidth_any (D : FontD) (P : FontP) (T : FaceT) (Q : FaceQ) (code n : Int) (w : World) (ok : FaceOk D P T Q) (sn : SeenFace w D P T Q) (c1 : -9223372036854775808 ≤ code) (c2 : code ≤ 9223372036854775807) (n1 : -9223372036854775808 ≤ n) (n2 : n ≤ 9223372036854775807) :
    Calls Try.prog 27 #[.agg #[.int .i64 D.sum, .int .i64 D.design, .int .i64 D.first, .slice P.xc D.nc P.zc, .slice P.xw D.nw P.zw, .slice P.xh D.nh P.zh, .slice P.xd D.nd P.zd, .slice P.xi D.ni P.zi, .slice P.xs D.ns P.zs, .slice P.xk D.nk P.zk, .slice P.xp D.np P.zp, .int .i64 T.size, .int .i64 T.step, .int .i64 T.up, .int .i64 T.down, .slice Q.xt T.nt Q.zt], .int .i64 code, .int .i64 n] w (Ret w (.tuple #[.int .i64 (widthV D T code n), .int .i64 (errF D T code)])) := by
  rcases err_cases D T code with ⟨a, b, e⟩ | ⟨e, h⟩
  · have H := fwidth_yes D P T Q code n w ok sn c1 c2 n1 n2 a b
    rw [widthV, if_pos e, e]; exact H
  · have H := fwidth_no D P T Q code n w ok sn c1 c2 n1 n2 h
    rw [widthV, if_neg (by omega)]; exact H

set_option maxRecDepth 100000 in
set_option maxHeartbeats 4000000 in
theorem fclamp_yes (D : FontD) (P : FontP) (T : FaceT) (Q : FaceQ) (n : Int) (w : World) (ok : FaceOk D P T Q) (sn : SeenFace w D P T Q) (n1 : -9223372036854775808 ≤ n) (n2 : n ≤ 9223372036854775807) (h1 : faceB D T = true) :
    Calls Try.prog 35 #[.agg #[.int .i64 D.sum, .int .i64 D.design, .int .i64 D.first, .slice P.xc D.nc P.zc, .slice P.xw D.nw P.zw, .slice P.xh D.nh P.zh, .slice P.xd D.nd P.zd, .slice P.xi D.ni P.zi, .slice P.xs D.ns P.zs, .slice P.xk D.nk P.zk, .slice P.xp D.np P.zp, .int .i64 T.size, .int .i64 T.step, .int .i64 T.up, .int .i64 T.down, .slice Q.xt T.nt Q.zt], .int .i64 n] w (Ret w (.int .i64 (clampN T n))) := by
  obtain ⟨V, hV⟩ : ∃ V, V = w.alloc (.cells #[.int .i64 D.sum, .int .i64 D.design, .int .i64 D.first, .slice P.xc D.nc P.zc, .slice P.xw D.nw P.zw, .slice P.xh D.nh P.zh, .slice P.xd D.nd P.zd, .slice P.xi D.ni P.zi, .slice P.xs D.ns P.zs, .slice P.xk D.nk P.zk, .slice P.xp D.np P.zp, .int .i64 T.size, .int .i64 T.step, .int .i64 T.up, .int .i64 T.down, .slice Q.xt T.nt Q.zt] 45) := ⟨_, rfl⟩
  have W0 : Ext w V := by rw [hV]; exact (Ext.refl _).alloc _
  have kF : Blk V w.heap.size 45 [.int .i64 D.sum, .int .i64 D.design, .int .i64 D.first, .slice P.xc D.nc P.zc, .slice P.xw D.nw P.zw, .slice P.xh D.nh P.zh, .slice P.xd D.nd P.zd, .slice P.xi D.ni P.zi, .slice P.xs D.ns P.zs, .slice P.xk D.nk P.zk, .slice P.xp D.np P.zp, .int .i64 T.size, .int .i64 T.step, .int .i64 T.up, .int .i64 T.down, .slice Q.xt T.nt Q.zt] := by rw [hV]; exact Blk.lit _ _ _ _ rfl
  have KY := Lib.hid (at_yes D P T Q n V ok (sn.ext W0) h1 n1 n2)
  clear ok sn h1
  generalize clampN T n = lv at *
  go_enter Try.func35, Try.ntmps35
  go_upto_region 1 with (fail)
  rw [← hV]
  clear hV
  generalize w.heap.size = B at *
  have HG := Lib.hid kF
  clear kF
  go_wp2_with (first | (refine wpList_load_mid rfl 45 _ rfl B 0 rfl [.int .i64 D.sum, .int .i64 D.design, .int .i64 D.first, .slice P.xc D.nc P.zc, .slice P.xw D.nw P.zw, .slice P.xh D.nh P.zh, .slice P.xd D.nd P.zd, .slice P.xi D.ni P.zi, .slice P.xs D.ns P.zs, .slice P.xk D.nk P.zk, .slice P.xp D.np P.zp, .int .i64 T.size, .int .i64 T.step, .int .i64 T.up, .int .i64 T.down, .slice Q.xt T.nt Q.zt] _ HG.out.range Try.underlying45 rfl (by kernel_rfl) ?_) | fail)
  refine KY.out.mono ?_; rintro e w1 ⟨rfl, x1⟩
  go_upto_region 2 with (fail)
  have X2 := Lib.hid (x1.alloc (.cells #[.int .i64 D.sum, .int .i64 D.design, .int .i64 D.first, .slice P.xc D.nc P.zc, .slice P.xw D.nw P.zw, .slice P.xh D.nh P.zh, .slice P.xd D.nd P.zd, .slice P.xi D.ni P.zi, .slice P.xs D.ns P.zs, .slice P.xk D.nk P.zk, .slice P.xp D.np P.zp, .int .i64 T.size, .int .i64 T.step, .int .i64 T.up, .int .i64 T.down, .slice Q.xt T.nt Q.zt, .int .i64 lv] 91))
  have HL2 := Lib.hid (Blk.lit w1 w1.heap.size 91 #[.int .i64 D.sum, .int .i64 D.design, .int .i64 D.first, .slice P.xc D.nc P.zc, .slice P.xw D.nw P.zw, .slice P.xh D.nh P.zh, .slice P.xd D.nd P.zd, .slice P.xi D.ni P.zi, .slice P.xs D.ns P.zs, .slice P.xk D.nk P.zk, .slice P.xp D.np P.zp, .int .i64 T.size, .int .i64 T.step, .int .i64 T.up, .int .i64 T.down, .slice Q.xt T.nt Q.zt, .int .i64 lv] rfl)
  generalize w1.alloc (.cells #[.int .i64 D.sum, .int .i64 D.design, .int .i64 D.first, .slice P.xc D.nc P.zc, .slice P.xw D.nw P.zw, .slice P.xh D.nh P.zh, .slice P.xd D.nd P.zd, .slice P.xi D.ni P.zi, .slice P.xs D.ns P.zs, .slice P.xk D.nk P.zk, .slice P.xp D.np P.zp, .int .i64 T.size, .int .i64 T.step, .int .i64 T.up, .int .i64 T.down, .slice Q.xt T.nt Q.zt, .int .i64 lv] 91) = V2 at *
  generalize w1.heap.size = L at *
  have q16 : V2.cell? ⟨L, 16, none⟩ = some (.int .i64 lv) := HL2.out.cell 16
  go_wp2_with fail
  go_ret
  exact ⟨rfl, W0.trans X2.out⟩

set_option maxRecDepth 100000 in
set_option maxHeartbeats 4000000 in
theorem fclamp_no (D : FontD) (P : FontP) (T : FaceT) (Q : FaceQ) (n : Int) (w : World) (ok : FaceOk D P T Q) (sn : SeenFace w D P T Q) (h1 : faceB D T = false) :
    Calls Try.prog 35 #[.agg #[.int .i64 D.sum, .int .i64 D.design, .int .i64 D.first, .slice P.xc D.nc P.zc, .slice P.xw D.nw P.zw, .slice P.xh D.nh P.zh, .slice P.xd D.nd P.zd, .slice P.xi D.ni P.zi, .slice P.xs D.ns P.zs, .slice P.xk D.nk P.zk, .slice P.xp D.np P.zp, .int .i64 T.size, .int .i64 T.step, .int .i64 T.up, .int .i64 T.down, .slice Q.xt T.nt Q.zt], .int .i64 n] w (Ret w (.int .i64 0)) := by
  obtain ⟨V, hV⟩ : ∃ V, V = w.alloc (.cells #[.int .i64 D.sum, .int .i64 D.design, .int .i64 D.first, .slice P.xc D.nc P.zc, .slice P.xw D.nw P.zw, .slice P.xh D.nh P.zh, .slice P.xd D.nd P.zd, .slice P.xi D.ni P.zi, .slice P.xs D.ns P.zs, .slice P.xk D.nk P.zk, .slice P.xp D.np P.zp, .int .i64 T.size, .int .i64 T.step, .int .i64 T.up, .int .i64 T.down, .slice Q.xt T.nt Q.zt] 45) := ⟨_, rfl⟩
  have W0 : Ext w V := by rw [hV]; exact (Ext.refl _).alloc _
  have kF : Blk V w.heap.size 45 [.int .i64 D.sum, .int .i64 D.design, .int .i64 D.first, .slice P.xc D.nc P.zc, .slice P.xw D.nw P.zw, .slice P.xh D.nh P.zh, .slice P.xd D.nd P.zd, .slice P.xi D.ni P.zi, .slice P.xs D.ns P.zs, .slice P.xk D.nk P.zk, .slice P.xp D.np P.zp, .int .i64 T.size, .int .i64 T.step, .int .i64 T.up, .int .i64 T.down, .slice Q.xt T.nt Q.zt] := by rw [hV]; exact Blk.lit _ _ _ _ rfl
  have KY := Lib.hid (at_no D P T Q n V ok (sn.ext W0) h1)
  clear ok sn h1
  go_enter Try.func35, Try.ntmps35
  go_upto_region 1 with (fail)
  rw [← hV]
  clear hV
  generalize w.heap.size = B at *
  have HG := Lib.hid kF
  clear kF
  go_wp2_with (first | (refine wpList_load_mid rfl 45 _ rfl B 0 rfl [.int .i64 D.sum, .int .i64 D.design, .int .i64 D.first, .slice P.xc D.nc P.zc, .slice P.xw D.nw P.zw, .slice P.xh D.nh P.zh, .slice P.xd D.nd P.zd, .slice P.xi D.ni P.zi, .slice P.xs D.ns P.zs, .slice P.xk D.nk P.zk, .slice P.xp D.np P.zp, .int .i64 T.size, .int .i64 T.step, .int .i64 T.up, .int .i64 T.down, .slice Q.xt T.nt Q.zt] _ HG.out.range Try.underlying45 rfl (by kernel_rfl) ?_) | fail)
  refine KY.out.mono ?_; rintro e w1 ⟨rfl, x1⟩
  go_upto_region 2 with (fail)
  have X2 := Lib.hid (x1.alloc (.cells #[.int .i64 0, .int .i64 0, .int .i64 0, .slice none 0 0, .slice none 0 0, .slice none 0 0, .slice none 0 0, .slice none 0 0, .slice none 0 0, .slice none 0 0, .slice none 0 0, .int .i64 0, .int .i64 0, .int .i64 0, .int .i64 0, .slice none 0 0, .int .i64 0] 91))
  have HL2 := Lib.hid (Blk.lit w1 w1.heap.size 91 #[.int .i64 0, .int .i64 0, .int .i64 0, .slice none 0 0, .slice none 0 0, .slice none 0 0, .slice none 0 0, .slice none 0 0, .slice none 0 0, .slice none 0 0, .slice none 0 0, .int .i64 0, .int .i64 0, .int .i64 0, .int .i64 0, .slice none 0 0, .int .i64 0] rfl)
  generalize w1.alloc (.cells #[.int .i64 0, .int .i64 0, .int .i64 0, .slice none 0 0, .slice none 0 0, .slice none 0 0, .slice none 0 0, .slice none 0 0, .slice none 0 0, .slice none 0 0, .slice none 0 0, .int .i64 0, .int .i64 0, .int .i64 0, .int .i64 0, .slice none 0 0, .int .i64 0] 91) = V2 at *
  generalize w1.heap.size = L at *
  have q16 : V2.cell? ⟨L, 16, none⟩ = some (.int .i64 0) := HL2.out.cell 16
  go_wp2_with fail
  go_ret
  exact ⟨rfl, W0.trans X2.out⟩

theorem fclamp_any (D : FontD) (P : FontP) (T : FaceT) (Q : FaceQ) (n : Int) (w : World) (ok : FaceOk D P T Q) (sn : SeenFace w D P T Q) (n1 : -9223372036854775808 ≤ n) (n2 : n ≤ 9223372036854775807) :
    Calls Try.prog 35 #[.agg #[.int .i64 D.sum, .int .i64 D.design, .int .i64 D.first, .slice P.xc D.nc P.zc, .slice P.xw D.nw P.zw, .slice P.xh D.nh P.zh, .slice P.xd D.nd P.zd, .slice P.xi D.ni P.zi, .slice P.xs D.ns P.zs, .slice P.xk D.nk P.zk, .slice P.xp D.np P.zp, .int .i64 T.size, .int .i64 T.step, .int .i64 T.up, .int .i64 T.down, .slice Q.xt T.nt Q.zt], .int .i64 n] w (Ret w (.int .i64 (clampV D T n))) := by
  unfold clampV
  cases h : faceB D T with
  | false => exact fclamp_no D P T Q n w ok sn h
  | true => exact fclamp_yes D P T Q n w ok sn n1 n2 h
end L09
end Go.Proofs.Ytpkmpbpifbpomaa

