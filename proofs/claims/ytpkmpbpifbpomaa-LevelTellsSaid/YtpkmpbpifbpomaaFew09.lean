/- The document's Few of layer 9; what the landed calls answer, by cases. -/
import Derived.Test.YtpkmpbpifbpomaaAwake09
namespace Go.Proofs.Ytpkmpbpifbpomaa
open Go.RowKit Go.Lib
namespace L09
open L02 L07 L08

/-- At most three hundred of each. -/
def fewF (D : FontD) (T : FaceT) : Bool := fewB D && decide (T.nt ≤ 300)

set_option maxRecDepth 100000 in
set_option maxHeartbeats 4000000 in
theorem fewf_any (D : FontD) (P : FontP) (T : FaceT) (Q : FaceQ) (w : World) : Calls Try.prog 26 #[.agg #[.int .i64 D.sum, .int .i64 D.design, .int .i64 D.first, .slice P.xc D.nc P.zc, .slice P.xw D.nw P.zw, .slice P.xh D.nh P.zh, .slice P.xd D.nd P.zd, .slice P.xi D.ni P.zi, .slice P.xs D.ns P.zs, .slice P.xk D.nk P.zk, .slice P.xp D.np P.zp, .int .i64 T.size, .int .i64 T.step, .int .i64 T.up, .int .i64 T.down, .slice Q.xt T.nt Q.zt]] w (Ret w (.bool (fewF D T))) := by
  obtain ⟨V, hV⟩ : ∃ V, V = w.alloc (.cells #[.int .i64 D.sum, .int .i64 D.design, .int .i64 D.first, .slice P.xc D.nc P.zc, .slice P.xw D.nw P.zw, .slice P.xh D.nh P.zh, .slice P.xd D.nd P.zd, .slice P.xi D.ni P.zi, .slice P.xs D.ns P.zs, .slice P.xk D.nk P.zk, .slice P.xp D.np P.zp, .int .i64 T.size, .int .i64 T.step, .int .i64 T.up, .int .i64 T.down, .slice Q.xt T.nt Q.zt] 45) := ⟨_, rfl⟩
  have W0 : Ext w V := by rw [hV]; exact (Ext.refl _).alloc _
  have kF : Blk V w.heap.size 45 [.int .i64 D.sum, .int .i64 D.design, .int .i64 D.first, .slice P.xc D.nc P.zc, .slice P.xw D.nw P.zw, .slice P.xh D.nh P.zh, .slice P.xd D.nd P.zd, .slice P.xi D.ni P.zi, .slice P.xs D.ns P.zs, .slice P.xk D.nk P.zk, .slice P.xp D.np P.zp, .int .i64 T.size, .int .i64 T.step, .int .i64 T.up, .int .i64 T.down, .slice Q.xt T.nt Q.zt] := by rw [hV]; exact Blk.lit _ _ _ _ rfl
  have FW := Lib.hid (show Calls Try.prog 16 #[.agg #[.int .i64 D.sum, .int .i64 D.design, .int .i64 D.first, .slice P.xc D.nc P.zc, .slice P.xw D.nw P.zw, .slice P.xh D.nh P.zh, .slice P.xd D.nd P.zd, .slice P.xi D.ni P.zi, .slice P.xs D.ns P.zs, .slice P.xk D.nk P.zk, .slice P.xp D.np P.zp]] V (Ret V (.bool (fewB D))) from few_any D P V)
  have HE := Lib.hid (show fewF D T = (fewB D && decide (T.nt ≤ 300)) from rfl)
  go_enter Try.func26, Try.ntmps26
  go_upto_region 1 with (fail)
  rw [← hV]
  clear hV
  generalize w.heap.size = B at *
  have HG := Lib.hid kF
  clear kF
  generalize fewF D T = fv at *
  generalize fewB D = fb at *
  go_wp2_with (first | (refine wpList_load_mid rfl 28 _ rfl B 0 rfl [.int .i64 D.sum, .int .i64 D.design, .int .i64 D.first, .slice P.xc D.nc P.zc, .slice P.xw D.nw P.zw, .slice P.xh D.nh P.zh, .slice P.xd D.nd P.zd, .slice P.xi D.ni P.zi, .slice P.xs D.ns P.zs, .slice P.xk D.nk P.zk, .slice P.xp D.np P.zp] _ (font_range HG.out) Try.underlying28 rfl (by kernel_rfl) ?_) | fail)
  refine FW.out.mono ?_; rintro e w1 ⟨rfl, x1⟩
  have q15 : w1.cell? ⟨B, 15, none⟩ = some (.slice Q.xt T.nt Q.zt) := (HG.out.ext x1).cell 15
  cases fb with
  | false =>
    go_wp2_with fail
    go_ret
    exact ⟨ret_bool (by rw [HE.out]; rfl), W0.trans x1⟩
  | true =>
    go_wp2_with fail
    go_ret
    exact ⟨ret_bool (by rw [HE.out, Bool.eq_iff_iff]; simp; omega), W0.trans x1⟩

theorem no_values {D : FontD} {T : FaceT} (h : faceB D T = false) (code n fix : Int) (j : Nat) : errF D T code = 90 ∧ widthV D T code n = 0 ∧ edgeV D T code n j = 0 ∧ clampV D T n = 0 ∧ kernE D T fix = 90 ∧ kernV D T fix n = 0 := by
  have e : errF D T code = 90 := by simp [errF, h]
  have k : kernE D T fix = 90 := by simp [kernE, h]
  exact ⟨e, by rw [widthV, if_neg (by omega)], by rw [edgeV, if_neg (by omega)], by simp [clampV, h], k, by rw [kernV, if_neg (by omega)]⟩
theorem clamp_clamp {T : FaceT} (h : FaceIn T) (n : Int) : clampN T (clampN T n) = clampN T n ∧ -T.down ≤ clampN T n ∧ clampN T n ≤ T.up := by
  have := h.up; have := h.down; unfold clampN; omega
theorem clamped {D : FontD} {T : FaceT} (h : faceB D T = true) (code n fix : Int) (j : Nat) : widthV D T code (clampN T n) = widthV D T code n ∧ edgeV D T code (clampN T n) j = edgeV D T code n j ∧ kernV D T fix (clampN T n) = kernV D T fix n ∧ clampV D T n = clampN T n ∧ clampV D T (clampN T n) = clampN T n := by
  have e := (clamp_clamp (face_in h).1 n).1
  exact ⟨by rw [widthV, widthV, e], by rw [edgeV, edgeV, e], by rw [kernV, kernV, e], by simp [clampV, h], by simp [clampV, h, e]⟩
end L09
end Go.Proofs.Ytpkmpbpifbpomaa

