/- The landed calls of layer 9. -/
import Derived.Test.YtpkmpbpifbpomaaLevC09
import Derived.Test.YtpkmpbpifbpomaaChkSet08
import Derived.Lib.QuietBelow
import Derived.Test.YtpkmpbpifbpomaaMid09
namespace Go.Proofs.Ytpkmpbpifbpomaa
open Go.RowKit Go.Lib
namespace L09
open L02 L07 L08

/-- A width's fix. -/
def wfix (D : FontD) (code : Int) : Int := D.wd (D.chr (code - D.first).toNat 0).toNat
/-- A width at a level. -/
def wideN (D : FontD) (T : FaceT) (code lv : Int) : Int := pts T (wfix D code) + pts T (wfix D code) * (lv * T.step * trV T code 1) / 1000000

/-- A trait's Stretch. -/
theorem field_stretch (x0 x1 x2 x3 : Int) (w : World) : (Instr.field 56 (.agg #[.int .i64 x0, .int .i64 x1, .int .i64 x2, .int .i64 x3]) 1).run Try.prog w = .ok (.int .i64 x1) w := by
  kernel_rfl

set_option maxRecDepth 100000 in
set_option maxHeartbeats 4000000 in
theorem width_any (D : FontD) (P : FontP) (T : FaceT) (Q : FaceQ) (lv code : Int) (w : World) (ok : FaceOk D P T Q) (sn : SeenFace w D P T Q) (h : FaceIn T) (I : FontIn D) (l1 : -8 ≤ lv) (l2 : lv ≤ 8)
    (c1 : D.first ≤ code) (c2 : code < D.first + D.nc) :
    Calls Try.prog 59 #[.agg #[.int .i64 D.sum, .int .i64 D.design, .int .i64 D.first, .slice P.xc D.nc P.zc, .slice P.xw D.nw P.zw, .slice P.xh D.nh P.zh, .slice P.xd D.nd P.zd, .slice P.xi D.ni P.zi, .slice P.xs D.ns P.zs, .slice P.xk D.nk P.zk, .slice P.xp D.np P.zp, .int .i64 T.size, .int .i64 T.step, .int .i64 T.up, .int .i64 T.down, .slice Q.xt T.nt Q.zt, .int .i64 lv], .int .i64 code] w (Ret w (.int .i64 (wideN D T code lv))) := by
  have hk : (code - D.first).toNat < D.nc := by omega
  obtain ⟨f0, f1⟩ := I.first
  obtain ⟨n0, n1⟩ := I.nc
  obtain ⟨v0, v1⟩ := (I.chr _ hk).1
  have hj : (D.chr (code - D.first).toNat 0).toNat < D.nw := by omega
  obtain ⟨x0, x1⟩ := I.wd _ hj
  obtain ⟨p1, p2, p3, p4⟩ := pts_in h x0 x1
  obtain ⟨⟨s0, s1⟩, _, _⟩ := h.tr code
  have HE := Lib.hid (show wideN D T code lv = pts T (wfix D code) + pts T (wfix D code) * (lv * T.step * trV T code 1) / 1000000 from rfl)
  have hW : wfix D code = D.wd (D.chr (code - D.first).toNat 0).toNat := rfl
  rw [← hW] at x0 x1 p1 p2 p3 p4
  obtain ⟨V, hV⟩ : ∃ V, V = w.alloc (.cells #[.int .i64 D.sum, .int .i64 D.design, .int .i64 D.first, .slice P.xc D.nc P.zc, .slice P.xw D.nw P.zw, .slice P.xh D.nh P.zh, .slice P.xd D.nd P.zd, .slice P.xi D.ni P.zi, .slice P.xs D.ns P.zs, .slice P.xk D.nk P.zk, .slice P.xp D.np P.zp, .int .i64 T.size, .int .i64 T.step, .int .i64 T.up, .int .i64 T.down, .slice Q.xt T.nt Q.zt, .int .i64 lv] 91) := ⟨_, rfl⟩
  have W0 : Ext w V := by rw [hV]; exact (Ext.refl _).alloc _
  have kF : Blk V w.heap.size 91 [.int .i64 D.sum, .int .i64 D.design, .int .i64 D.first, .slice P.xc D.nc P.zc, .slice P.xw D.nw P.zw, .slice P.xh D.nh P.zh, .slice P.xd D.nd P.zd, .slice P.xi D.ni P.zi, .slice P.xs D.ns P.zs, .slice P.xk D.nk P.zk, .slice P.xp D.np P.zp, .int .i64 T.size, .int .i64 T.step, .int .i64 T.up, .int .i64 T.down, .slice Q.xt T.nt Q.zt, .int .i64 lv] := by rw [hV]; exact Blk.lit _ _ _ _ rfl
  have hlt := kF.lt
  have q0 : V.cell? ⟨w.heap.size, 0, none⟩ = some (.int .i64 D.sum) := kF.cell 0
  have q1 : V.cell? ⟨w.heap.size, 1, none⟩ = some (.int .i64 D.design) := kF.cell 1
  have q2 : V.cell? ⟨w.heap.size, 2, none⟩ = some (.int .i64 D.first) := kF.cell 2
  have q3 : V.cell? ⟨w.heap.size, 3, none⟩ = some (.slice P.xc D.nc P.zc) := kF.cell 3
  have q4 : V.cell? ⟨w.heap.size, 4, none⟩ = some (.slice P.xw D.nw P.zw) := kF.cell 4
  have q5 : V.cell? ⟨w.heap.size, 5, none⟩ = some (.slice P.xh D.nh P.zh) := kF.cell 5
  have q6 : V.cell? ⟨w.heap.size, 6, none⟩ = some (.slice P.xd D.nd P.zd) := kF.cell 6
  have q7 : V.cell? ⟨w.heap.size, 7, none⟩ = some (.slice P.xi D.ni P.zi) := kF.cell 7
  have q8 : V.cell? ⟨w.heap.size, 8, none⟩ = some (.slice P.xs D.ns P.zs) := kF.cell 8
  have q9 : V.cell? ⟨w.heap.size, 9, none⟩ = some (.slice P.xk D.nk P.zk) := kF.cell 9
  have q10 : V.cell? ⟨w.heap.size, 10, none⟩ = some (.slice P.xp D.np P.zp) := kF.cell 10
  have q11 : V.cell? ⟨w.heap.size, 11, none⟩ = some (.int .i64 T.size) := kF.cell 11
  have q12 : V.cell? ⟨w.heap.size, 12, none⟩ = some (.int .i64 T.step) := kF.cell 12
  have q13 : V.cell? ⟨w.heap.size, 13, none⟩ = some (.int .i64 T.up) := kF.cell 13
  have q14 : V.cell? ⟨w.heap.size, 14, none⟩ = some (.int .i64 T.down) := kF.cell 14
  have q15 : V.cell? ⟨w.heap.size, 15, none⟩ = some (.slice Q.xt T.nt Q.zt) := kF.cell 15
  have q16 : V.cell? ⟨w.heap.size, 16, none⟩ = some (.int .i64 lv) := kF.cell 16
  have C1 := Lib.hid (fun w' => points_any D P T Q lv (wfix D code) w' h x0 x1)
  have C2 := Lib.hid (fun w' (x : Ext V w') => trait_any D P T Q lv code w' ok.rt ((sn.ot.ext W0).ext x))
  have C3 := Lib.hid (fun w' => stretched_any D P T Q lv (pts T (wfix D code)) (trV T code 1) w' h p3 p4 l1 l2 s0 s1)
  have HW0 := Lib.hid W0
  obtain ⟨ad, hA, u0, u1, u2, u3, u4, u5⟩ := row6 ((sn.ext W0).font.oc) hk
  obtain ⟨aw, hB, uw⟩ := (sn.ext W0).font.ow.get hj
  have hj' : D.chr (code - D.first).toNat 0 < D.nw := v1
  rw [← hW] at uw
  clear p1 p2 p3 p4 x0 x1 s0 s1 W0 hW ok sn
  generalize trV T code 1 = sv at *
  generalize wfix D code = fx at *
  generalize D.chr (code - D.first).toNat 0 = z0 at *
  generalize D.chr (code - D.first).toNat 1 = z1 at *
  generalize D.chr (code - D.first).toNat 2 = z2 at *
  generalize D.chr (code - D.first).toNat 3 = z3 at *
  generalize D.chr (code - D.first).toNat 4 = z4 at *
  generalize D.chr (code - D.first).toNat 5 = z5 at *
  generalize P.xc = XC at *
  generalize P.xw = XW at *
  subst hA
  subst hB
  go_enter Try.func59, Try.ntmps59
  go_upto_region 1 with (fail)
  rw [← hV]
  generalize hb0 : w.heap.size = b0 at *
  clear hV hb0
  obtain ⟨V2, hV2⟩ : ∃ V2, V2 = V.alloc (.cells #[.int .i64 z0, .int .i64 z1, .int .i64 z2, .int .i64 z3, .int .i64 z4, .int .i64 z5] 61) := ⟨_, rfl⟩
  have y2 : Ext V V2 := by rw [hV2]; exact (Ext.refl _).alloc _
  have kC : Blk V2 V.heap.size 61 [.int .i64 z0, .int .i64 z1, .int .i64 z2, .int .i64 z3, .int .i64 z4, .int .i64 z5] := by rw [hV2]; exact Blk.lit _ _ _ _ rfl
  have qc : V2.cell? ⟨V.heap.size, 0, none⟩ = some (.int .i64 z0) := kC.cell 0
  have g2 := cell_regrown (y2.at q2)
  have g3 := cell_regrown (y2.at q3)
  have g4 := cell_regrown (y2.at q4)
  have RG := Lib.hid (range_regrown (kF.ext y2))
  have SOME := Lib.hid (some_regrown V2)
  have gc := cell_regrown qc
  have gw := cell_regrown (y2.at uw)
  have HX := Lib.hid (HW0.out.trans y2)
  have RF := fun w' => field_stretch (trV T code 0) sv (trV T code 2) (trV T code 3) w'
  have D1 := fun d os => C1.out (Sort.grow (redrawn V2 d) os)
  have D2 := fun d os => C2.out (Sort.grow (redrawn V2 d) os) (y2.trans (below_regrown _ _ _))
  have D3 := fun d os => C3.out (Sort.grow (redrawn V2 d) os)
  clear C1 C2 C3 HW0 y2 kC qc uw
  go_wp2_with fail
  rw [← hV2]
  clear hV2 q0 q1 q2 q3 q4 q5 q6 q7 q8 q9 q10 q11 q12 q13 q14 q15 q16 u0 u1 u2 u3 u4 u5
  generalize V.heap.size = b1 at *
  as_aux_lemma =>
    refine wp_region_quiet_below (by kernel_rfl) (by kernel_rfl) ?_
    repeat (first | (go_big_quiet_want; refine quiet_load 91 b0 rfl _ RG.out SOME.out Try.underlying91 rfl (by kernel_rfl) ?_; go_big_quiet_op; go_big_quiet_on) | go_big_quiet_step (first | (with_reducible exact rg (D1 _ _)) | (with_reducible exact rg (D2 _ _)) | (with_reducible exact rg (D3 _ _))))
    refine wpQuiet_nil ?_
    as_aux_lemma =>
      intro _ hw'
      obtain ⟨⟨dq, osq⟩, hw''⟩ := hw'
      subst hw''
      have z5 : Ext V2 (Sort.grow (redrawn V2 dq) osq) := below_regrown _ _ _
      clear D1 D2 D3 g2 g3 g4 gc gw
      go_wp2_with fail
      go_ret
      exact ⟨ret_int HE.out.symm, HX.out.trans z5⟩
end L09
end Go.Proofs.Ytpkmpbpifbpomaa

