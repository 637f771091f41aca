/- The landed calls of layer 9: which faces may be; a face at a level. -/
import Derived.Test.YtpkmpbpifbpomaaLevD09
namespace Go.Proofs.Ytpkmpbpifbpomaa
open Go.RowKit Go.Lib
namespace L09
open L02 L07 L08

/-- The face may be. -/
def faceB (D : FontD) (T : FaceT) : Bool := wiB T.size 65536 4194304 && (wiB T.step 0 50 && (wiB T.up 0 8 && (wiB T.down 0 8 && (traitsB T && ligB D))))
theorem trait_in {T : FaceT} (h : traitsB T = true) : ∀ k, k < T.nt → (0 ≤ T.trt k 0 ∧ T.trt k 0 ≤ 255) ∧ (0 ≤ T.trt k 1 ∧ T.trt k 1 ≤ 1000) ∧ (-1000 ≤ T.trt k 2 ∧ T.trt k 2 ≤ 1000) ∧ (-1000 ≤ T.trt k 3 ∧ T.trt k 3 ≤ 1000) := by
  rw [traitsB, allB_iff] at h
  have each : ∀ k, k < T.nt → (leastT T k ≤ T.trt k 0 ∧ T.trt k 0 ≤ 255) ∧ (0 ≤ T.trt k 1 ∧ T.trt k 1 ≤ 1000) ∧ (-1000 ≤ T.trt k 2 ∧ T.trt k 2 ≤ 1000) ∧ (-1000 ≤ T.trt k 3 ∧ T.trt k 3 ≤ 1000) := fun k hk => by
    simpa [trOk, wiB] using h k hk
  have pos : ∀ k, k < T.nt → 0 ≤ T.trt k 0 := by
    intro k
    induction k with
    | zero => intro hk; exact (each 0 hk).1.1
    | succ k ih => intro hk; have a := ih (by omega); have b := (each (k + 1) hk).1.1; simp only [leastT] at b; omega
  exact fun k hk => ⟨⟨pos k hk, (each k hk).1.2⟩, (each k hk).2⟩
theorem face_in {D : FontD} {T : FaceT} (h : faceB D T = true) : FaceIn T ∧ ligB D = true := by
  simp only [faceB, Bool.and_eq_true] at h
  obtain ⟨h1, h2, h3, h4, h5, h6⟩ := h
  exact ⟨⟨by simpa [wiB] using h1, by simpa [wiB] using h2, by simpa [wiB] using h3, by simpa [wiB] using h4, trait_in h5⟩, h6⟩

set_option maxRecDepth 100000 in
set_option maxHeartbeats 4000000 in
theorem fcheck_any (D : FontD) (P : FontP) (T : FaceT) (Q : FaceQ) (w : World) (ok : FaceOk D P T Q) (sn : SeenFace w D P T Q) :
    Calls Try.prog 33 #[.agg #[.int .i64 D.sum, .int .i64 D.design, .int .i64 D.first, .slice P.xc D.nc P.zc, .slice P.xw D.nw P.zw, .slice P.xh D.nh P.zh, .slice P.xd D.nd P.zd, .slice P.xi D.ni P.zi, .slice P.xs D.ns P.zs, .slice P.xk D.nk P.zk, .slice P.xp D.np P.zp, .int .i64 T.size, .int .i64 T.step, .int .i64 T.up, .int .i64 T.down, .slice Q.xt T.nt Q.zt]] w (Ret w (.bool (faceB D T))) := by
  have C0 := Lib.hid (lwithin_any T.size 65536 4194304)
  have C1 := Lib.hid (lwithin_any T.step 0 50)
  have C2 := Lib.hid (lwithin_any T.up 0 8)
  have C3 := Lib.hid (lwithin_any T.down 0 8)
  have W0 : Ext w (w.alloc (.cells #[.int .i64 D.sum, .int .i64 D.design, .int .i64 D.first, .slice P.xc D.nc P.zc, .slice P.xw D.nw P.zw, .slice P.xh D.nh P.zh, .slice P.xd D.nd P.zd, .slice P.xi D.ni P.zi, .slice P.xs D.ns P.zs, .slice P.xk D.nk P.zk, .slice P.xp D.np P.zp, .int .i64 T.size, .int .i64 T.step, .int .i64 T.up, .int .i64 T.down, .slice Q.xt T.nt Q.zt] 45)) := (Ext.refl _).alloc _
  have C4 := Lib.hid (traits_any T Q (w.alloc (.cells #[.int .i64 D.sum, .int .i64 D.design, .int .i64 D.first, .slice P.xc D.nc P.zc, .slice P.xw D.nw P.zw, .slice P.xh D.nh P.zh, .slice P.xd D.nd P.zd, .slice P.xi D.ni P.zi, .slice P.xs D.ns P.zs, .slice P.xk D.nk P.zk, .slice P.xp D.np P.zp, .int .i64 T.size, .int .i64 T.step, .int .i64 T.up, .int .i64 T.down, .slice Q.xt T.nt Q.zt] 45)) ok.bt ok.rt (sn.ot.ext W0))
  have C5 := Lib.hid (fun w' (x : Ext (w.alloc (.cells #[.int .i64 D.sum, .int .i64 D.design, .int .i64 D.first, .slice P.xc D.nc P.zc, .slice P.xw D.nw P.zw, .slice P.xh D.nh P.zh, .slice P.xd D.nd P.zd, .slice P.xi D.ni P.zi, .slice P.xs D.ns P.zs, .slice P.xk D.nk P.zk, .slice P.xp D.np P.zp, .int .i64 T.size, .int .i64 T.step, .int .i64 T.up, .int .i64 T.down, .slice Q.xt T.nt Q.zt] 45)) w') => show Calls Try.prog 23 #[.agg #[.int .i64 D.sum, .int .i64 D.design, .int .i64 D.first, .slice P.xc D.nc P.zc, .slice P.xw D.nw P.zw, .slice P.xh D.nh P.zh, .slice P.xd D.nd P.zd, .slice P.xi D.ni P.zi, .slice P.xs D.ns P.zs, .slice P.xk D.nk P.zk, .slice P.xp D.np P.zp]] w' (Ret w' (.bool (ligB D))) from lcheck_any D P w' ok.font ((sn.font.ext W0).ext x))
  have HE := Lib.hid (show faceB D T = (wiB T.size 65536 4194304 && (wiB T.step 0 50 && (wiB T.up 0 8 && (wiB T.down 0 8 && (traitsB T && ligB D))))) from rfl)
  have kF : Blk (w.alloc (.cells #[.int .i64 D.sum, .int .i64 D.design, .int .i64 D.first, .slice P.xc D.nc P.zc, .slice P.xw D.nw P.zw, .slice P.xh D.nh P.zh, .slice P.xd D.nd P.zd, .slice P.xi D.ni P.zi, .slice P.xs D.ns P.zs, .slice P.xk D.nk P.zk, .slice P.xp D.np P.zp, .int .i64 T.size, .int .i64 T.step, .int .i64 T.up, .int .i64 T.down, .slice Q.xt T.nt Q.zt] 45)) w.heap.size 45 [.int .i64 D.sum, .int .i64 D.design, .int .i64 D.first, .slice P.xc D.nc P.zc, .slice P.xw D.nw P.zw, .slice P.xh D.nh P.zh, .slice P.xd D.nd P.zd, .slice P.xi D.ni P.zi, .slice P.xs D.ns P.zs, .slice P.xk D.nk P.zk, .slice P.xp D.np P.zp, .int .i64 T.size, .int .i64 T.step, .int .i64 T.up, .int .i64 T.down, .slice Q.xt T.nt Q.zt] := Blk.lit _ _ _ _ rfl
  clear ok sn
  generalize wiB T.size 65536 4194304 = b0 at *
  generalize wiB T.step 0 50 = b1 at *
  generalize wiB T.up 0 8 = b2 at *
  generalize wiB T.down 0 8 = b3 at *
  generalize traitsB T = b4 at *
  generalize ligB D = b5 at *
  rw [HE.out]
  clear HE
  go_enter Try.func33, Try.ntmps33
  go_upto_region 1 with (fail)
  generalize w.alloc (.cells #[.int .i64 D.sum, .int .i64 D.design, .int .i64 D.first, .slice P.xc D.nc P.zc, .slice P.xw D.nw P.zw, .slice P.xh D.nh P.zh, .slice P.xd D.nd P.zd, .slice P.xi D.ni P.zi, .slice P.xs D.ns P.zs, .slice P.xk D.nk P.zk, .slice P.xp D.np P.zp, .int .i64 T.size, .int .i64 T.step, .int .i64 T.up, .int .i64 T.down, .slice Q.xt T.nt Q.zt] 45) = V at *
  generalize w.heap.size = B at *
  have q0 : V.cell? ⟨B, 0, none⟩ = some (.int .i64 D.sum) := kF.cell 0
  have q1 : V.cell? ⟨B, 1, none⟩ = some (.int .i64 D.design) := kF.cell 1
  have q2 : V.cell? ⟨B, 2, none⟩ = some (.int .i64 D.first) := kF.cell 2
  have q3 : V.cell? ⟨B, 3, none⟩ = some (.slice P.xc D.nc P.zc) := kF.cell 3
  have q4 : V.cell? ⟨B, 4, none⟩ = some (.slice P.xw D.nw P.zw) := kF.cell 4
  have q5 : V.cell? ⟨B, 5, none⟩ = some (.slice P.xh D.nh P.zh) := kF.cell 5
  have q6 : V.cell? ⟨B, 6, none⟩ = some (.slice P.xd D.nd P.zd) := kF.cell 6
  have q7 : V.cell? ⟨B, 7, none⟩ = some (.slice P.xi D.ni P.zi) := kF.cell 7
  have q8 : V.cell? ⟨B, 8, none⟩ = some (.slice P.xs D.ns P.zs) := kF.cell 8
  have q9 : V.cell? ⟨B, 9, none⟩ = some (.slice P.xk D.nk P.zk) := kF.cell 9
  have q10 : V.cell? ⟨B, 10, none⟩ = some (.slice P.xp D.np P.zp) := kF.cell 10
  have q11 : V.cell? ⟨B, 11, none⟩ = some (.int .i64 T.size) := kF.cell 11
  have q12 : V.cell? ⟨B, 12, none⟩ = some (.int .i64 T.step) := kF.cell 12
  have q13 : V.cell? ⟨B, 13, none⟩ = some (.int .i64 T.up) := kF.cell 13
  have q14 : V.cell? ⟨B, 14, none⟩ = some (.int .i64 T.down) := kF.cell 14
  have q15 : V.cell? ⟨B, 15, none⟩ = some (.slice Q.xt T.nt Q.zt) := kF.cell 15
  go_wp2_with fail
  refine (C0.out _).mono ?_; rintro e w' ⟨rfl, rfl⟩
  cases b0 with
  | false =>
    go_wp2_with fail
    go_ret
    exact ⟨rfl, W0⟩
  | true =>
  go_wp2_with fail
  refine (C1.out _).mono ?_; rintro e w' ⟨rfl, rfl⟩
  cases b1 with
  | false =>
    go_wp2_with fail
    go_ret
    exact ⟨rfl, W0⟩
  | true =>
  go_wp2_with fail
  refine (C2.out _).mono ?_; rintro e w' ⟨rfl, rfl⟩
  cases b2 with
  | false =>
    go_wp2_with fail
    go_ret
    exact ⟨rfl, W0⟩
  | true =>
  go_wp2_with fail
  refine (C3.out _).mono ?_; rintro e w' ⟨rfl, rfl⟩
  cases b3 with
  | false =>
    go_wp2_with fail
    go_ret
    exact ⟨rfl, W0⟩
  | true =>
  go_wp2_with fail
  refine C4.out.mono ?_; rintro e w1 ⟨rfl, x1⟩
  clear q0 q1 q2 q3 q4 q5 q6 q7 q8 q9 q10 q11 q12 q13 q14 q15
  have k1 := kF.ext x1
  have q0 : w1.cell? ⟨B, 0, none⟩ = some (.int .i64 D.sum) := k1.cell 0
  have q1 : w1.cell? ⟨B, 1, none⟩ = some (.int .i64 D.design) := k1.cell 1
  have q2 : w1.cell? ⟨B, 2, none⟩ = some (.int .i64 D.first) := k1.cell 2
  have q3 : w1.cell? ⟨B, 3, none⟩ = some (.slice P.xc D.nc P.zc) := k1.cell 3
  have q4 : w1.cell? ⟨B, 4, none⟩ = some (.slice P.xw D.nw P.zw) := k1.cell 4
  have q5 : w1.cell? ⟨B, 5, none⟩ = some (.slice P.xh D.nh P.zh) := k1.cell 5
  have q6 : w1.cell? ⟨B, 6, none⟩ = some (.slice P.xd D.nd P.zd) := k1.cell 6
  have q7 : w1.cell? ⟨B, 7, none⟩ = some (.slice P.xi D.ni P.zi) := k1.cell 7
  have q8 : w1.cell? ⟨B, 8, none⟩ = some (.slice P.xs D.ns P.zs) := k1.cell 8
  have q9 : w1.cell? ⟨B, 9, none⟩ = some (.slice P.xk D.nk P.zk) := k1.cell 9
  have q10 : w1.cell? ⟨B, 10, none⟩ = some (.slice P.xp D.np P.zp) := k1.cell 10
  have q11 : w1.cell? ⟨B, 11, none⟩ = some (.int .i64 T.size) := k1.cell 11
  have q12 : w1.cell? ⟨B, 12, none⟩ = some (.int .i64 T.step) := k1.cell 12
  have q13 : w1.cell? ⟨B, 13, none⟩ = some (.int .i64 T.up) := k1.cell 13
  have q14 : w1.cell? ⟨B, 14, none⟩ = some (.int .i64 T.down) := k1.cell 14
  have q15 : w1.cell? ⟨B, 15, none⟩ = some (.slice Q.xt T.nt Q.zt) := k1.cell 15
  cases b4 with
  | false =>
    go_wp2_with fail
    go_ret
    exact ⟨rfl, W0.trans x1⟩
  | true =>
  go_wp2_with fail
  refine (C5.out _ x1).mono ?_; rintro e w2 ⟨rfl, x2⟩
  go_wp2_with fail
  go_ret
  exact ⟨rfl, (W0.trans x1).trans x2⟩
end L09
end Go.Proofs.Ytpkmpbpifbpomaa

