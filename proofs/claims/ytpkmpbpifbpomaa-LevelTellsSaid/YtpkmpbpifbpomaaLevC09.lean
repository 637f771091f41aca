/- The landed levels of layer 9: the methods of a level. -/
import Derived.Test.YtpkmpbpifbpomaaLevB09
namespace Go.Proofs.Ytpkmpbpifbpomaa
open Go.RowKit
namespace L09
open L02 L07

set_option maxRecDepth 100000 in
set_option maxHeartbeats 4000000 in
theorem trait_any (D : FontD) (P : FontP) (T : FaceT) (Q : FaceQ) (lv code : Int) (w : World) (rt : T.nt ≤ Q.zt ∧ Q.zt ≤ maxLen) (ot : SeenN 4 w Q.xt T.nt T.trt) :
    Calls Try.prog 66 #[.agg #[.int .i64 D.sum, .int .i64 D.design, .int .i64 D.first, .slice P.xc D.nc P.zc, .slice P.xw D.nw P.zw, .slice P.xh D.nh P.zh, .slice P.xd D.nd P.zd, .slice P.xi D.ni P.zi, .slice P.xs D.ns P.zs, .slice P.xk D.nk P.zk, .slice P.xp D.np P.zp, .int .i64 T.size, .int .i64 T.step, .int .i64 T.up, .int .i64 T.down, .slice Q.xt T.nt Q.zt, .int .i64 lv], .int .i64 code] w (Ret w (.agg #[.int .i64 (trV T code 0), .int .i64 (trV T code 1), .int .i64 (trV T code 2), .int .i64 (trV T code 3)])) := by
  obtain ⟨V, hV⟩ : ∃ V, V = ((w.alloc (.cells #[.int .i64 D.sum, .int .i64 D.design, .int .i64 D.first, .slice P.xc D.nc P.zc, .slice P.xw D.nw P.zw, .slice P.xh D.nh P.zh, .slice P.xd D.nd P.zd, .slice P.xi D.ni P.zi, .slice P.xs D.ns P.zs, .slice P.xk D.nk P.zk, .slice P.xp D.np P.zp, .int .i64 T.size, .int .i64 T.step, .int .i64 T.up, .int .i64 T.down, .slice Q.xt T.nt Q.zt, .int .i64 lv] 91)).alloc (.cells #[.int .i64 code] 3)).alloc (.cells #[.int .i64 0, .int .i64 0, .int .i64 0, .int .i64 0] 56) := ⟨_, rfl⟩
  have W0 : Ext w V := by rw [hV]; exact (((Ext.refl _).alloc _).alloc _).alloc _
  have kF : Blk V w.heap.size 91 [.int .i64 D.sum, .int .i64 D.design, .int .i64 D.first, .slice P.xc D.nc P.zc, .slice P.xw D.nw P.zw, .slice P.xh D.nh P.zh, .slice P.xd D.nd P.zd, .slice P.xi D.ni P.zi, .slice P.xs D.ns P.zs, .slice P.xk D.nk P.zk, .slice P.xp D.np P.zp, .int .i64 T.size, .int .i64 T.step, .int .i64 T.up, .int .i64 T.down, .slice Q.xt T.nt Q.zt, .int .i64 lv] := by rw [hV]; exact (Blk.lit _ _ _ _ rfl).ext (((Ext.refl _).alloc _).alloc _)
  have kC : Blk V (w.heap.size + 1) 3 [.int .i64 code] := by rw [hV]; exact (Blk.lit _ _ _ _ (by simp)).ext ((Ext.refl _).alloc _)
  have kR : Blk V (w.heap.size + 1 + 1) 56 [.int .i64 0, .int .i64 0, .int .i64 0, .int .i64 0] := by rw [hV]; exact Blk.lit _ _ _ _ (by simp)
  have OT := Lib.hid (fun w' (x : Ext V w') => (ot.ext W0).ext x)
  have IX := Lib.hid (index_any T Q code (w.heap.size + 1) V rt (ot.ext W0) (kC.cell 0))
  have HW := Lib.hid W0
  go_enter Try.func66, Try.ntmps66
  clear ot W0
  go_wp2_with fail
  rw [← hV]
  have hz : w.heap.size + 1 + 1 < V.heap.size := kR.lt
  have HZ := Lib.hid (show w.heap.size ≤ w.heap.size + 1 + 1 by omega)
  clear hV
  generalize w.heap.size + 1 + 1 = b2 at *
  generalize w.heap.size + 1 = b1 at *
  have q0 : V.cell? ⟨w.heap.size, 0, none⟩ = some (.int .i64 D.sum) := kF.cell 0
  have q1 : V.cell? ⟨w.heap.size, 1, none⟩ = some (.int .i64 D.design) := kF.cell 1
  have q2 : V.cell? ⟨w.heap.size, 2, none⟩ = some (.int .i64 D.first) := kF.cell 2
  have q3 : V.cell? ⟨w.heap.size, 3, none⟩ = some (.slice P.xc D.nc P.zc) := kF.cell 3
  have q4 : V.cell? ⟨w.heap.size, 4, none⟩ = some (.slice P.xw D.nw P.zw) := kF.cell 4
  have q5 : V.cell? ⟨w.heap.size, 5, none⟩ = some (.slice P.xh D.nh P.zh) := kF.cell 5
  have q6 : V.cell? ⟨w.heap.size, 6, none⟩ = some (.slice P.xd D.nd P.zd) := kF.cell 6
  have q7 : V.cell? ⟨w.heap.size, 7, none⟩ = some (.slice P.xi D.ni P.zi) := kF.cell 7
  have q8 : V.cell? ⟨w.heap.size, 8, none⟩ = some (.slice P.xs D.ns P.zs) := kF.cell 8
  have q9 : V.cell? ⟨w.heap.size, 9, none⟩ = some (.slice P.xk D.nk P.zk) := kF.cell 9
  have q10 : V.cell? ⟨w.heap.size, 10, none⟩ = some (.slice P.xp D.np P.zp) := kF.cell 10
  have q11 : V.cell? ⟨w.heap.size, 11, none⟩ = some (.int .i64 T.size) := kF.cell 11
  have q12 : V.cell? ⟨w.heap.size, 12, none⟩ = some (.int .i64 T.step) := kF.cell 12
  have q13 : V.cell? ⟨w.heap.size, 13, none⟩ = some (.int .i64 T.up) := kF.cell 13
  have q14 : V.cell? ⟨w.heap.size, 14, none⟩ = some (.int .i64 T.down) := kF.cell 14
  have q15 : V.cell? ⟨w.heap.size, 15, none⟩ = some (.slice Q.xt T.nt Q.zt) := kF.cell 15
  have q16 : V.cell? ⟨w.heap.size, 16, none⟩ = some (.int .i64 lv) := kF.cell 16
  generalize hb0 : w.heap.size = b0 at *
  have HZ : Hid (w.heap.size ≤ b2) := Lib.hid (by rw [hb0]; exact HZ.out)
  clear hb0
  go_wp2_with fail
  refine IX.out.mono ?_; rintro e w1 ⟨rfl, x1⟩
  have kC1 := kC.ext x1
  have kR1 := kR.ext x1
  have kF1 := kF.ext x1
  have c0 := kC1.cell 0
  have f0 := kR1.free 0; have f1 := kR1.free 1; have f2 := kR1.free 2; have f3 := kR1.free 3
  have r0 := kR1.cell 0; have r1 := kR1.cell 1; have r2 := kR1.cell 2; have r3 := kR1.cell 3
  simp only [List.getElem?_cons_zero, List.getElem?_cons_succ] at c0 r0 r1 r2 r3
  have hz1 := kR1.lt
  have q15 : w1.cell? ⟨b0, 15, none⟩ = some (.slice Q.xt T.nt Q.zt) := kF1.cell 15
  have HX := Lib.hid (HW.out.trans x1)
  have OT1 := OT.out w1 x1
  clear q0 q1 q2 q3 q4 q5 q6 q7 q8 q9 q10 q11 q12 q13 q14 q16 kF kC kR IX OT kF1 kC1 hz HW x1
  cases h : atT T code with
  | none =>
    have H := Lib.hid (show Value.agg #[.int .i64 code, .int .i64 1000, .int .i64 0, .int .i64 0] = .agg #[.int .i64 (trV T code 0), .int .i64 (trV T code 1), .int .i64 (trV T code 2), .int .i64 (trV T code 3)] by simp [trV, h])
    have hi : idxT T code = -1 := by simp [idxT, h]
    rw [hi]
    clear h hi OT1 q15
    go_wp2_with fail
    have hb := (((kR1.set 0 (.int .i64 code)).set 1 (.int .i64 1000)).set 2 (.int .i64 0)).set 3 (.int .i64 0)
    have k0 := hb.cell 0; have k1 := hb.cell 1; have k2 := hb.cell 2; have k3 := hb.cell 3
    simp only [List.set_cons_zero, List.set_cons_succ, List.getElem?_cons_zero, List.getElem?_cons_succ] at k0 k1 k2 k3
    refine bodyPost_ret (v := .agg #[.int .i64 code, .int .i64 1000, .int .i64 0, .int .i64 0]) (by simp [results, Try.results66, go_sem, k0, k1, k2, k3]) rfl ⟨by rw [H.out], ?_⟩
    exact (((HX.out.setCell (p := ⟨b2, 0, none⟩) HZ.out _).setCell (p := ⟨b2, 1, none⟩) HZ.out _).setCell (p := ⟨b2, 2, none⟩) HZ.out _).setCell (p := ⟨b2, 3, none⟩) HZ.out _
  | some k =>
    have H := Lib.hid (show Value.agg #[.int .i64 code, .int .i64 (T.trt k 1), .int .i64 (T.trt k 2), .int .i64 (T.trt k 3)] = .agg #[.int .i64 (trV T code 0), .int .i64 (trV T code 1), .int .i64 (trV T code 2), .int .i64 (trV T code 3)] by simp [trV, h, (at_some h).2])
    have hi : idxT T code = k := by simp [idxT, h]
    rw [hi]
    obtain ⟨hk, _⟩ := at_some h
    obtain ⟨ad, hA, u0, u1, u2, u3⟩ := row4 OT1 hk
    rw [hA] at q15
    clear h hi OT1 c0 hA
    go_wp2_with fail
    have hb := (((kR1.set 0 (.int .i64 code)).set 1 (.int .i64 (T.trt k 1))).set 2 (.int .i64 (T.trt k 2))).set 3 (.int .i64 (T.trt k 3))
    have k0 := hb.cell 0; have k1 := hb.cell 1; have k2 := hb.cell 2; have k3 := hb.cell 3
    simp only [List.set_cons_zero, List.set_cons_succ, List.getElem?_cons_zero, List.getElem?_cons_succ] at k0 k1 k2 k3
    refine bodyPost_ret (v := .agg #[.int .i64 code, .int .i64 (T.trt k 1), .int .i64 (T.trt k 2), .int .i64 (T.trt k 3)]) (by simp [results, Try.results66, go_sem, k0, k1, k2, k3]) rfl ⟨by rw [H.out], ?_⟩
    exact (((HX.out.setCell (p := ⟨b2, 0, none⟩) HZ.out _).setCell (p := ⟨b2, 1, none⟩) HZ.out _).setCell (p := ⟨b2, 2, none⟩) HZ.out _).setCell (p := ⟨b2, 3, none⟩) HZ.out _

/-- Factors that are small. -/
theorem mul_in {x s A B : Int} (h1 : -A ≤ x) (h2 : x ≤ A) (h3 : -B ≤ s) (h4 : s ≤ B) : -(A * B) ≤ x * s ∧ x * s ≤ A * B := by
  have hA : 0 ≤ A := by omega
  have hB : 0 ≤ B := by omega
  rcases Int.le_total 0 s with hs | hs
  · have a1 := Int.mul_le_mul_of_nonneg_right h2 hs
    have a2 := Int.mul_le_mul_of_nonneg_left h4 hA
    have a3 := Int.mul_le_mul_of_nonneg_right h1 hs
    rw [Int.neg_mul] at a3
    omega
  · have hs' : 0 ≤ -s := by omega
    have a1 := Int.mul_le_mul_of_nonneg_right h2 hs'
    have a2 := Int.mul_le_mul_of_nonneg_left (show -s ≤ B by omega) hA
    have a3 := Int.mul_le_mul_of_nonneg_right h1 hs'
    simp only [Int.neg_mul, Int.mul_neg, Int.neg_neg] at a1 a2 a3
    omega
/-- A fix in points. -/
def pts (T : FaceT) (x : Int) : Int := x * T.size / 1048576
/-- A face's numbers may be. -/
structure FaceIn (T : FaceT) : Prop where
  size : 65536 ≤ T.size ∧ T.size ≤ 4194304
  step : 0 ≤ T.step ∧ T.step ≤ 50
  up : 0 ≤ T.up ∧ T.up ≤ 8
  down : 0 ≤ T.down ∧ T.down ≤ 8
  trt : ∀ k, k < T.nt → (0 ≤ T.trt k 0 ∧ T.trt k 0 ≤ 255) ∧ (0 ≤ T.trt k 1 ∧ T.trt k 1 ≤ 1000) ∧ (-1000 ≤ T.trt k 2 ∧ T.trt k 2 ≤ 1000) ∧ (-1000 ≤ T.trt k 3 ∧ T.trt k 3 ≤ 1000)
theorem FaceIn.tr {T : FaceT} (h : FaceIn T) (code : Int) : (0 ≤ trV T code 1 ∧ trV T code 1 ≤ 1000) ∧ (-1000 ≤ trV T code 2 ∧ trV T code 2 ≤ 1000) ∧ (-1000 ≤ trV T code 3 ∧ trV T code 3 ≤ 1000) := by
  cases e : atT T code with
  | none => simp [trV, e]
  | some k => simpa [trV, e] using (h.trt k (at_some e).1).2
theorem pts_in {T : FaceT} (h : FaceIn T) {x : Int} (h1 : -16777216 ≤ x) (h2 : x ≤ 16777215) :
    mayB x T.size 1048576 = true ∧ fitB (pts T x) = true ∧ -67108864 ≤ pts T x ∧ pts T x ≤ 67108864 := by
  obtain ⟨s1, s2⟩ := h.size
  have hp := mul_in (A := 16777216) (B := 4194304) h1 (by omega) (by omega) s2
  refine ⟨mayB_iff.2 ⟨by omega, by omega, by omega, by omega⟩, fitB_iff.2 ?_, ?_⟩ <;> unfold pts <;> omega
theorem strd_in {x m : Int} (h1 : -67108864 ≤ x) (h2 : x ≤ 67108864) (m1 : -400000 ≤ m) (m2 : m ≤ 400000) :
    mayB x m 1000000 = true ∧ fitB (x * m / 1000000) = true ∧ -26843546 ≤ x * m / 1000000 ∧ x * m / 1000000 ≤ 26843546 := by
  have hp := mul_in (A := 67108864) (B := 400000) h1 h2 m1 m2
  refine ⟨mayB_iff.2 ⟨by omega, by omega, by omega, by omega⟩, fitB_iff.2 ?_, ?_⟩ <;> omega

set_option maxRecDepth 100000 in
set_option maxHeartbeats 4000000 in
theorem points_any (D : FontD) (P : FontP) (T : FaceT) (Q : FaceQ) (lv x : Int) (w : World) (h : FaceIn T) (h1 : -16777216 ≤ x) (h2 : x ≤ 16777215) :
    Calls Try.prog 64 #[.agg #[.int .i64 D.sum, .int .i64 D.design, .int .i64 D.first, .slice P.xc D.nc P.zc, .slice P.xw D.nw P.zw, .slice P.xh D.nh P.zh, .slice P.xd D.nd P.zd, .slice P.xi D.ni P.zi, .slice P.xs D.ns P.zs, .slice P.xk D.nk P.zk, .slice P.xp D.np P.zp, .int .i64 T.size, .int .i64 T.step, .int .i64 T.up, .int .i64 T.down, .slice Q.xt T.nt Q.zt, .int .i64 lv], .int .i64 x] w (Ret w (.int .i64 (pts T x))) := by
  obtain ⟨p1, p2, _, _⟩ := pts_in h h1 h2
  have C := Lib.hid (fun w => part_ok p1 rfl p2 w)
  clear p1 p2 h
  go_enter Try.func64, Try.ntmps64
  go_wp2_with fail
  refine (C.out _).mono ?_; rintro e w1 ⟨rfl, x1⟩
  go_wp2_with fail
  go_ret
  exact ⟨rfl, ((Ext.refl _).alloc _).trans x1⟩

set_option maxRecDepth 100000 in
set_option maxHeartbeats 4000000 in
theorem stretched_any (D : FontD) (P : FontP) (T : FaceT) (Q : FaceQ) (lv x s : Int) (w : World) (h : FaceIn T) (h1 : -67108864 ≤ x) (h2 : x ≤ 67108864) (l1 : -8 ≤ lv) (l2 : lv ≤ 8) (s1 : 0 ≤ s) (s2 : s ≤ 1000) :
    Calls Try.prog 63 #[.agg #[.int .i64 D.sum, .int .i64 D.design, .int .i64 D.first, .slice P.xc D.nc P.zc, .slice P.xw D.nw P.zw, .slice P.xh D.nh P.zh, .slice P.xd D.nd P.zd, .slice P.xi D.ni P.zi, .slice P.xs D.ns P.zs, .slice P.xk D.nk P.zk, .slice P.xp D.np P.zp, .int .i64 T.size, .int .i64 T.step, .int .i64 T.up, .int .i64 T.down, .slice Q.xt T.nt Q.zt, .int .i64 lv], .int .i64 x, .int .i64 s] w (Ret w (.int .i64 (x + x * (lv * T.step * s) / 1000000))) := by
  obtain ⟨t1, t2⟩ := h.step
  have p := mul_in (A := 8) (B := 50) l1 l2 (show -50 ≤ T.step by omega) t2
  obtain ⟨p1, p2⟩ := p
  have q := mul_in (A := 400) (B := 1000) (by omega) (show lv * T.step ≤ 400 by omega) (show -1000 ≤ s by omega) s2
  obtain ⟨q1, q2⟩ := q
  generalize gp : lv * T.step = p at *
  generalize gq : p * s = m at *
  obtain ⟨r1, r2, r3, r4⟩ := strd_in h1 h2 (show -400000 ≤ m by omega) (show m ≤ 400000 by omega)
  have C := Lib.hid (fun w => part_ok r1 rfl r2 w)
  generalize x * m / 1000000 = d at *
  clear r1 r2 h
  go_enter Try.func63, Try.ntmps63
  go_wp2_with fail
  refine (C.out _).mono ?_; rintro e w1 ⟨rfl, x1⟩
  go_wp2_with fail
  go_ret
  exact ⟨rfl, ((Ext.refl _).alloc _).trans x1⟩
end L09
end Go.Proofs.Ytpkmpbpifbpomaa

