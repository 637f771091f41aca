/- LevelSizes: at twice the size a character is, at the level 0, twice as wide, or one more, and a kern (at most three hundred of each): for every input. -/
import Derived.Test.YtpkmpbpifbpomaaFew09
namespace Go.Proofs.Ytpkmpbpifbpomaa
open Go.ChangeShapes Go.WideShapes Go.ChangeAt Go.RowKit Go.Lib
namespace LevelSizes
open L02 L07 L08 L09


theorem clamp_nought {T : FaceT} (h : FaceIn T) : clampN T 0 = 0 := by
  have := h.up; have := h.down; unfold clampN; omega
theorem wide_nought (D : FontD) (T : FaceT) (code : Int) : wideN D T code 0 = pts T (wfix D code) := by
  rw [wideN, Int.zero_mul, Int.zero_mul, Int.mul_zero]; simp
theorem kern_nought (T : FaceT) (x : Int) : kernN T x 0 = pts T x := by
  rw [kernN, Int.zero_mul, Int.mul_zero]; simp
theorem double (x s : Int) : x * (2 * s) / 1048576 = 2 * (x * s / 1048576) ∨ x * (2 * s) / 1048576 = 2 * (x * s / 1048576) + 1 := by
  rw [← Int.mul_assoc, Int.mul_comm x 2, Int.mul_assoc]
  generalize x * s = y
  omega
theorem face_double {D : FontD} {T : FaceT} (hs : T.size ≤ 2097152) (h : faceB D T = true) : faceB D ⟨2 * T.size, T.step, T.up, T.down, T.nt, T.trt⟩ = true := by
  have s := (face_in h).1.size
  simp only [faceB, Bool.and_eq_true] at h ⊢
  exact ⟨by simp [wiB]; omega, h.2⟩
theorem wfix_in {D : FontD} {code : Int} (h : hasB D code = true) : -16777216 ≤ wfix D code ∧ wfix D code ≤ 16777215 := by
  obtain ⟨I, c1, c2⟩ := L09.has_in h
  have hk : (code - D.first).toNat < D.nc := by omega
  obtain ⟨v0, v1⟩ := (I.chr _ hk).1
  exact I.wd _ (by omega)
def SizesP (D : FontD) (T : FaceT) (z code fix : Int) : Prop :=
  (errF D T code = 0 ∨ errF D ⟨z, T.step, T.up, T.down, T.nt, T.trt⟩ code = errF D T code ∨ faceB D T = false) ∧ (errF D T code = 0 → kernE D T fix = 0 → T.size ≤ 2097152 → errF D ⟨z, T.step, T.up, T.down, T.nt, T.trt⟩ code = 0 ∧ kernE D ⟨z, T.step, T.up, T.down, T.nt, T.trt⟩ fix = 0 ∧
    (widthV D ⟨z, T.step, T.up, T.down, T.nt, T.trt⟩ code 0 = 2 * widthV D T code 0 ∨ widthV D ⟨z, T.step, T.up, T.down, T.nt, T.trt⟩ code 0 = 2 * widthV D T code 0 + 1) ∧
    (kernV D ⟨z, T.step, T.up, T.down, T.nt, T.trt⟩ fix 0 = 2 * kernV D T fix 0 ∨ kernV D ⟨z, T.step, T.up, T.down, T.nt, T.trt⟩ fix 0 = 2 * kernV D T fix 0 + 1) ∧ (-100000000 ≤ widthV D T code 0 ∧ widthV D T code 0 ≤ 100000000) ∧ (-100000000 ≤ kernV D T fix 0 ∧ kernV D T fix 0 ≤ 100000000))
theorem sizes_in {D : FontD} {T : FaceT} (hs : T.size ≤ 2097152) (code fix : Int) : SizesP D T (2 * T.size) code fix := by
  cases hF : faceB D T with
  | false => exact ⟨.inr (.inr hF), fun h => by simp [errF, hF] at h⟩
  | true =>
    have hG := face_double hs hF
    refine ⟨.inr (.inl (by simp [errF, hF, hG])), fun h k _ => ?_⟩
    have hh : hasB D code = true := by
      cases e : hasB D code with
      | true => rfl
      | false => simp [errF, hF, e] at h
    have hx : fixB fix = true := by
      cases e : fixB fix with
      | true => rfl
      | false => simp [kernE, e] at k
    have e2 : errF D ⟨2 * T.size, T.step, T.up, T.down, T.nt, T.trt⟩ code = 0 := by simp [errF, hG, hh]
    have k2 : kernE D ⟨2 * T.size, T.step, T.up, T.down, T.nt, T.trt⟩ fix = 0 := by simp [kernE, hG, hx]
    have hx' : -16777216 ≤ fix ∧ fix ≤ 16777215 := by simpa [fixB] using hx
    have p1 := (pts_in (face_in hF).1 (wfix_in hh).1 (wfix_in hh).2).2.2
    have p2 := (pts_in (face_in hF).1 hx'.1 hx'.2).2.2
    refine ⟨e2, k2, ?_, ?_, ?_, ?_⟩
    · rw [widthV, if_pos e2, widthV, if_pos h, clamp_nought (face_in hF).1, clamp_nought (face_in hG).1, wide_nought, wide_nought]
      exact double _ _
    · rw [kernV, if_pos k2, kernV, if_pos k, clamp_nought (face_in hF).1, clamp_nought (face_in hG).1, kern_nought, kern_nought]
      exact double _ _
    · rw [widthV, if_pos h, clamp_nought (face_in hF).1, wide_nought]; omega
    · rw [kernV, if_pos k, clamp_nought (face_in hF).1, kern_nought]; omega
theorem sizes_out {D : FontD} {T : FaceT} {z : Int} (hs : T.size < 0) (code fix : Int) : SizesP D T z code fix := by
  have hF : faceB D T = false := by
    cases e : faceB D T with
    | false => rfl
    | true => have := (face_in e).1.size; omega
  exact ⟨.inr (.inr hF), fun h => by simp [errF, hF] at h⟩
theorem wrap64_wide (n : Int) : Wide (wrap64 n) := by
  unfold Wide wrap64
  omega

set_option maxRecDepth 100000 in
set_option maxHeartbeats 16000000 in
theorem core_big (D : FontD) (P : FontP) (T : FaceT) (Q : FaceQ) (code fix : Int) (w : World) (hs : 2097152 < T.size) (_ : T.size ≤ 9223372036854775807) :
    Calls Try.prog 8 #[.agg #[.int .i64 D.sum, .int .i64 D.design, .int .i64 D.first, .slice P.xc D.nc P.zc, .slice P.xw D.nw P.zw, .slice P.xh D.nh P.zh, .slice P.xd D.nd P.zd, .slice P.xi D.ni P.zi, .slice P.xs D.ns P.zs, .slice P.xk D.nk P.zk, .slice P.xp D.np P.zp, .int .i64 T.size, .int .i64 T.step, .int .i64 T.up, .int .i64 T.down, .slice Q.xt T.nt Q.zt], .int .i64 code, .int .i64 fix] w (Ret w (.bool true)) := by
  obtain ⟨V, hV⟩ : ∃ V, V = w.alloc (.cells #[.int .i64 D.sum, .int .i64 D.design, .int .i64 D.first, .slice P.xc D.nc P.zc, .slice P.xw D.nw P.zw, .slice P.xh D.nh P.zh, .slice P.xd D.nd P.zd, .slice P.xi D.ni P.zi, .slice P.xs D.ns P.zs, .slice P.xk D.nk P.zk, .slice P.xp D.np P.zp, .int .i64 T.size, .int .i64 T.step, .int .i64 T.up, .int .i64 T.down, .slice Q.xt T.nt Q.zt] 45) := ⟨_, rfl⟩
  have W0 : Ext w V := by rw [hV]; exact (Ext.refl _).alloc _
  have kF : Blk V w.heap.size 45 [.int .i64 D.sum, .int .i64 D.design, .int .i64 D.first, .slice P.xc D.nc P.zc, .slice P.xw D.nw P.zw, .slice P.xh D.nh P.zh, .slice P.xd D.nd P.zd, .slice P.xi D.ni P.zi, .slice P.xs D.ns P.zs, .slice P.xk D.nk P.zk, .slice P.xp D.np P.zp, .int .i64 T.size, .int .i64 T.step, .int .i64 T.up, .int .i64 T.down, .slice Q.xt T.nt Q.zt] := by rw [hV]; exact Blk.lit _ _ _ _ rfl
  have K0 := Lib.hid (fun w' (_ : Ext V w') => fewf_any D P T Q w')
  go_enter Try.func8, Try.ntmps8
  go_upto_region 1 with (fail)
  rw [← hV]
  clear hV
  generalize w.heap.size = B at *
  have HG := Lib.hid kF
  have HW := Lib.hid W0
  clear kF W0
  go_wp2_with fail
  refine (awake_any _).mono ?_; rintro e w1 ⟨rfl, x1⟩
  have X1 := Lib.hid x1
  have HG1 := Lib.hid (HG.out.ext x1)
  clear x1
  go_wp2_with (first | (refine wpList_load (by kernel_rfl) 45 _ rfl B rfl [.int .i64 D.sum, .int .i64 D.design, .int .i64 D.first, .slice P.xc D.nc P.zc, .slice P.xw D.nw P.zw, .slice P.xh D.nh P.zh, .slice P.xd D.nd P.zd, .slice P.xi D.ni P.zi, .slice P.xs D.ns P.zs, .slice P.xk D.nk P.zk, .slice P.xp D.np P.zp, .int .i64 T.size, .int .i64 T.step, .int .i64 T.up, .int .i64 T.down, .slice Q.xt T.nt Q.zt] _ HG1.out.range Try.underlying45 rfl (by kernel_rfl) ?_) | fail)
  refine (K0.out _ X1.out).mono ?_; rintro e w2 ⟨rfl, x2⟩
  have X2 := Lib.hid (X1.out.trans x2)
  have HG2 := Lib.hid (HG1.out.ext x2)
  clear x2
  have q11 : w2.cell? ⟨B, 11, none⟩ = some (.int .i64 T.size) := HG2.out.cell 11
  cases fewF D T with
  | false =>
    go_wp2_with fail
    go_ret
    exact ⟨rfl, HW.out.trans X2.out⟩
  | true =>
    go_wp2_with fail
    go_ret
    exact ⟨rfl, HW.out.trans X2.out⟩

set_option maxRecDepth 100000 in
set_option maxHeartbeats 16000000 in
theorem core_in (D : FontD) (P : FontP) (T : FaceT) (Q : FaceQ) (code fix a e b h c i d j : Int) (ck : Bool) (w : World) (z1 : -4611686018427387904 ≤ T.size) (z2 : T.size ≤ 9223372036854775807)
    (K1 : ∀ w', Ext w w' → Calls Try.prog 27 #[.agg #[.int .i64 D.sum, .int .i64 D.design, .int .i64 D.first, .slice P.xc D.nc P.zc, .slice P.xw D.nw P.zw, .slice P.xh D.nh P.zh, .slice P.xd D.nd P.zd, .slice P.xi D.ni P.zi, .slice P.xs D.ns P.zs, .slice P.xk D.nk P.zk, .slice P.xp D.np P.zp, .int .i64 T.size, .int .i64 T.step, .int .i64 T.up, .int .i64 T.down, .slice Q.xt T.nt Q.zt], .int .i64 code, .int .i64 0] w' (Ret w' (.tuple #[.int .i64 (a), .int .i64 (e)])))
    (K2 : ∀ w', Ext w w' → Calls Try.prog 27 #[.agg #[.int .i64 D.sum, .int .i64 D.design, .int .i64 D.first, .slice P.xc D.nc P.zc, .slice P.xw D.nw P.zw, .slice P.xh D.nh P.zh, .slice P.xd D.nd P.zd, .slice P.xi D.ni P.zi, .slice P.xs D.ns P.zs, .slice P.xk D.nk P.zk, .slice P.xp D.np P.zp, .int .i64 (2 * T.size), .int .i64 T.step, .int .i64 T.up, .int .i64 T.down, .slice Q.xt T.nt Q.zt], .int .i64 code, .int .i64 0] w' (Ret w' (.tuple #[.int .i64 (b), .int .i64 (h)])))
    (K3 : ∀ w', Ext w w' → Calls Try.prog 29 #[.agg #[.int .i64 D.sum, .int .i64 D.design, .int .i64 D.first, .slice P.xc D.nc P.zc, .slice P.xw D.nw P.zw, .slice P.xh D.nh P.zh, .slice P.xd D.nd P.zd, .slice P.xi D.ni P.zi, .slice P.xs D.ns P.zs, .slice P.xk D.nk P.zk, .slice P.xp D.np P.zp, .int .i64 T.size, .int .i64 T.step, .int .i64 T.up, .int .i64 T.down, .slice Q.xt T.nt Q.zt], .int .i64 fix, .int .i64 0] w' (Ret w' (.tuple #[.int .i64 (c), .int .i64 (i)])))
    (K4 : ∀ w', Ext w w' → Calls Try.prog 29 #[.agg #[.int .i64 D.sum, .int .i64 D.design, .int .i64 D.first, .slice P.xc D.nc P.zc, .slice P.xw D.nw P.zw, .slice P.xh D.nh P.zh, .slice P.xd D.nd P.zd, .slice P.xi D.ni P.zi, .slice P.xs D.ns P.zs, .slice P.xk D.nk P.zk, .slice P.xp D.np P.zp, .int .i64 (2 * T.size), .int .i64 T.step, .int .i64 T.up, .int .i64 T.down, .slice Q.xt T.nt Q.zt], .int .i64 fix, .int .i64 0] w' (Ret w' (.tuple #[.int .i64 (d), .int .i64 (j)])))
    (K5 : ∀ w', Ext w w' → Calls Try.prog 33 #[.agg #[.int .i64 D.sum, .int .i64 D.design, .int .i64 D.first, .slice P.xc D.nc P.zc, .slice P.xw D.nw P.zw, .slice P.xh D.nh P.zh, .slice P.xd D.nd P.zd, .slice P.xi D.ni P.zi, .slice P.xs D.ns P.zs, .slice P.xk D.nk P.zk, .slice P.xp D.np P.zp, .int .i64 T.size, .int .i64 T.step, .int .i64 T.up, .int .i64 T.down, .slice Q.xt T.nt Q.zt]] w' (Ret w' (.bool ck)))
    (FIN : (e = 0 ∨ h = e ∨ ck = false) ∧ (e = 0 → i = 0 → T.size ≤ 2097152 → h = 0 ∧ j = 0 ∧ (b = 2 * a ∨ b = 2 * a + 1) ∧ (d = 2 * c ∨ d = 2 * c + 1) ∧ (-100000000 ≤ a ∧ a ≤ 100000000) ∧ (-100000000 ≤ c ∧ c ≤ 100000000))) :
    Calls Try.prog 8 #[.agg #[.int .i64 D.sum, .int .i64 D.design, .int .i64 D.first, .slice P.xc D.nc P.zc, .slice P.xw D.nw P.zw, .slice P.xh D.nh P.zh, .slice P.xd D.nd P.zd, .slice P.xi D.ni P.zi, .slice P.xs D.ns P.zs, .slice P.xk D.nk P.zk, .slice P.xp D.np P.zp, .int .i64 T.size, .int .i64 T.step, .int .i64 T.up, .int .i64 T.down, .slice Q.xt T.nt Q.zt], .int .i64 code, .int .i64 fix] w (Ret w (.bool true)) := by
  obtain ⟨V, hV⟩ : ∃ V, V = w.alloc (.cells #[.int .i64 D.sum, .int .i64 D.design, .int .i64 D.first, .slice P.xc D.nc P.zc, .slice P.xw D.nw P.zw, .slice P.xh D.nh P.zh, .slice P.xd D.nd P.zd, .slice P.xi D.ni P.zi, .slice P.xs D.ns P.zs, .slice P.xk D.nk P.zk, .slice P.xp D.np P.zp, .int .i64 T.size, .int .i64 T.step, .int .i64 T.up, .int .i64 T.down, .slice Q.xt T.nt Q.zt] 45) := ⟨_, rfl⟩
  have W0 : Ext w V := by rw [hV]; exact (Ext.refl _).alloc _
  have kF : Blk V w.heap.size 45 [.int .i64 D.sum, .int .i64 D.design, .int .i64 D.first, .slice P.xc D.nc P.zc, .slice P.xw D.nw P.zw, .slice P.xh D.nh P.zh, .slice P.xd D.nd P.zd, .slice P.xi D.ni P.zi, .slice P.xs D.ns P.zs, .slice P.xk D.nk P.zk, .slice P.xp D.np P.zp, .int .i64 T.size, .int .i64 T.step, .int .i64 T.up, .int .i64 T.down, .slice Q.xt T.nt Q.zt] := by rw [hV]; exact Blk.lit _ _ _ _ rfl
  have K1 := Lib.hid (fun w' (x : Ext V w') => K1 w' (W0.trans x))
  have K2 := Lib.hid (fun w' (x : Ext V w') => K2 w' (W0.trans x))
  have K3 := Lib.hid (fun w' (x : Ext V w') => K3 w' (W0.trans x))
  have K4 := Lib.hid (fun w' (x : Ext V w') => K4 w' (W0.trans x))
  have K5 := Lib.hid (fun w' (x : Ext V w') => K5 w' (W0.trans x))
  have K0 := Lib.hid (fun w' (_ : Ext V w') => fewf_any D P T Q w')
  have FIN := Lib.hid FIN
  go_enter Try.func8, Try.ntmps8
  go_upto_region 1 with (fail)
  rw [← hV]
  clear hV
  generalize w.heap.size = B at *
  have HG := Lib.hid kF
  have HW := Lib.hid W0
  clear kF W0
  go_wp2_with fail
  refine (awake_any _).mono ?_; rintro e w1 ⟨rfl, x1⟩
  have X1 := Lib.hid x1
  have HG1 := Lib.hid (HG.out.ext x1)
  clear x1
  go_wp2_with (first | (refine wpList_load (by kernel_rfl) 45 _ rfl B rfl [.int .i64 D.sum, .int .i64 D.design, .int .i64 D.first, .slice P.xc D.nc P.zc, .slice P.xw D.nw P.zw, .slice P.xh D.nh P.zh, .slice P.xd D.nd P.zd, .slice P.xi D.ni P.zi, .slice P.xs D.ns P.zs, .slice P.xk D.nk P.zk, .slice P.xp D.np P.zp, .int .i64 T.size, .int .i64 T.step, .int .i64 T.up, .int .i64 T.down, .slice Q.xt T.nt Q.zt] _ HG1.out.range Try.underlying45 rfl (by kernel_rfl) ?_) | fail)
  refine (K0.out _ X1.out).mono ?_; rintro e w2 ⟨rfl, x2⟩
  have X2 := Lib.hid (X1.out.trans x2)
  have HG2 := Lib.hid (HG1.out.ext x2)
  clear x2
  have q11 : w2.cell? ⟨B, 11, none⟩ = some (.int .i64 T.size) := HG2.out.cell 11
  cases fewF D T with
  | false =>
    go_wp2_with fail
    go_ret
    exact ⟨rfl, HW.out.trans X2.out⟩
  | true =>
  by_cases hs : 2097152 < T.size
  · first
      | (exfalso; omega)
      | (go_wp2_with fail
         go_ret
         exact ⟨rfl, HW.out.trans X2.out⟩)
  have lb := HG2.out.lt
  have XA := Lib.hid (X2.out.alloc (.cells #[.int .i64 D.sum, .int .i64 D.design, .int .i64 D.first, .slice P.xc D.nc P.zc, .slice P.xw D.nw P.zw, .slice P.xh D.nh P.zh, .slice P.xd D.nd P.zd, .slice P.xi D.ni P.zi, .slice P.xs D.ns P.zs, .slice P.xk D.nk P.zk, .slice P.xp D.np P.zp, .int .i64 (2 * T.size), .int .i64 T.step, .int .i64 T.up, .int .i64 T.down, .slice Q.xt T.nt Q.zt] 45))
  have HGA := Lib.hid (HG2.out.ext ((Ext.refl _).alloc (.cells #[.int .i64 D.sum, .int .i64 D.design, .int .i64 D.first, .slice P.xc D.nc P.zc, .slice P.xw D.nw P.zw, .slice P.xh D.nh P.zh, .slice P.xd D.nd P.zd, .slice P.xi D.ni P.zi, .slice P.xs D.ns P.zs, .slice P.xk D.nk P.zk, .slice P.xp D.np P.zp, .int .i64 (2 * T.size), .int .i64 T.step, .int .i64 T.up, .int .i64 T.down, .slice Q.xt T.nt Q.zt] 45)))
  have HHA := Lib.hid (Blk.lit w2 w2.heap.size 45 #[.int .i64 D.sum, .int .i64 D.design, .int .i64 D.first, .slice P.xc D.nc P.zc, .slice P.xw D.nw P.zw, .slice P.xh D.nh P.zh, .slice P.xd D.nd P.zd, .slice P.xi D.ni P.zi, .slice P.xs D.ns P.zs, .slice P.xk D.nk P.zk, .slice P.xp D.np P.zp, .int .i64 (2 * T.size), .int .i64 T.step, .int .i64 T.up, .int .i64 T.down, .slice Q.xt T.nt Q.zt] rfl)
  go_upto_region 6 with (first | (refine wpList_load (by kernel_rfl) 45 _ rfl B rfl [.int .i64 D.sum, .int .i64 D.design, .int .i64 D.first, .slice P.xc D.nc P.zc, .slice P.xw D.nw P.zw, .slice P.xh D.nh P.zh, .slice P.xd D.nd P.zd, .slice P.xi D.ni P.zi, .slice P.xs D.ns P.zs, .slice P.xk D.nk P.zk, .slice P.xp D.np P.zp, .int .i64 T.size, .int .i64 T.step, .int .i64 T.up, .int .i64 T.down, .slice Q.xt T.nt Q.zt] _ HG2.out.range Try.underlying45 rfl (by kernel_rfl) ?_) | fail)
  generalize w2.alloc (.cells #[.int .i64 D.sum, .int .i64 D.design, .int .i64 D.first, .slice P.xc D.nc P.zc, .slice P.xw D.nw P.zw, .slice P.xh D.nh P.zh, .slice P.xd D.nd P.zd, .slice P.xi D.ni P.zi, .slice P.xs D.ns P.zs, .slice P.xk D.nk P.zk, .slice P.xp D.np P.zp, .int .i64 (2 * T.size), .int .i64 T.step, .int .i64 T.up, .int .i64 T.down, .slice Q.xt T.nt Q.zt] 45) = V2 at *
  generalize w2.heap.size = R at *
  go_wp2_with (first | (refine wpList_load (by kernel_rfl) 45 _ rfl B rfl [.int .i64 D.sum, .int .i64 D.design, .int .i64 D.first, .slice P.xc D.nc P.zc, .slice P.xw D.nw P.zw, .slice P.xh D.nh P.zh, .slice P.xd D.nd P.zd, .slice P.xi D.ni P.zi, .slice P.xs D.ns P.zs, .slice P.xk D.nk P.zk, .slice P.xp D.np P.zp, .int .i64 T.size, .int .i64 T.step, .int .i64 T.up, .int .i64 T.down, .slice Q.xt T.nt Q.zt] _ HGA.out.range Try.underlying45 rfl (by kernel_rfl) ?_) | fail)
  refine (K1.out _ XA.out).mono ?_; rintro e w3 ⟨rfl, x3⟩
  have X3 := Lib.hid (XA.out.trans x3)
  have HG3 := Lib.hid (HGA.out.ext x3)
  have HH3 := Lib.hid (HHA.out.ext x3)
  clear x3
  go_wp2_with (first | (refine wpList_load (by kernel_rfl) 45 _ rfl B rfl [.int .i64 D.sum, .int .i64 D.design, .int .i64 D.first, .slice P.xc D.nc P.zc, .slice P.xw D.nw P.zw, .slice P.xh D.nh P.zh, .slice P.xd D.nd P.zd, .slice P.xi D.ni P.zi, .slice P.xs D.ns P.zs, .slice P.xk D.nk P.zk, .slice P.xp D.np P.zp, .int .i64 T.size, .int .i64 T.step, .int .i64 T.up, .int .i64 T.down, .slice Q.xt T.nt Q.zt] _ HG3.out.range Try.underlying45 rfl (by kernel_rfl) ?_) | (refine wpList_load (by kernel_rfl) 45 _ rfl R rfl [.int .i64 D.sum, .int .i64 D.design, .int .i64 D.first, .slice P.xc D.nc P.zc, .slice P.xw D.nw P.zw, .slice P.xh D.nh P.zh, .slice P.xd D.nd P.zd, .slice P.xi D.ni P.zi, .slice P.xs D.ns P.zs, .slice P.xk D.nk P.zk, .slice P.xp D.np P.zp, .int .i64 (2 * T.size), .int .i64 T.step, .int .i64 T.up, .int .i64 T.down, .slice Q.xt T.nt Q.zt] _ HH3.out.range Try.underlying45 rfl (by kernel_rfl) ?_) | fail)
  refine (K2.out _ X3.out).mono ?_; rintro e w4 ⟨rfl, x4⟩
  have X4 := Lib.hid (X3.out.trans x4)
  have HG4 := Lib.hid (HG3.out.ext x4)
  have HH4 := Lib.hid (HH3.out.ext x4)
  clear x4
  go_wp2_with (first | (refine wpList_load (by kernel_rfl) 45 _ rfl B rfl [.int .i64 D.sum, .int .i64 D.design, .int .i64 D.first, .slice P.xc D.nc P.zc, .slice P.xw D.nw P.zw, .slice P.xh D.nh P.zh, .slice P.xd D.nd P.zd, .slice P.xi D.ni P.zi, .slice P.xs D.ns P.zs, .slice P.xk D.nk P.zk, .slice P.xp D.np P.zp, .int .i64 T.size, .int .i64 T.step, .int .i64 T.up, .int .i64 T.down, .slice Q.xt T.nt Q.zt] _ HG4.out.range Try.underlying45 rfl (by kernel_rfl) ?_) | (refine wpList_load (by kernel_rfl) 45 _ rfl R rfl [.int .i64 D.sum, .int .i64 D.design, .int .i64 D.first, .slice P.xc D.nc P.zc, .slice P.xw D.nw P.zw, .slice P.xh D.nh P.zh, .slice P.xd D.nd P.zd, .slice P.xi D.ni P.zi, .slice P.xs D.ns P.zs, .slice P.xk D.nk P.zk, .slice P.xp D.np P.zp, .int .i64 (2 * T.size), .int .i64 T.step, .int .i64 T.up, .int .i64 T.down, .slice Q.xt T.nt Q.zt] _ HH4.out.range Try.underlying45 rfl (by kernel_rfl) ?_) | fail)
  refine (K3.out _ X4.out).mono ?_; rintro e w5 ⟨rfl, x5⟩
  have X5 := Lib.hid (X4.out.trans x5)
  have HG5 := Lib.hid (HG4.out.ext x5)
  have HH5 := Lib.hid (HH4.out.ext x5)
  clear x5
  go_wp2_with (first | (refine wpList_load (by kernel_rfl) 45 _ rfl B rfl [.int .i64 D.sum, .int .i64 D.design, .int .i64 D.first, .slice P.xc D.nc P.zc, .slice P.xw D.nw P.zw, .slice P.xh D.nh P.zh, .slice P.xd D.nd P.zd, .slice P.xi D.ni P.zi, .slice P.xs D.ns P.zs, .slice P.xk D.nk P.zk, .slice P.xp D.np P.zp, .int .i64 T.size, .int .i64 T.step, .int .i64 T.up, .int .i64 T.down, .slice Q.xt T.nt Q.zt] _ HG5.out.range Try.underlying45 rfl (by kernel_rfl) ?_) | (refine wpList_load (by kernel_rfl) 45 _ rfl R rfl [.int .i64 D.sum, .int .i64 D.design, .int .i64 D.first, .slice P.xc D.nc P.zc, .slice P.xw D.nw P.zw, .slice P.xh D.nh P.zh, .slice P.xd D.nd P.zd, .slice P.xi D.ni P.zi, .slice P.xs D.ns P.zs, .slice P.xk D.nk P.zk, .slice P.xp D.np P.zp, .int .i64 (2 * T.size), .int .i64 T.step, .int .i64 T.up, .int .i64 T.down, .slice Q.xt T.nt Q.zt] _ HH5.out.range Try.underlying45 rfl (by kernel_rfl) ?_) | fail)
  refine (K4.out _ X5.out).mono ?_; rintro e w6 ⟨rfl, x6⟩
  have X6 := Lib.hid (X5.out.trans x6)
  have HG6 := Lib.hid (HG5.out.ext x6)
  have HH6 := Lib.hid (HH5.out.ext x6)
  clear x6
  by_cases he : e = 0
  · subst he
    by_cases hi : i = 0
    · subst hi
      obtain ⟨rfl, rfl, hb, hd, ⟨a1, a2⟩, ⟨c1, c2⟩⟩ := FIN.out.2 rfl rfl (by omega)
      rcases hb with rfl | rfl <;> rcases hd with rfl | rfl
      all_goals
        have f1 : (2 * a + 1 == 2 * a) = false := by simp; omega
        have f2 : (2 * c + 1 == 2 * c) = false := by simp; omega
        go_wp2_with fail
        go_ret
        exact ⟨rfl, HW.out.trans X6.out⟩
    · have hi1 : (i != 0) = true := by simpa using hi
      go_wp2_with fail
      go_ret
      exact ⟨rfl, HW.out.trans X6.out⟩
  · have he1 : (e != 0) = true := by simpa using he
    have he2 : (e == 0) = false := by simpa using he
    by_cases hh : h = e
    · subst hh
      go_wp2_with fail
      go_ret
      exact ⟨rfl, HW.out.trans X6.out⟩
    · have hck : ck = false := by rcases FIN.out.1 with k | k | k; exact absurd k he; exact absurd k hh; exact k
      subst hck
      have hh1 : (h == e) = false := by simpa using hh
      go_wp2_with (first | (refine wpList_load (by kernel_rfl) 45 _ rfl B rfl [.int .i64 D.sum, .int .i64 D.design, .int .i64 D.first, .slice P.xc D.nc P.zc, .slice P.xw D.nw P.zw, .slice P.xh D.nh P.zh, .slice P.xd D.nd P.zd, .slice P.xi D.ni P.zi, .slice P.xs D.ns P.zs, .slice P.xk D.nk P.zk, .slice P.xp D.np P.zp, .int .i64 T.size, .int .i64 T.step, .int .i64 T.up, .int .i64 T.down, .slice Q.xt T.nt Q.zt] _ HG6.out.range Try.underlying45 rfl (by kernel_rfl) ?_) | fail)
      refine (K5.out _ X6.out).mono ?_; rintro e w7 ⟨rfl, x7⟩
      go_wp2_with fail
      go_ret
      exact ⟨rfl, (HW.out.trans X6.out).trans x7⟩

set_option maxRecDepth 100000 in
set_option maxHeartbeats 16000000 in
theorem core_out (D : FontD) (P : FontP) (T : FaceT) (Q : FaceQ) (code fix a e b h c i d j : Int) (ck : Bool) (w : World) (z2 : T.size < -4611686018427387904) (z1 : -9223372036854775808 ≤ T.size)
    (K1 : ∀ w', Ext w w' → Calls Try.prog 27 #[.agg #[.int .i64 D.sum, .int .i64 D.design, .int .i64 D.first, .slice P.xc D.nc P.zc, .slice P.xw D.nw P.zw, .slice P.xh D.nh P.zh, .slice P.xd D.nd P.zd, .slice P.xi D.ni P.zi, .slice P.xs D.ns P.zs, .slice P.xk D.nk P.zk, .slice P.xp D.np P.zp, .int .i64 T.size, .int .i64 T.step, .int .i64 T.up, .int .i64 T.down, .slice Q.xt T.nt Q.zt], .int .i64 code, .int .i64 0] w' (Ret w' (.tuple #[.int .i64 (a), .int .i64 (e)])))
    (K2 : ∀ w', Ext w w' → Calls Try.prog 27 #[.agg #[.int .i64 D.sum, .int .i64 D.design, .int .i64 D.first, .slice P.xc D.nc P.zc, .slice P.xw D.nw P.zw, .slice P.xh D.nh P.zh, .slice P.xd D.nd P.zd, .slice P.xi D.ni P.zi, .slice P.xs D.ns P.zs, .slice P.xk D.nk P.zk, .slice P.xp D.np P.zp, .int .i64 (wrap64 (2 * T.size)), .int .i64 T.step, .int .i64 T.up, .int .i64 T.down, .slice Q.xt T.nt Q.zt], .int .i64 code, .int .i64 0] w' (Ret w' (.tuple #[.int .i64 (b), .int .i64 (h)])))
    (K3 : ∀ w', Ext w w' → Calls Try.prog 29 #[.agg #[.int .i64 D.sum, .int .i64 D.design, .int .i64 D.first, .slice P.xc D.nc P.zc, .slice P.xw D.nw P.zw, .slice P.xh D.nh P.zh, .slice P.xd D.nd P.zd, .slice P.xi D.ni P.zi, .slice P.xs D.ns P.zs, .slice P.xk D.nk P.zk, .slice P.xp D.np P.zp, .int .i64 T.size, .int .i64 T.step, .int .i64 T.up, .int .i64 T.down, .slice Q.xt T.nt Q.zt], .int .i64 fix, .int .i64 0] w' (Ret w' (.tuple #[.int .i64 (c), .int .i64 (i)])))
    (K4 : ∀ w', Ext w w' → Calls Try.prog 29 #[.agg #[.int .i64 D.sum, .int .i64 D.design, .int .i64 D.first, .slice P.xc D.nc P.zc, .slice P.xw D.nw P.zw, .slice P.xh D.nh P.zh, .slice P.xd D.nd P.zd, .slice P.xi D.ni P.zi, .slice P.xs D.ns P.zs, .slice P.xk D.nk P.zk, .slice P.xp D.np P.zp, .int .i64 (wrap64 (2 * T.size)), .int .i64 T.step, .int .i64 T.up, .int .i64 T.down, .slice Q.xt T.nt Q.zt], .int .i64 fix, .int .i64 0] w' (Ret w' (.tuple #[.int .i64 (d), .int .i64 (j)])))
    (K5 : ∀ w', Ext w w' → Calls Try.prog 33 #[.agg #[.int .i64 D.sum, .int .i64 D.design, .int .i64 D.first, .slice P.xc D.nc P.zc, .slice P.xw D.nw P.zw, .slice P.xh D.nh P.zh, .slice P.xd D.nd P.zd, .slice P.xi D.ni P.zi, .slice P.xs D.ns P.zs, .slice P.xk D.nk P.zk, .slice P.xp D.np P.zp, .int .i64 T.size, .int .i64 T.step, .int .i64 T.up, .int .i64 T.down, .slice Q.xt T.nt Q.zt]] w' (Ret w' (.bool ck)))
    (FIN : (e = 0 ∨ h = e ∨ ck = false) ∧ (e = 0 → i = 0 → T.size ≤ 2097152 → h = 0 ∧ j = 0 ∧ (b = 2 * a ∨ b = 2 * a + 1) ∧ (d = 2 * c ∨ d = 2 * c + 1) ∧ (-100000000 ≤ a ∧ a ≤ 100000000) ∧ (-100000000 ≤ c ∧ c ≤ 100000000))) :
    Calls Try.prog 8 #[.agg #[.int .i64 D.sum, .int .i64 D.design, .int .i64 D.first, .slice P.xc D.nc P.zc, .slice P.xw D.nw P.zw, .slice P.xh D.nh P.zh, .slice P.xd D.nd P.zd, .slice P.xi D.ni P.zi, .slice P.xs D.ns P.zs, .slice P.xk D.nk P.zk, .slice P.xp D.np P.zp, .int .i64 T.size, .int .i64 T.step, .int .i64 T.up, .int .i64 T.down, .slice Q.xt T.nt Q.zt], .int .i64 code, .int .i64 fix] w (Ret w (.bool true)) := by
  obtain ⟨V, hV⟩ : ∃ V, V = w.alloc (.cells #[.int .i64 D.sum, .int .i64 D.design, .int .i64 D.first, .slice P.xc D.nc P.zc, .slice P.xw D.nw P.zw, .slice P.xh D.nh P.zh, .slice P.xd D.nd P.zd, .slice P.xi D.ni P.zi, .slice P.xs D.ns P.zs, .slice P.xk D.nk P.zk, .slice P.xp D.np P.zp, .int .i64 T.size, .int .i64 T.step, .int .i64 T.up, .int .i64 T.down, .slice Q.xt T.nt Q.zt] 45) := ⟨_, rfl⟩
  have W0 : Ext w V := by rw [hV]; exact (Ext.refl _).alloc _
  have kF : Blk V w.heap.size 45 [.int .i64 D.sum, .int .i64 D.design, .int .i64 D.first, .slice P.xc D.nc P.zc, .slice P.xw D.nw P.zw, .slice P.xh D.nh P.zh, .slice P.xd D.nd P.zd, .slice P.xi D.ni P.zi, .slice P.xs D.ns P.zs, .slice P.xk D.nk P.zk, .slice P.xp D.np P.zp, .int .i64 T.size, .int .i64 T.step, .int .i64 T.up, .int .i64 T.down, .slice Q.xt T.nt Q.zt] := by rw [hV]; exact Blk.lit _ _ _ _ rfl
  have K1 := Lib.hid (fun w' (x : Ext V w') => K1 w' (W0.trans x))
  have K2 := Lib.hid (fun w' (x : Ext V w') => K2 w' (W0.trans x))
  have K3 := Lib.hid (fun w' (x : Ext V w') => K3 w' (W0.trans x))
  have K4 := Lib.hid (fun w' (x : Ext V w') => K4 w' (W0.trans x))
  have K5 := Lib.hid (fun w' (x : Ext V w') => K5 w' (W0.trans x))
  have K0 := Lib.hid (fun w' (_ : Ext V w') => fewf_any D P T Q w')
  have FIN := Lib.hid FIN
  go_enter Try.func8, Try.ntmps8
  go_upto_region 1 with (fail)
  rw [← hV]
  clear hV
  generalize w.heap.size = B at *
  have HG := Lib.hid kF
  have HW := Lib.hid W0
  clear kF W0
  go_wp2_with fail
  refine (awake_any _).mono ?_; rintro e w1 ⟨rfl, x1⟩
  have X1 := Lib.hid x1
  have HG1 := Lib.hid (HG.out.ext x1)
  clear x1
  go_wp2_with (first | (refine wpList_load (by kernel_rfl) 45 _ rfl B rfl [.int .i64 D.sum, .int .i64 D.design, .int .i64 D.first, .slice P.xc D.nc P.zc, .slice P.xw D.nw P.zw, .slice P.xh D.nh P.zh, .slice P.xd D.nd P.zd, .slice P.xi D.ni P.zi, .slice P.xs D.ns P.zs, .slice P.xk D.nk P.zk, .slice P.xp D.np P.zp, .int .i64 T.size, .int .i64 T.step, .int .i64 T.up, .int .i64 T.down, .slice Q.xt T.nt Q.zt] _ HG1.out.range Try.underlying45 rfl (by kernel_rfl) ?_) | fail)
  refine (K0.out _ X1.out).mono ?_; rintro e w2 ⟨rfl, x2⟩
  have X2 := Lib.hid (X1.out.trans x2)
  have HG2 := Lib.hid (HG1.out.ext x2)
  clear x2
  have q11 : w2.cell? ⟨B, 11, none⟩ = some (.int .i64 T.size) := HG2.out.cell 11
  cases fewF D T with
  | false =>
    go_wp2_with fail
    go_ret
    exact ⟨rfl, HW.out.trans X2.out⟩
  | true =>
  by_cases hs : 2097152 < T.size
  · first
      | (exfalso; omega)
      | (go_wp2_with fail
         go_ret
         exact ⟨rfl, HW.out.trans X2.out⟩)
  have lb := HG2.out.lt
  have XA := Lib.hid (X2.out.alloc (.cells #[.int .i64 D.sum, .int .i64 D.design, .int .i64 D.first, .slice P.xc D.nc P.zc, .slice P.xw D.nw P.zw, .slice P.xh D.nh P.zh, .slice P.xd D.nd P.zd, .slice P.xi D.ni P.zi, .slice P.xs D.ns P.zs, .slice P.xk D.nk P.zk, .slice P.xp D.np P.zp, .int .i64 (wrap64 (2 * T.size)), .int .i64 T.step, .int .i64 T.up, .int .i64 T.down, .slice Q.xt T.nt Q.zt] 45))
  have HGA := Lib.hid (HG2.out.ext ((Ext.refl _).alloc (.cells #[.int .i64 D.sum, .int .i64 D.design, .int .i64 D.first, .slice P.xc D.nc P.zc, .slice P.xw D.nw P.zw, .slice P.xh D.nh P.zh, .slice P.xd D.nd P.zd, .slice P.xi D.ni P.zi, .slice P.xs D.ns P.zs, .slice P.xk D.nk P.zk, .slice P.xp D.np P.zp, .int .i64 (wrap64 (2 * T.size)), .int .i64 T.step, .int .i64 T.up, .int .i64 T.down, .slice Q.xt T.nt Q.zt] 45)))
  have HHA := Lib.hid (Blk.lit w2 w2.heap.size 45 #[.int .i64 D.sum, .int .i64 D.design, .int .i64 D.first, .slice P.xc D.nc P.zc, .slice P.xw D.nw P.zw, .slice P.xh D.nh P.zh, .slice P.xd D.nd P.zd, .slice P.xi D.ni P.zi, .slice P.xs D.ns P.zs, .slice P.xk D.nk P.zk, .slice P.xp D.np P.zp, .int .i64 (wrap64 (2 * T.size)), .int .i64 T.step, .int .i64 T.up, .int .i64 T.down, .slice Q.xt T.nt Q.zt] rfl)
  go_upto_region 6 with (first | (refine wpList_load (by kernel_rfl) 45 _ rfl B rfl [.int .i64 D.sum, .int .i64 D.design, .int .i64 D.first, .slice P.xc D.nc P.zc, .slice P.xw D.nw P.zw, .slice P.xh D.nh P.zh, .slice P.xd D.nd P.zd, .slice P.xi D.ni P.zi, .slice P.xs D.ns P.zs, .slice P.xk D.nk P.zk, .slice P.xp D.np P.zp, .int .i64 T.size, .int .i64 T.step, .int .i64 T.up, .int .i64 T.down, .slice Q.xt T.nt Q.zt] _ HG2.out.range Try.underlying45 rfl (by kernel_rfl) ?_) | fail)
  generalize w2.alloc (.cells #[.int .i64 D.sum, .int .i64 D.design, .int .i64 D.first, .slice P.xc D.nc P.zc, .slice P.xw D.nw P.zw, .slice P.xh D.nh P.zh, .slice P.xd D.nd P.zd, .slice P.xi D.ni P.zi, .slice P.xs D.ns P.zs, .slice P.xk D.nk P.zk, .slice P.xp D.np P.zp, .int .i64 (wrap64 (2 * T.size)), .int .i64 T.step, .int .i64 T.up, .int .i64 T.down, .slice Q.xt T.nt Q.zt] 45) = V2 at *
  generalize w2.heap.size = R at *
  go_wp2_with (first | (refine wpList_load (by kernel_rfl) 45 _ rfl B rfl [.int .i64 D.sum, .int .i64 D.design, .int .i64 D.first, .slice P.xc D.nc P.zc, .slice P.xw D.nw P.zw, .slice P.xh D.nh P.zh, .slice P.xd D.nd P.zd, .slice P.xi D.ni P.zi, .slice P.xs D.ns P.zs, .slice P.xk D.nk P.zk, .slice P.xp D.np P.zp, .int .i64 T.size, .int .i64 T.step, .int .i64 T.up, .int .i64 T.down, .slice Q.xt T.nt Q.zt] _ HGA.out.range Try.underlying45 rfl (by kernel_rfl) ?_) | fail)
  refine (K1.out _ XA.out).mono ?_; rintro e w3 ⟨rfl, x3⟩
  have X3 := Lib.hid (XA.out.trans x3)
  have HG3 := Lib.hid (HGA.out.ext x3)
  have HH3 := Lib.hid (HHA.out.ext x3)
  clear x3
  go_wp2_with (first | (refine wpList_load (by kernel_rfl) 45 _ rfl B rfl [.int .i64 D.sum, .int .i64 D.design, .int .i64 D.first, .slice P.xc D.nc P.zc, .slice P.xw D.nw P.zw, .slice P.xh D.nh P.zh, .slice P.xd D.nd P.zd, .slice P.xi D.ni P.zi, .slice P.xs D.ns P.zs, .slice P.xk D.nk P.zk, .slice P.xp D.np P.zp, .int .i64 T.size, .int .i64 T.step, .int .i64 T.up, .int .i64 T.down, .slice Q.xt T.nt Q.zt] _ HG3.out.range Try.underlying45 rfl (by kernel_rfl) ?_) | (refine wpList_load (by kernel_rfl) 45 _ rfl R rfl [.int .i64 D.sum, .int .i64 D.design, .int .i64 D.first, .slice P.xc D.nc P.zc, .slice P.xw D.nw P.zw, .slice P.xh D.nh P.zh, .slice P.xd D.nd P.zd, .slice P.xi D.ni P.zi, .slice P.xs D.ns P.zs, .slice P.xk D.nk P.zk, .slice P.xp D.np P.zp, .int .i64 (wrap64 (2 * T.size)), .int .i64 T.step, .int .i64 T.up, .int .i64 T.down, .slice Q.xt T.nt Q.zt] _ HH3.out.range Try.underlying45 rfl (by kernel_rfl) ?_) | fail)
  refine (K2.out _ X3.out).mono ?_; rintro e w4 ⟨rfl, x4⟩
  have X4 := Lib.hid (X3.out.trans x4)
  have HG4 := Lib.hid (HG3.out.ext x4)
  have HH4 := Lib.hid (HH3.out.ext x4)
  clear x4
  go_wp2_with (first | (refine wpList_load (by kernel_rfl) 45 _ rfl B rfl [.int .i64 D.sum, .int .i64 D.design, .int .i64 D.first, .slice P.xc D.nc P.zc, .slice P.xw D.nw P.zw, .slice P.xh D.nh P.zh, .slice P.xd D.nd P.zd, .slice P.xi D.ni P.zi, .slice P.xs D.ns P.zs, .slice P.xk D.nk P.zk, .slice P.xp D.np P.zp, .int .i64 T.size, .int .i64 T.step, .int .i64 T.up, .int .i64 T.down, .slice Q.xt T.nt Q.zt] _ HG4.out.range Try.underlying45 rfl (by kernel_rfl) ?_) | (refine wpList_load (by kernel_rfl) 45 _ rfl R rfl [.int .i64 D.sum, .int .i64 D.design, .int .i64 D.first, .slice P.xc D.nc P.zc, .slice P.xw D.nw P.zw, .slice P.xh D.nh P.zh, .slice P.xd D.nd P.zd, .slice P.xi D.ni P.zi, .slice P.xs D.ns P.zs, .slice P.xk D.nk P.zk, .slice P.xp D.np P.zp, .int .i64 (wrap64 (2 * T.size)), .int .i64 T.step, .int .i64 T.up, .int .i64 T.down, .slice Q.xt T.nt Q.zt] _ HH4.out.range Try.underlying45 rfl (by kernel_rfl) ?_) | fail)
  refine (K3.out _ X4.out).mono ?_; rintro e w5 ⟨rfl, x5⟩
  have X5 := Lib.hid (X4.out.trans x5)
  have HG5 := Lib.hid (HG4.out.ext x5)
  have HH5 := Lib.hid (HH4.out.ext x5)
  clear x5
  go_wp2_with (first | (refine wpList_load (by kernel_rfl) 45 _ rfl B rfl [.int .i64 D.sum, .int .i64 D.design, .int .i64 D.first, .slice P.xc D.nc P.zc, .slice P.xw D.nw P.zw, .slice P.xh D.nh P.zh, .slice P.xd D.nd P.zd, .slice P.xi D.ni P.zi, .slice P.xs D.ns P.zs, .slice P.xk D.nk P.zk, .slice P.xp D.np P.zp, .int .i64 T.size, .int .i64 T.step, .int .i64 T.up, .int .i64 T.down, .slice Q.xt T.nt Q.zt] _ HG5.out.range Try.underlying45 rfl (by kernel_rfl) ?_) | (refine wpList_load (by kernel_rfl) 45 _ rfl R rfl [.int .i64 D.sum, .int .i64 D.design, .int .i64 D.first, .slice P.xc D.nc P.zc, .slice P.xw D.nw P.zw, .slice P.xh D.nh P.zh, .slice P.xd D.nd P.zd, .slice P.xi D.ni P.zi, .slice P.xs D.ns P.zs, .slice P.xk D.nk P.zk, .slice P.xp D.np P.zp, .int .i64 (wrap64 (2 * T.size)), .int .i64 T.step, .int .i64 T.up, .int .i64 T.down, .slice Q.xt T.nt Q.zt] _ HH5.out.range Try.underlying45 rfl (by kernel_rfl) ?_) | fail)
  refine (K4.out _ X5.out).mono ?_; rintro e w6 ⟨rfl, x6⟩
  have X6 := Lib.hid (X5.out.trans x6)
  have HG6 := Lib.hid (HG5.out.ext x6)
  have HH6 := Lib.hid (HH5.out.ext x6)
  clear x6
  by_cases he : e = 0
  · subst he
    by_cases hi : i = 0
    · subst hi
      obtain ⟨rfl, rfl, hb, hd, ⟨a1, a2⟩, ⟨c1, c2⟩⟩ := FIN.out.2 rfl rfl (by omega)
      rcases hb with rfl | rfl <;> rcases hd with rfl | rfl
      all_goals
        have f1 : (2 * a + 1 == 2 * a) = false := by simp; omega
        have f2 : (2 * c + 1 == 2 * c) = false := by simp; omega
        go_wp2_with fail
        go_ret
        exact ⟨rfl, HW.out.trans X6.out⟩
    · have hi1 : (i != 0) = true := by simpa using hi
      go_wp2_with fail
      go_ret
      exact ⟨rfl, HW.out.trans X6.out⟩
  · have he1 : (e != 0) = true := by simpa using he
    have he2 : (e == 0) = false := by simpa using he
    by_cases hh : h = e
    · subst hh
      go_wp2_with fail
      go_ret
      exact ⟨rfl, HW.out.trans X6.out⟩
    · have hck : ck = false := by rcases FIN.out.1 with k | k | k; exact absurd k he; exact absurd k hh; exact k
      subst hck
      have hh1 : (h == e) = false := by simpa using hh
      go_wp2_with (first | (refine wpList_load (by kernel_rfl) 45 _ rfl B rfl [.int .i64 D.sum, .int .i64 D.design, .int .i64 D.first, .slice P.xc D.nc P.zc, .slice P.xw D.nw P.zw, .slice P.xh D.nh P.zh, .slice P.xd D.nd P.zd, .slice P.xi D.ni P.zi, .slice P.xs D.ns P.zs, .slice P.xk D.nk P.zk, .slice P.xp D.np P.zp, .int .i64 T.size, .int .i64 T.step, .int .i64 T.up, .int .i64 T.down, .slice Q.xt T.nt Q.zt] _ HG6.out.range Try.underlying45 rfl (by kernel_rfl) ?_) | fail)
      refine (K5.out _ X6.out).mono ?_; rintro e w7 ⟨rfl, x7⟩
      go_wp2_with fail
      go_ret
      exact ⟨rfl, (HW.out.trans X6.out).trans x7⟩

set_option maxRecDepth 100000 in
set_option maxHeartbeats 4000000 in
theorem walk (D : FontD) (P : FontP) (T : FaceT) (Q : FaceQ) (ok : FaceOk D P T Q) (code : Int) (hcode : -9223372036854775808 ≤ code ∧ code ≤ 9223372036854775807) (fix : Int) (_ : -9223372036854775808 ≤ fix ∧ fix ≤ 9223372036854775807) (w : World) (sn : SeenFace w D P T Q) :
    Calls Try.prog 8 #[faceV D P T Q, .int .i64 code, .int .i64 fix] w (Ret w (.bool true)) := by
  have hz : -9223372036854775808 ≤ (0 : Int) ∧ (0 : Int) ≤ 9223372036854775807 := by omega
  have hw : ∀ z, Wide z → FaceOk D P ⟨z, T.step, T.up, T.down, T.nt, T.trt⟩ Q := fun z h => ⟨ok.font, h, ok.step, ok.up, ok.down, ok.bt, ok.rt⟩
  obtain ⟨s1, s2⟩ := ok.size
  by_cases hs : -4611686018427387904 ≤ T.size
  · by_cases hs' : T.size ≤ 2097152
    · have o2 := hw (2 * T.size) (by unfold Wide; omega)
      exact core_in D P T Q code fix _ _ _ _ _ _ _ _ _ w hs s2 (fun w' x => fwidth_any D P T Q code 0 w' ok (sn.ext x) hcode.1 hcode.2 hz.1 hz.2) (fun w' x => fwidth_any D P ⟨2 * T.size, T.step, T.up, T.down, T.nt, T.trt⟩ Q code 0 w' o2 ⟨(sn.ext x).font, (sn.ext x).ot⟩ hcode.1 hcode.2 hz.1 hz.2)
        (fun w' x => fkern_any D P T Q fix 0 w' ok (sn.ext x) hz.1 hz.2) (fun w' x => fkern_any D P ⟨2 * T.size, T.step, T.up, T.down, T.nt, T.trt⟩ Q fix 0 w' o2 ⟨(sn.ext x).font, (sn.ext x).ot⟩ hz.1 hz.2) (fun w' x => fcheck_any D P T Q w' ok (sn.ext x)) (sizes_in hs' code fix)
    · exact core_big D P T Q code fix w (by omega) s2
  · have o2 := hw (wrap64 (2 * T.size)) (by have := wrap64_wide (2 * T.size); exact this)
    exact core_out D P T Q code fix _ _ _ _ _ _ _ _ _ w (by omega) s1 (fun w' x => fwidth_any D P T Q code 0 w' ok (sn.ext x) hcode.1 hcode.2 hz.1 hz.2) (fun w' x => fwidth_any D P ⟨wrap64 (2 * T.size), T.step, T.up, T.down, T.nt, T.trt⟩ Q code 0 w' o2 ⟨(sn.ext x).font, (sn.ext x).ot⟩ hcode.1 hcode.2 hz.1 hz.2)
        (fun w' x => fkern_any D P T Q fix 0 w' ok (sn.ext x) hz.1 hz.2) (fun w' x => fkern_any D P ⟨wrap64 (2 * T.size), T.step, T.up, T.down, T.nt, T.trt⟩ Q fix 0 w' o2 ⟨(sn.ext x).font, (sn.ext x).ot⟩ hz.1 hz.2) (fun w' x => fcheck_any D P T Q w' ok (sn.ext x)) (sizes_out (by omega) code fix)

set_option maxRecDepth 100000 in
theorem lifted (os : Os) (started : os.Started) (H : Type) (enc : TypeId × Value → H) :
    ReturnsInHanded {} Try.checked os 8 .any (Rows.levelSizesSpec.pre6 enc Try.prog Try.f8 [] false) (Rows.levelSizesSpec.post enc Try.prog Try.f8 false true false false) := by
  refine law_lift (C := Try.checked) own started (by kernel_rfl) Try.func8 laidOut rfl rfl Try.underlying4 (by kernel_rfl) ?_
    (ChangeSpec.witness6 (enc := enc) (C := Try.checked) false ⟨#[], #[.agg #[.int .i64 0, .int .i64 0, .int .i64 0, .slice none 0 0, .slice none 0 0, .slice none 0 0, .slice none 0 0, .slice none 0 0, .slice none 0 0, .slice none 0 0, .slice none 0 0, .int .i64 0, .int .i64 0, .int .i64 0, .int .i64 0, .slice none 0 0], .int .i64 0, .int .i64 0], []⟩ 8 (by kernel_rfl) (by kernel_rfl) (by kernel_rfl) (by kernel_rfl)) ?_
  · intro H ds h
    match ds, h with
    | [_, _, _], _ => rfl
  · intro W base args ds p hval hA hlt hwt hsh
    rw [Try.params8] at hA hval
    obtain ⟨v0, vs0, d0, ds0, p0, q0, hargs, rfl, rfl, h0, r0⟩ := trodAll_cons hA
    obtain ⟨v1, vs1, d1, ds1, p1, q1, rfl, rfl, rfl, h1, r1⟩ := trodAll_cons r0
    obtain ⟨v2, vs2, d2, ds2, p2, q2, rfl, rfl, rfl, h2, r2⟩ := trodAll_cons r1
    obtain ⟨rfl, rfl, rfl⟩ := trodAll_nil r2
    obtain rfl : args = #[v0, v1, v2] := by cases args; simp_all
    obtain ⟨D0, P0, T0, Q0, rfl, ok0, hs0⟩ := arg_face (hval 0 45 v0 rfl rfl) h0
    obtain ⟨a1, rfl, rfl, rfl, wf1⟩ := open_int Try.underlying3 (hval 1 3 v1 rfl rfl) h1
    obtain ⟨a2, rfl, rfl, rfl, wf2⟩ := open_int Try.underlying3 (hval 2 3 v2 rfl rfl) h2
    exact walk D0 P0 T0 Q0 ok0 a1 (bounds_i64 wf1) a2 (bounds_i64 wf2) W hs0

theorem holds : Rows.LevelSizesSaid :=
  OpenClaim.holds_of_wide 8 Try.f8 rfl rfl rfl rfl rfl rfl rfl ⟨rfl, rfl, rfl, rfl, rfl⟩ rfl rfl rfl rfl rfl (by kernel_rfl) Try.func8 (by kernel_rfl)
    (of_decide_eq_true (by kernel_rfl)) (by unfold Func.isWrapper; first | (rw [if_pos (by decide +kernel)]; kernel_rfl) | (rw [if_neg (by decide +kernel)]; exact ⟨rfl, rfl⟩))
    (fun os started H enc _ => lifted os started H enc)
end LevelSizes
end Go.Proofs.Ytpkmpbpifbpomaa

