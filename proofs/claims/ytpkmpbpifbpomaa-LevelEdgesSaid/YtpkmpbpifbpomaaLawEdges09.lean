/- LevelEdges: a character whose trait is 1000 stands out by its whole width, by half as much of 500, or one less, and what stands out goes along with the width (at most three hundred of each): for every input. -/
import Derived.Test.YtpkmpbpifbpomaaFew09
namespace Go.Proofs.Ytpkmpbpifbpomaa
open Go.ChangeShapes Go.WideShapes Go.ChangeAt Go.RowKit Go.Lib
namespace LevelEdges
open L02 L07 L08 L09


theorem tr_one (T : FaceT) (f : Nat → Nat → Int) (code : Int) (h : f 0 0 = code) (j : Nat) : trV ⟨T.size, T.step, T.up, T.down, 1, f⟩ code j = f 0 j := by
  have : atT ⟨T.size, T.step, T.up, T.down, 1, f⟩ code = some 0 := at_hit (by show 0 < 1; omega) (fun j hj => absurd hj (by omega)) h
  rw [trV, this]
theorem face_one {D : FontD} {T : FaceT} (h : faceB D T = true) (f : Nat → Nat → Int) (h1 : 0 ≤ f 0 1 ∧ f 0 1 ≤ 1000) (h2 : -1000 ≤ f 0 2 ∧ f 0 2 ≤ 1000) (h3 : -1000 ≤ f 0 3 ∧ f 0 3 ≤ 1000) : faceB D ⟨T.size, T.step, T.up, T.down, 1, f⟩ = decide (0 ≤ f 0 0 ∧ f 0 0 ≤ 255) := by
  simp only [faceB, Bool.and_eq_true] at h
  obtain ⟨a1, a2, a3, a4, _, a6⟩ := h
  have t : traitsB ⟨T.size, T.step, T.up, T.down, 1, f⟩ = decide (0 ≤ f 0 0 ∧ f 0 0 ≤ 255) := by
    have e : traitsB ⟨T.size, T.step, T.up, T.down, 1, f⟩ = (true && (wiB (f 0 0) 0 255 && (wiB (f 0 1) 0 1000 && (wiB (f 0 2) (-1000) 1000 && wiB (f 0 3) (-1000) 1000)))) := rfl
    have w1 : wiB (f 0 1) 0 1000 = true := by simpa [wiB] using h1
    have w2 : wiB (f 0 2) (-1000) 1000 = true := by simpa [wiB] using h2
    have w3 : wiB (f 0 3) (-1000) 1000 = true := by simpa [wiB] using h3
    rw [e, w1, w2, w3, Bool.and_true, Bool.and_true, Bool.and_true, Bool.true_and]
    rfl
  simp only [faceB, a1, a2, a3, a4, a6, t, Bool.true_and, Bool.and_true]
theorem face_nil {D : FontD} {T : FaceT} (h : faceB D T = true) (f : Nat → Nat → Int) : faceB D ⟨T.size, T.step, T.up, T.down, 0, f⟩ = true := by
  simp only [faceB, Bool.and_eq_true] at h ⊢
  exact ⟨h.1, h.2.1, h.2.2.1, h.2.2.2.1, rfl, h.2.2.2.2.2⟩
theorem ok_one {D : FontD} {P : FontP} {T : FaceT} {Q : FaceQ} (ok : FaceOk D P T Q) (f : Nat → Nat → Int) (hf : ∀ j, j < 4 → Wide (f 0 j)) (b : Nat) : FaceOk D P ⟨T.size, T.step, T.up, T.down, 1, f⟩ ⟨some ⟨b, 0, none⟩, 1⟩ :=
  ⟨ok.font, ok.size, ok.step, ok.up, ok.down, fun i j hi hj => by obtain rfl : i = 0 := by have : i < 1 := hi; omega
                                                                  exact hf j hj, by simp [maxLen]⟩


set_option maxRecDepth 100000 in
set_option maxHeartbeats 16000000 in
theorem core (D : FontD) (P : FontP) (T : FaceT) (Q : FaceQ) (code n W e l r i m o j : Int) (ck : Bool) (w : World) (n1 : -128 ≤ n) (n2 : n ≤ 127)
    (K0 : ∀ w', Ext w w' → Calls Try.prog 33 #[.agg #[.int .i64 D.sum, .int .i64 D.design, .int .i64 D.first, .slice P.xc D.nc P.zc, .slice P.xw D.nw P.zw, .slice P.xh D.nh P.zh, .slice P.xd D.nd P.zd, .slice P.xi D.ni P.zi, .slice P.xs D.ns P.zs, .slice P.xk D.nk P.zk, .slice P.xp D.np P.zp, .int .i64 T.size, .int .i64 T.step, .int .i64 T.up, .int .i64 T.down, .slice Q.xt T.nt Q.zt]] w' (Ret w' (.bool ck)))
    (K1 : ∀ w' b, Ext w w' → SeenN 4 w' (some ⟨b, 0, none⟩) 1 (fun _ j => if j = 0 then code else if j = 1 then 1000 else if j = 2 then 1000 else (-1000)) → Calls Try.prog 27 #[.agg #[.int .i64 D.sum, .int .i64 D.design, .int .i64 D.first, .slice P.xc D.nc P.zc, .slice P.xw D.nw P.zw, .slice P.xh D.nh P.zh, .slice P.xd D.nd P.zd, .slice P.xi D.ni P.zi, .slice P.xs D.ns P.zs, .slice P.xk D.nk P.zk, .slice P.xp D.np P.zp, .int .i64 T.size, .int .i64 T.step, .int .i64 T.up, .int .i64 T.down, .slice (some ⟨b, 0, none⟩) 1 1], .int .i64 code, .int .i64 n] w' (Ret w' (.tuple #[.int .i64 (W), .int .i64 (e)])))
    (K2 : ∀ w' b, Ext w w' → SeenN 4 w' (some ⟨b, 0, none⟩) 1 (fun _ j => if j = 0 then code else if j = 1 then 1000 else if j = 2 then 1000 else (-1000)) → Calls Try.prog 31 #[.agg #[.int .i64 D.sum, .int .i64 D.design, .int .i64 D.first, .slice P.xc D.nc P.zc, .slice P.xw D.nw P.zw, .slice P.xh D.nh P.zh, .slice P.xd D.nd P.zd, .slice P.xi D.ni P.zi, .slice P.xs D.ns P.zs, .slice P.xk D.nk P.zk, .slice P.xp D.np P.zp, .int .i64 T.size, .int .i64 T.step, .int .i64 T.up, .int .i64 T.down, .slice (some ⟨b, 0, none⟩) 1 1], .int .i64 code, .int .i64 n] w' (Ret w' (.tuple #[.int .i64 (l), .int .i64 (r), .int .i64 (i)])))
    (K3 : ∀ w' b, Ext w w' → SeenN 4 w' (some ⟨b, 0, none⟩) 1 (fun _ j => if j = 0 then code else if j = 1 then 1000 else if j = 2 then 500 else 0) → Calls Try.prog 31 #[.agg #[.int .i64 D.sum, .int .i64 D.design, .int .i64 D.first, .slice P.xc D.nc P.zc, .slice P.xw D.nw P.zw, .slice P.xh D.nh P.zh, .slice P.xd D.nd P.zd, .slice P.xi D.ni P.zi, .slice P.xs D.ns P.zs, .slice P.xk D.nk P.zk, .slice P.xp D.np P.zp, .int .i64 T.size, .int .i64 T.step, .int .i64 T.up, .int .i64 T.down, .slice (some ⟨b, 0, none⟩) 1 1], .int .i64 code, .int .i64 n] w' (Ret w' (.tuple #[.int .i64 (m), .int .i64 (o), .int .i64 (j)])))
    (FIN : ck = true → (e ≠ 0 → i = e ∧ j = e) ∧ (e = 0 → i = 0 ∧ j = 0 ∧ l = W ∧ r = -W ∧ o = 0 ∧ (W = 2 * m ∨ W = 2 * m + 1) ∧ (-100000000 ≤ m ∧ m ≤ 100000000))) :
    Calls Try.prog 9 #[.agg #[.int .i64 D.sum, .int .i64 D.design, .int .i64 D.first, .slice P.xc D.nc P.zc, .slice P.xw D.nw P.zw, .slice P.xh D.nh P.zh, .slice P.xd D.nd P.zd, .slice P.xi D.ni P.zi, .slice P.xs D.ns P.zs, .slice P.xk D.nk P.zk, .slice P.xp D.np P.zp, .int .i64 T.size, .int .i64 T.step, .int .i64 T.up, .int .i64 T.down, .slice Q.xt T.nt Q.zt], .int .i64 code, .int .i8 n] w (Ret w (.bool true)) := by
  obtain ⟨V, hV⟩ : ∃ V, V = w.alloc (.cells #[.int .i64 D.sum, .int .i64 D.design, .int .i64 D.first, .slice P.xc D.nc P.zc, .slice P.xw D.nw P.zw, .slice P.xh D.nh P.zh, .slice P.xd D.nd P.zd, .slice P.xi D.ni P.zi, .slice P.xs D.ns P.zs, .slice P.xk D.nk P.zk, .slice P.xp D.np P.zp, .int .i64 T.size, .int .i64 T.step, .int .i64 T.up, .int .i64 T.down, .slice Q.xt T.nt Q.zt] 45) := ⟨_, rfl⟩
  have W0 : Ext w V := by rw [hV]; exact (Ext.refl _).alloc _
  have kF : Blk V w.heap.size 45 [.int .i64 D.sum, .int .i64 D.design, .int .i64 D.first, .slice P.xc D.nc P.zc, .slice P.xw D.nw P.zw, .slice P.xh D.nh P.zh, .slice P.xd D.nd P.zd, .slice P.xi D.ni P.zi, .slice P.xs D.ns P.zs, .slice P.xk D.nk P.zk, .slice P.xp D.np P.zp, .int .i64 T.size, .int .i64 T.step, .int .i64 T.up, .int .i64 T.down, .slice Q.xt T.nt Q.zt] := by rw [hV]; exact Blk.lit _ _ _ _ rfl
  have K0 := Lib.hid (fun w' (x : Ext V w') => K0 w' (W0.trans x))
  have K1 := Lib.hid K1
  have K2 := Lib.hid K2
  have K3 := Lib.hid K3
  have KF := Lib.hid (fun w' (_ : Ext V w') => fewf_any D P T Q w')
  have FIN := Lib.hid FIN
  go_enter Try.func9, Try.ntmps9
  go_upto_region 1 with (fail)
  rw [← hV]
  clear hV
  generalize w.heap.size = B at *
  have HG := Lib.hid kF
  have HW := Lib.hid W0
  clear kF W0
  go_wp2_with fail
  refine (awake_any _).mono ?_; rintro e w1 ⟨rfl, x1⟩
  have X1 := Lib.hid x1
  have HG1 := Lib.hid (HG.out.ext x1)
  clear x1
  go_wp2_with (first | (refine wpList_load (by kernel_rfl) 45 _ rfl B rfl [.int .i64 D.sum, .int .i64 D.design, .int .i64 D.first, .slice P.xc D.nc P.zc, .slice P.xw D.nw P.zw, .slice P.xh D.nh P.zh, .slice P.xd D.nd P.zd, .slice P.xi D.ni P.zi, .slice P.xs D.ns P.zs, .slice P.xk D.nk P.zk, .slice P.xp D.np P.zp, .int .i64 T.size, .int .i64 T.step, .int .i64 T.up, .int .i64 T.down, .slice Q.xt T.nt Q.zt] _ HG1.out.range Try.underlying45 rfl (by kernel_rfl) ?_) | fail)
  refine (KF.out _ X1.out).mono ?_; rintro e w2 ⟨rfl, x2⟩
  have X2 := Lib.hid (X1.out.trans x2)
  have HG2 := Lib.hid (HG1.out.ext x2)
  clear x2
  cases fewF D T with
  | false =>
    go_wp2_with fail
    go_ret
    exact ⟨rfl, HW.out.trans X2.out⟩
  | true =>
  go_wp2_with (first | (refine wpList_load (by kernel_rfl) 45 _ rfl B rfl [.int .i64 D.sum, .int .i64 D.design, .int .i64 D.first, .slice P.xc D.nc P.zc, .slice P.xw D.nw P.zw, .slice P.xh D.nh P.zh, .slice P.xd D.nd P.zd, .slice P.xi D.ni P.zi, .slice P.xs D.ns P.zs, .slice P.xk D.nk P.zk, .slice P.xp D.np P.zp, .int .i64 T.size, .int .i64 T.step, .int .i64 T.up, .int .i64 T.down, .slice Q.xt T.nt Q.zt] _ HG2.out.range Try.underlying45 rfl (by kernel_rfl) ?_) | fail)
  refine (K0.out _ X2.out).mono ?_; rintro e w3 ⟨rfl, x3⟩
  have X3 := Lib.hid (X2.out.trans x3)
  have HG3 := Lib.hid (HG2.out.ext x3)
  clear x3
  cases ck with
  | false =>
    go_wp2_with fail
    go_ret
    exact ⟨rfl, HW.out.trans X3.out⟩
  | true =>
  have FIN2 := Lib.hid (FIN.out rfl)
  clear FIN
  have HGm := Lib.hid (HG3.out.ext (((Ext.refl w3).alloc (.cells #[.int .i64 D.sum, .int .i64 D.design, .int .i64 D.first, .slice P.xc D.nc P.zc, .slice P.xw D.nw P.zw, .slice P.xh D.nh P.zh, .slice P.xd D.nd P.zd, .slice P.xi D.ni P.zi, .slice P.xs D.ns P.zs, .slice P.xk D.nk P.zk, .slice P.xp D.np P.zp, .int .i64 T.size, .int .i64 T.step, .int .i64 T.up, .int .i64 T.down, .slice (some ⟨w3.heap.size + 1, 0, none⟩) 1 1] 45)).alloc (.cells #[.int .i64 code, .int .i64 1000, .int .i64 1000, .int .i64 (-1000)] 56)))
  have XA := Lib.hid ((((X3.out.alloc (.cells #[.int .i64 D.sum, .int .i64 D.design, .int .i64 D.first, .slice P.xc D.nc P.zc, .slice P.xw D.nw P.zw, .slice P.xh D.nh P.zh, .slice P.xd D.nd P.zd, .slice P.xi D.ni P.zi, .slice P.xs D.ns P.zs, .slice P.xk D.nk P.zk, .slice P.xp D.np P.zp, .int .i64 T.size, .int .i64 T.step, .int .i64 T.up, .int .i64 T.down, .slice (some ⟨w3.heap.size + 1, 0, none⟩) 1 1] 45)).alloc (.cells #[.int .i64 code, .int .i64 1000, .int .i64 1000, .int .i64 (-1000)] 56)).alloc (.cells #[.int .i64 D.sum, .int .i64 D.design, .int .i64 D.first, .slice P.xc D.nc P.zc, .slice P.xw D.nw P.zw, .slice P.xh D.nh P.zh, .slice P.xd D.nd P.zd, .slice P.xi D.ni P.zi, .slice P.xs D.ns P.zs, .slice P.xk D.nk P.zk, .slice P.xp D.np P.zp, .int .i64 T.size, .int .i64 T.step, .int .i64 T.up, .int .i64 T.down, .slice (some ⟨w3.heap.size + 1 + 1 + 1, 0, none⟩) 1 1] 45)).alloc (.cells #[.int .i64 code, .int .i64 1000, .int .i64 500, .int .i64 0] 56))
  have HGA := Lib.hid (HG3.out.ext (((((Ext.refl w3).alloc (.cells #[.int .i64 D.sum, .int .i64 D.design, .int .i64 D.first, .slice P.xc D.nc P.zc, .slice P.xw D.nw P.zw, .slice P.xh D.nh P.zh, .slice P.xd D.nd P.zd, .slice P.xi D.ni P.zi, .slice P.xs D.ns P.zs, .slice P.xk D.nk P.zk, .slice P.xp D.np P.zp, .int .i64 T.size, .int .i64 T.step, .int .i64 T.up, .int .i64 T.down, .slice (some ⟨w3.heap.size + 1, 0, none⟩) 1 1] 45)).alloc (.cells #[.int .i64 code, .int .i64 1000, .int .i64 1000, .int .i64 (-1000)] 56)).alloc (.cells #[.int .i64 D.sum, .int .i64 D.design, .int .i64 D.first, .slice P.xc D.nc P.zc, .slice P.xw D.nw P.zw, .slice P.xh D.nh P.zh, .slice P.xd D.nd P.zd, .slice P.xi D.ni P.zi, .slice P.xs D.ns P.zs, .slice P.xk D.nk P.zk, .slice P.xp D.np P.zp, .int .i64 T.size, .int .i64 T.step, .int .i64 T.up, .int .i64 T.down, .slice (some ⟨w3.heap.size + 1 + 1 + 1, 0, none⟩) 1 1] 45)).alloc (.cells #[.int .i64 code, .int .i64 1000, .int .i64 500, .int .i64 0] 56)))
  have HA1 := Lib.hid ((Blk.lit w3 (w3.heap.size) 45 #[.int .i64 D.sum, .int .i64 D.design, .int .i64 D.first, .slice P.xc D.nc P.zc, .slice P.xw D.nw P.zw, .slice P.xh D.nh P.zh, .slice P.xd D.nd P.zd, .slice P.xi D.ni P.zi, .slice P.xs D.ns P.zs, .slice P.xk D.nk P.zk, .slice P.xp D.np P.zp, .int .i64 T.size, .int .i64 T.step, .int .i64 T.up, .int .i64 T.down, .slice (some ⟨w3.heap.size + 1, 0, none⟩) 1 1] rfl).ext ((((Ext.refl (w3.alloc (.cells #[.int .i64 D.sum, .int .i64 D.design, .int .i64 D.first, .slice P.xc D.nc P.zc, .slice P.xw D.nw P.zw, .slice P.xh D.nh P.zh, .slice P.xd D.nd P.zd, .slice P.xi D.ni P.zi, .slice P.xs D.ns P.zs, .slice P.xk D.nk P.zk, .slice P.xp D.np P.zp, .int .i64 T.size, .int .i64 T.step, .int .i64 T.up, .int .i64 T.down, .slice (some ⟨w3.heap.size + 1, 0, none⟩) 1 1] 45))).alloc (.cells #[.int .i64 code, .int .i64 1000, .int .i64 1000, .int .i64 (-1000)] 56)).alloc (.cells #[.int .i64 D.sum, .int .i64 D.design, .int .i64 D.first, .slice P.xc D.nc P.zc, .slice P.xw D.nw P.zw, .slice P.xh D.nh P.zh, .slice P.xd D.nd P.zd, .slice P.xi D.ni P.zi, .slice P.xs D.ns P.zs, .slice P.xk D.nk P.zk, .slice P.xp D.np P.zp, .int .i64 T.size, .int .i64 T.step, .int .i64 T.up, .int .i64 T.down, .slice (some ⟨w3.heap.size + 1 + 1 + 1, 0, none⟩) 1 1] 45)).alloc (.cells #[.int .i64 code, .int .i64 1000, .int .i64 500, .int .i64 0] 56)))
  have HA2 := Lib.hid ((Blk.lit (w3.alloc (.cells #[.int .i64 D.sum, .int .i64 D.design, .int .i64 D.first, .slice P.xc D.nc P.zc, .slice P.xw D.nw P.zw, .slice P.xh D.nh P.zh, .slice P.xd D.nd P.zd, .slice P.xi D.ni P.zi, .slice P.xs D.ns P.zs, .slice P.xk D.nk P.zk, .slice P.xp D.np P.zp, .int .i64 T.size, .int .i64 T.step, .int .i64 T.up, .int .i64 T.down, .slice (some ⟨w3.heap.size + 1, 0, none⟩) 1 1] 45)) (w3.heap.size + 1) 56 #[.int .i64 code, .int .i64 1000, .int .i64 1000, .int .i64 (-1000)] (by simp)).ext (((Ext.refl (((w3.alloc (.cells #[.int .i64 D.sum, .int .i64 D.design, .int .i64 D.first, .slice P.xc D.nc P.zc, .slice P.xw D.nw P.zw, .slice P.xh D.nh P.zh, .slice P.xd D.nd P.zd, .slice P.xi D.ni P.zi, .slice P.xs D.ns P.zs, .slice P.xk D.nk P.zk, .slice P.xp D.np P.zp, .int .i64 T.size, .int .i64 T.step, .int .i64 T.up, .int .i64 T.down, .slice (some ⟨w3.heap.size + 1, 0, none⟩) 1 1] 45)).alloc (.cells #[.int .i64 code, .int .i64 1000, .int .i64 1000, .int .i64 (-1000)] 56)))).alloc (.cells #[.int .i64 D.sum, .int .i64 D.design, .int .i64 D.first, .slice P.xc D.nc P.zc, .slice P.xw D.nw P.zw, .slice P.xh D.nh P.zh, .slice P.xd D.nd P.zd, .slice P.xi D.ni P.zi, .slice P.xs D.ns P.zs, .slice P.xk D.nk P.zk, .slice P.xp D.np P.zp, .int .i64 T.size, .int .i64 T.step, .int .i64 T.up, .int .i64 T.down, .slice (some ⟨w3.heap.size + 1 + 1 + 1, 0, none⟩) 1 1] 45)).alloc (.cells #[.int .i64 code, .int .i64 1000, .int .i64 500, .int .i64 0] 56)))
  have HA3 := Lib.hid ((Blk.lit ((w3.alloc (.cells #[.int .i64 D.sum, .int .i64 D.design, .int .i64 D.first, .slice P.xc D.nc P.zc, .slice P.xw D.nw P.zw, .slice P.xh D.nh P.zh, .slice P.xd D.nd P.zd, .slice P.xi D.ni P.zi, .slice P.xs D.ns P.zs, .slice P.xk D.nk P.zk, .slice P.xp D.np P.zp, .int .i64 T.size, .int .i64 T.step, .int .i64 T.up, .int .i64 T.down, .slice (some ⟨w3.heap.size + 1, 0, none⟩) 1 1] 45)).alloc (.cells #[.int .i64 code, .int .i64 1000, .int .i64 1000, .int .i64 (-1000)] 56)) (w3.heap.size + 1 + 1) 45 #[.int .i64 D.sum, .int .i64 D.design, .int .i64 D.first, .slice P.xc D.nc P.zc, .slice P.xw D.nw P.zw, .slice P.xh D.nh P.zh, .slice P.xd D.nd P.zd, .slice P.xi D.ni P.zi, .slice P.xs D.ns P.zs, .slice P.xk D.nk P.zk, .slice P.xp D.np P.zp, .int .i64 T.size, .int .i64 T.step, .int .i64 T.up, .int .i64 T.down, .slice (some ⟨w3.heap.size + 1 + 1 + 1, 0, none⟩) 1 1] (by simp)).ext ((Ext.refl (((w3.alloc (.cells #[.int .i64 D.sum, .int .i64 D.design, .int .i64 D.first, .slice P.xc D.nc P.zc, .slice P.xw D.nw P.zw, .slice P.xh D.nh P.zh, .slice P.xd D.nd P.zd, .slice P.xi D.ni P.zi, .slice P.xs D.ns P.zs, .slice P.xk D.nk P.zk, .slice P.xp D.np P.zp, .int .i64 T.size, .int .i64 T.step, .int .i64 T.up, .int .i64 T.down, .slice (some ⟨w3.heap.size + 1, 0, none⟩) 1 1] 45)).alloc (.cells #[.int .i64 code, .int .i64 1000, .int .i64 1000, .int .i64 (-1000)] 56)).alloc (.cells #[.int .i64 D.sum, .int .i64 D.design, .int .i64 D.first, .slice P.xc D.nc P.zc, .slice P.xw D.nw P.zw, .slice P.xh D.nh P.zh, .slice P.xd D.nd P.zd, .slice P.xi D.ni P.zi, .slice P.xs D.ns P.zs, .slice P.xk D.nk P.zk, .slice P.xp D.np P.zp, .int .i64 T.size, .int .i64 T.step, .int .i64 T.up, .int .i64 T.down, .slice (some ⟨w3.heap.size + 1 + 1 + 1, 0, none⟩) 1 1] 45))).alloc (.cells #[.int .i64 code, .int .i64 1000, .int .i64 500, .int .i64 0] 56)))
  have HA4 := Lib.hid (Blk.lit (((w3.alloc (.cells #[.int .i64 D.sum, .int .i64 D.design, .int .i64 D.first, .slice P.xc D.nc P.zc, .slice P.xw D.nw P.zw, .slice P.xh D.nh P.zh, .slice P.xd D.nd P.zd, .slice P.xi D.ni P.zi, .slice P.xs D.ns P.zs, .slice P.xk D.nk P.zk, .slice P.xp D.np P.zp, .int .i64 T.size, .int .i64 T.step, .int .i64 T.up, .int .i64 T.down, .slice (some ⟨w3.heap.size + 1, 0, none⟩) 1 1] 45)).alloc (.cells #[.int .i64 code, .int .i64 1000, .int .i64 1000, .int .i64 (-1000)] 56)).alloc (.cells #[.int .i64 D.sum, .int .i64 D.design, .int .i64 D.first, .slice P.xc D.nc P.zc, .slice P.xw D.nw P.zw, .slice P.xh D.nh P.zh, .slice P.xd D.nd P.zd, .slice P.xi D.ni P.zi, .slice P.xs D.ns P.zs, .slice P.xk D.nk P.zk, .slice P.xp D.np P.zp, .int .i64 T.size, .int .i64 T.step, .int .i64 T.up, .int .i64 T.down, .slice (some ⟨w3.heap.size + 1 + 1 + 1, 0, none⟩) 1 1] 45)) (w3.heap.size + 1 + 1 + 1) 56 #[.int .i64 code, .int .i64 1000, .int .i64 500, .int .i64 0] (by simp))
  go_upto_region 8 with (first | (refine wpList_load (by kernel_rfl) 45 _ rfl B rfl [.int .i64 D.sum, .int .i64 D.design, .int .i64 D.first, .slice P.xc D.nc P.zc, .slice P.xw D.nw P.zw, .slice P.xh D.nh P.zh, .slice P.xd D.nd P.zd, .slice P.xi D.ni P.zi, .slice P.xs D.ns P.zs, .slice P.xk D.nk P.zk, .slice P.xp D.np P.zp, .int .i64 T.size, .int .i64 T.step, .int .i64 T.up, .int .i64 T.down, .slice Q.xt T.nt Q.zt] _ HG3.out.range Try.underlying45 rfl (by kernel_rfl) ?_) | (refine wpList_load (by kernel_rfl) 45 _ rfl B rfl [.int .i64 D.sum, .int .i64 D.design, .int .i64 D.first, .slice P.xc D.nc P.zc, .slice P.xw D.nw P.zw, .slice P.xh D.nh P.zh, .slice P.xd D.nd P.zd, .slice P.xi D.ni P.zi, .slice P.xs D.ns P.zs, .slice P.xk D.nk P.zk, .slice P.xp D.np P.zp, .int .i64 T.size, .int .i64 T.step, .int .i64 T.up, .int .i64 T.down, .slice Q.xt T.nt Q.zt] _ HGm.out.range Try.underlying45 rfl (by kernel_rfl) ?_) | fail)
  generalize ((((w3.alloc (.cells #[.int .i64 D.sum, .int .i64 D.design, .int .i64 D.first, .slice P.xc D.nc P.zc, .slice P.xw D.nw P.zw, .slice P.xh D.nh P.zh, .slice P.xd D.nd P.zd, .slice P.xi D.ni P.zi, .slice P.xs D.ns P.zs, .slice P.xk D.nk P.zk, .slice P.xp D.np P.zp, .int .i64 T.size, .int .i64 T.step, .int .i64 T.up, .int .i64 T.down, .slice (some ⟨w3.heap.size + 1, 0, none⟩) 1 1] 45)).alloc (.cells #[.int .i64 code, .int .i64 1000, .int .i64 1000, .int .i64 (-1000)] 56)).alloc (.cells #[.int .i64 D.sum, .int .i64 D.design, .int .i64 D.first, .slice P.xc D.nc P.zc, .slice P.xw D.nw P.zw, .slice P.xh D.nh P.zh, .slice P.xd D.nd P.zd, .slice P.xi D.ni P.zi, .slice P.xs D.ns P.zs, .slice P.xk D.nk P.zk, .slice P.xp D.np P.zp, .int .i64 T.size, .int .i64 T.step, .int .i64 T.up, .int .i64 T.down, .slice (some ⟨w3.heap.size + 1 + 1 + 1, 0, none⟩) 1 1] 45)).alloc (.cells #[.int .i64 code, .int .i64 1000, .int .i64 500, .int .i64 0] 56)) = V2 at *
  generalize w3.heap.size + 1 + 1 + 1 = R3 at *
  generalize w3.heap.size + 1 + 1 = R2 at *
  generalize w3.heap.size + 1 = R1 at *
  generalize w3.heap.size = R0 at *
  have SA := Lib.hid (show SeenN 4 V2 (some ⟨R1, 0, none⟩) 1 (fun _ j => if j = 0 then code else if j = 1 then 1000 else if j = 2 then 1000 else (-1000)) from blk_rows HA2.out (fun i hi j hj => by obtain rfl : i = 0 := (by omega); exact (match j, hj with | 0, _ | 1, _ | 2, _ | 3, _ => rfl)))
  have SB := Lib.hid (show SeenN 4 V2 (some ⟨R3, 0, none⟩) 1 (fun _ j => if j = 0 then code else if j = 1 then 1000 else if j = 2 then 500 else 0) from blk_rows HA4.out (fun i hi j hj => by obtain rfl : i = 0 := (by omega); exact (match j, hj with | 0, _ | 1, _ | 2, _ | 3, _ => rfl)))
  go_wp2_with (first | (refine wpList_load (by kernel_rfl) 45 _ rfl R0 rfl [.int .i64 D.sum, .int .i64 D.design, .int .i64 D.first, .slice P.xc D.nc P.zc, .slice P.xw D.nw P.zw, .slice P.xh D.nh P.zh, .slice P.xd D.nd P.zd, .slice P.xi D.ni P.zi, .slice P.xs D.ns P.zs, .slice P.xk D.nk P.zk, .slice P.xp D.np P.zp, .int .i64 T.size, .int .i64 T.step, .int .i64 T.up, .int .i64 T.down, .slice (some ⟨R1, 0, none⟩) 1 1] _ HA1.out.range Try.underlying45 rfl (by kernel_rfl) ?_) | fail)
  refine (K1.out _ _ (HW.out.trans XA.out) SA.out).mono ?_; rintro e w4 ⟨rfl, x4⟩
  have X4 := Lib.hid x4
  clear x4
  go_wp2_with (first | (refine wpList_load (by kernel_rfl) 45 _ rfl R0 rfl [.int .i64 D.sum, .int .i64 D.design, .int .i64 D.first, .slice P.xc D.nc P.zc, .slice P.xw D.nw P.zw, .slice P.xh D.nh P.zh, .slice P.xd D.nd P.zd, .slice P.xi D.ni P.zi, .slice P.xs D.ns P.zs, .slice P.xk D.nk P.zk, .slice P.xp D.np P.zp, .int .i64 T.size, .int .i64 T.step, .int .i64 T.up, .int .i64 T.down, .slice (some ⟨R1, 0, none⟩) 1 1] _ (HA1.out.ext X4.out).range Try.underlying45 rfl (by kernel_rfl) ?_) | fail)
  refine (K2.out _ _ (HW.out.trans (XA.out.trans X4.out)) (SA.out.ext X4.out)).mono ?_; rintro e w5 ⟨rfl, x5⟩
  have X5 := Lib.hid (X4.out.trans x5)
  clear x5
  go_wp2_with (first | (refine wpList_load (by kernel_rfl) 45 _ rfl R2 rfl [.int .i64 D.sum, .int .i64 D.design, .int .i64 D.first, .slice P.xc D.nc P.zc, .slice P.xw D.nw P.zw, .slice P.xh D.nh P.zh, .slice P.xd D.nd P.zd, .slice P.xi D.ni P.zi, .slice P.xs D.ns P.zs, .slice P.xk D.nk P.zk, .slice P.xp D.np P.zp, .int .i64 T.size, .int .i64 T.step, .int .i64 T.up, .int .i64 T.down, .slice (some ⟨R3, 0, none⟩) 1 1] _ (HA3.out.ext X5.out).range Try.underlying45 rfl (by kernel_rfl) ?_) | fail)
  refine (K3.out _ _ (HW.out.trans (XA.out.trans X5.out)) (SB.out.ext X5.out)).mono ?_; rintro e w6 ⟨rfl, x6⟩
  have X6 := Lib.hid ((HW.out.trans XA.out).trans (X5.out.trans x6))
  clear x6
  by_cases he : e = 0
  · subst he
    obtain ⟨rfl, rfl, rfl, rfl, rfl, hm, m1, m2⟩ := FIN2.out.2 rfl
    rcases hm with rfl | rfl
    · go_wp2_with fail
      go_ret
      exact ⟨rfl, X6.out⟩
    · have f1 : (2 * m + 1 == 2 * m) = false := by simp; omega
      go_wp2_with fail
      go_ret
      exact ⟨rfl, X6.out⟩
  · obtain ⟨q1, q2⟩ := FIN2.out.1 he
    have q1 := q1.symm
    have q2 := q2.symm
    subst q1
    subst q2
    have he1 : (e != 0) = true := by simpa using he
    go_wp2_with fail
    go_ret
    exact ⟨rfl, X6.out⟩

set_option maxRecDepth 100000 in
set_option maxHeartbeats 4000000 in
theorem walk (D : FontD) (P : FontP) (T : FaceT) (Q : FaceQ) (ok : FaceOk D P T Q) (code : Int) (hcode : -9223372036854775808 ≤ code ∧ code ≤ 9223372036854775807) (n : Int) (hn : -128 ≤ n ∧ n ≤ 127) (w : World) (sn : SeenFace w D P T Q) :
    Calls Try.prog 9 #[faceV D P T Q, .int .i64 code, .int .i8 n] w (Ret w (.bool true)) := by
  have wd : ∀ x : Int, -9223372036854775808 ≤ x ∧ x ≤ 9223372036854775807 → Wide x := fun x h => h
  have og := fun b => ok_one (b := b) ok (fun _ j => if j = 0 then code else if j = 1 then 1000 else if j = 2 then 1000 else (-1000)) (fun j hj => match j, hj with | 0, _ => wd _ hcode | 1, _ => by simp [Wide] | 2, _ => by simp [Wide] | 3, _ => by simp [Wide])
  have oh := fun b => ok_one (b := b) ok (fun _ j => if j = 0 then code else if j = 1 then 1000 else if j = 2 then 500 else 0) (fun j hj => match j, hj with | 0, _ => wd _ hcode | 1, _ => by simp [Wide] | 2, _ => by simp [Wide] | 3, _ => by simp [Wide])
  have nn : -9223372036854775808 ≤ n ∧ n ≤ 9223372036854775807 := by omega
  refine core D P T Q code n _ _ _ _ _ _ _ _ (faceB D T) w hn.1 hn.2 (fun w' x => fcheck_any D P T Q w' ok (sn.ext x)) (fun w' b x s => fwidth_any D P ⟨T.size, T.step, T.up, T.down, 1, fun _ j => if j = 0 then code else if j = 1 then 1000 else if j = 2 then 1000 else (-1000)⟩ ⟨some ⟨b, 0, none⟩, 1⟩ code n w' (og b) ⟨(sn.ext x).font, s⟩ hcode.1 hcode.2 nn.1 nn.2)
    (fun w' b x s => fedges_any D P ⟨T.size, T.step, T.up, T.down, 1, fun _ j => if j = 0 then code else if j = 1 then 1000 else if j = 2 then 1000 else (-1000)⟩ ⟨some ⟨b, 0, none⟩, 1⟩ code n w' (og b) ⟨(sn.ext x).font, s⟩ hcode.1 hcode.2 nn.1 nn.2) (fun w' b x s => fedges_any D P ⟨T.size, T.step, T.up, T.down, 1, fun _ j => if j = 0 then code else if j = 1 then 1000 else if j = 2 then 500 else 0⟩ ⟨some ⟨b, 0, none⟩, 1⟩ code n w' (oh b) ⟨(sn.ext x).font, s⟩ hcode.1 hcode.2 nn.1 nn.2) (fun hF => ?_)
  have fg := face_one hF (fun _ j => if j = 0 then code else if j = 1 then 1000 else if j = 2 then 1000 else (-1000)) (by simp) (by simp) (by simp)
  have fh := face_one hF (fun _ j => if j = 0 then code else if j = 1 then 1000 else if j = 2 then 500 else 0) (by simp) (by simp) (by simp)
  have ee : errF D ⟨T.size, T.step, T.up, T.down, 1, fun _ j => if j = 0 then code else if j = 1 then 1000 else if j = 2 then 1000 else (-1000)⟩ code = errF D ⟨T.size, T.step, T.up, T.down, 1, fun _ j => if j = 0 then code else if j = 1 then 1000 else if j = 2 then 500 else 0⟩ code := by rw [errF, errF, fg, fh]; rfl
  refine ⟨fun _ => ⟨rfl, ee.symm⟩, fun he => ?_⟩
  have he' := ee.symm.trans he
  have hG : faceB D ⟨T.size, T.step, T.up, T.down, 1, fun _ j => if j = 0 then code else if j = 1 then 1000 else if j = 2 then 1000 else (-1000)⟩ = true := by
    cases q : faceB D ⟨T.size, T.step, T.up, T.down, 1, fun _ j => if j = 0 then code else if j = 1 then 1000 else if j = 2 then 1000 else (-1000)⟩ with
    | true => rfl
    | false => simp [errF, q] at he
  have hh : hasB D code = true := by
    cases q : hasB D code with
    | true => rfl
    | false => simp [errF, hG, q] at he
  obtain ⟨J, f1, f2⟩ := L09.has_in hh
  have CL := clamp_in (face_in hG).1 n
  have wb := wide_in (face_in hG).1 J CL.1 CL.2 f1 f2
  have ec : clampN ⟨T.size, T.step, T.up, T.down, 1, fun _ j => if j = 0 then code else if j = 1 then 1000 else if j = 2 then 500 else 0⟩ n = clampN ⟨T.size, T.step, T.up, T.down, 1, fun _ j => if j = 0 then code else if j = 1 then 1000 else if j = 2 then 1000 else (-1000)⟩ n := rfl
  have t1 := fun j => tr_one T (fun _ j => if j = 0 then code else if j = 1 then 1000 else if j = 2 then 1000 else (-1000)) code rfl j
  have t2 := fun j => tr_one T (fun _ j => if j = 0 then code else if j = 1 then 1000 else if j = 2 then 500 else 0) code rfl j
  have ew : wideN D ⟨T.size, T.step, T.up, T.down, 1, fun _ j => if j = 0 then code else if j = 1 then 1000 else if j = 2 then 500 else 0⟩ code (clampN ⟨T.size, T.step, T.up, T.down, 1, fun _ j => if j = 0 then code else if j = 1 then 1000 else if j = 2 then 500 else 0⟩ n) = wideN D ⟨T.size, T.step, T.up, T.down, 1, fun _ j => if j = 0 then code else if j = 1 then 1000 else if j = 2 then 1000 else (-1000)⟩ code (clampN ⟨T.size, T.step, T.up, T.down, 1, fun _ j => if j = 0 then code else if j = 1 then 1000 else if j = 2 then 1000 else (-1000)⟩ n) := by rw [wideN, wideN, t1, t2]; rfl
  refine ⟨he, he', ?_, ?_, ?_, ?_, ?_⟩
  · rw [edgeV, if_pos he, widthV, if_pos he, t1]; show _ * (1000 : Int) / 1000 = _; omega
  · rw [edgeV, if_pos he, widthV, if_pos he, t1]; show _ * (-1000 : Int) / 1000 = _; omega
  · rw [edgeV, if_pos he', t2]; show _ * (0 : Int) / 1000 = _; omega
  · rw [widthV, if_pos he, edgeV, if_pos he', t2, ew]; show _ = 2 * (_ * (500 : Int) / 1000) ∨ _ = 2 * (_ * (500 : Int) / 1000) + 1; omega
  · rw [edgeV, if_pos he', t2, ew]; show _ ≤ _ * (500 : Int) / 1000 ∧ _ * (500 : Int) / 1000 ≤ _; omega

set_option maxRecDepth 100000 in
theorem lifted (os : Os) (started : os.Started) (H : Type) (enc : TypeId × Value → H) :
    ReturnsInHanded {} Try.checked os 9 .any (Rows.levelEdgesSpec.pre6 enc Try.prog Try.f9 [] false) (Rows.levelEdgesSpec.post enc Try.prog Try.f9 false true false false) := by
  refine law_lift (C := Try.checked) own started (by kernel_rfl) Try.func9 laidOut rfl rfl Try.underlying4 (by kernel_rfl) ?_
    (ChangeSpec.witness6 (enc := enc) (C := Try.checked) false ⟨#[], #[.agg #[.int .i64 0, .int .i64 0, .int .i64 0, .slice none 0 0, .slice none 0 0, .slice none 0 0, .slice none 0 0, .slice none 0 0, .slice none 0 0, .slice none 0 0, .slice none 0 0, .int .i64 0, .int .i64 0, .int .i64 0, .int .i64 0, .slice none 0 0], .int .i64 0, .int .i8 0], []⟩ 8 (by kernel_rfl) (by kernel_rfl) (by kernel_rfl) (by kernel_rfl)) ?_
  · intro H ds h
    match ds, h with
    | [_, _, _], _ => rfl
  · intro W base args ds p hval hA hlt hwt hsh
    rw [Try.params9] at hA hval
    obtain ⟨v0, vs0, d0, ds0, p0, q0, hargs, rfl, rfl, h0, r0⟩ := trodAll_cons hA
    obtain ⟨v1, vs1, d1, ds1, p1, q1, rfl, rfl, rfl, h1, r1⟩ := trodAll_cons r0
    obtain ⟨v2, vs2, d2, ds2, p2, q2, rfl, rfl, rfl, h2, r2⟩ := trodAll_cons r1
    obtain ⟨rfl, rfl, rfl⟩ := trodAll_nil r2
    obtain rfl : args = #[v0, v1, v2] := by cases args; simp_all
    obtain ⟨D0, P0, T0, Q0, rfl, ok0, hs0⟩ := arg_face (hval 0 45 v0 rfl rfl) h0
    obtain ⟨a1, rfl, rfl, rfl, wf1⟩ := open_int Try.underlying3 (hval 1 3 v1 rfl rfl) h1
    obtain ⟨a2, rfl, rfl, rfl, wf2⟩ := open_int Try.underlying53 (hval 2 53 v2 rfl rfl) h2
    exact walk D0 P0 T0 Q0 ok0 a1 (bounds_i64 wf1) a2 (bounds_i8 wf2) W hs0

theorem holds : Rows.LevelEdgesSaid :=
  OpenClaim.holds_of_wide 9 Try.f9 rfl rfl rfl rfl rfl rfl rfl ⟨rfl, rfl, rfl, rfl, rfl⟩ rfl rfl rfl rfl rfl (by kernel_rfl) Try.func9 (by kernel_rfl)
    (of_decide_eq_true (by kernel_rfl)) (by unfold Func.isWrapper; first | (rw [if_pos (by decide +kernel)]; kernel_rfl) | (rw [if_neg (by decide +kernel)]; exact ⟨rfl, rfl⟩))
    (fun os started H enc _ => lifted os started H enc)
end LevelEdges
end Go.Proofs.Ytpkmpbpifbpomaa

