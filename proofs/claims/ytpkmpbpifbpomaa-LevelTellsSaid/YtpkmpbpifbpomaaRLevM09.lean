/- The document's answers of layer 9: floors, the nearest level, a character's trait. The document's answers of layer 9: which faces may be. The document's answers of layer 9: widths, kerns, and what stands out. The document's answers of layer 9: the calls. The document's answers of layer 9: kerns, edges, levels. -/
import Derived.Test.YtpkmpbpifbpomaaLevE09
import Derived.Test.YtpkmpbpifbpomaaRefAll02
import Derived.Test.YtpkmpbpifbpomaaFew09
import Derived.Test.YtpkmpbpifbpomaaRCk08
namespace Go.Proofs.Ytpkmpbpifbpomaa
open Go.RowKit
namespace L09
open L02 L07 L08

/-- The nearest level. -/
theorem rfloor_ok {a b c q : Int} (hm : mayB a b c = true) (hq : a * b / c = q) (hf : fitB q = true) (w : World) : Calls Try.prog 94 #[.int .i64 a, .int .i64 b, .int .i64 c] w (Ret w (.int .i64 q)) := by
  have F := Lib.hid (fun w => show Calls Try.prog 112 #[.int .i64 a, .int .i64 b, .int .i64 c] w (Ret w (.tuple #[.int .i64 q, .int .i64 0])) by
    have h := floor_ref a b c w
    rw [hm, hq, (kept_yes rfl hf).1, (kept_yes rfl hf).2] at h
    exact h)
  clear hm hq hf
  go_enter Try.func94, Try.ntmps94
  go_wp2_with fail
  refine (F.out _).mono ?_; rintro e w1 ⟨rfl, x1⟩
  go_wp2_with fail
  go_ret
  exact ⟨rfl, x1⟩

set_option maxRecDepth 100000 in
set_option maxHeartbeats 4000000 in
theorem rclampN_any (D : FontD) (P : FontP) (T : FaceT) (Q : FaceQ) (n : Int) (w : World) (h : FaceIn T) :
    Calls Try.prog 70 #[.agg #[.int .i64 D.sum, .int .i64 D.design, .int .i64 D.first, .slice P.xc D.nc P.zc, .slice P.xw D.nw P.zw, .slice P.xh D.nh P.zh, .slice P.xd D.nd P.zd, .slice P.xi D.ni P.zi, .slice P.xs D.ns P.zs, .slice P.xk D.nk P.zk, .slice P.xp D.np P.zp, .int .i64 T.size, .int .i64 T.step, .int .i64 T.up, .int .i64 T.down, .slice Q.xt T.nt Q.zt], .int .i64 n] w (Ret w (.int .i64 (min (max n (-T.down)) T.up))) := by
  obtain ⟨s1, s2⟩ := h.down
  clear h
  go_enter Try.func70, Try.ntmps70
  go_wp2_with fail
  go_ret
  exact ⟨rfl, (Ext.refl _).alloc _⟩

set_option maxRecDepth 100000 in
set_option maxHeartbeats 4000000 in
theorem rtrait_any (D : FontD) (P : FontP) (T : FaceT) (Q : FaceQ) (code : Int) (w : World) (rt : T.nt ≤ Q.zt ∧ Q.zt ≤ maxLen) (ot : SeenN 4 w Q.xt T.nt T.trt) :
    Calls Try.prog 95 #[.agg #[.int .i64 D.sum, .int .i64 D.design, .int .i64 D.first, .slice P.xc D.nc P.zc, .slice P.xw D.nw P.zw, .slice P.xh D.nh P.zh, .slice P.xd D.nd P.zd, .slice P.xi D.ni P.zi, .slice P.xs D.ns P.zs, .slice P.xk D.nk P.zk, .slice P.xp D.np P.zp, .int .i64 T.size, .int .i64 T.step, .int .i64 T.up, .int .i64 T.down, .slice Q.xt T.nt Q.zt], .int .i64 code] w (Ret w (.agg #[.int .i64 (trV T code 0), .int .i64 (trV T code 1), .int .i64 (trV T code 2), .int .i64 (trV T code 3)])) := by
  have hm : T.nt ≤ 9223372036854775807 := by have := rt.1; have := rt.2; unfold maxLen at *; omega
  obtain ⟨V, hV⟩ : ∃ V, V = (w.alloc (.cells #[.int .i64 D.sum, .int .i64 D.design, .int .i64 D.first, .slice P.xc D.nc P.zc, .slice P.xw D.nw P.zw, .slice P.xh D.nh P.zh, .slice P.xd D.nd P.zd, .slice P.xi D.ni P.zi, .slice P.xs D.ns P.zs, .slice P.xk D.nk P.zk, .slice P.xp D.np P.zp, .int .i64 T.size, .int .i64 T.step, .int .i64 T.up, .int .i64 T.down, .slice Q.xt T.nt Q.zt] 45)).alloc (.cells #[.int .i64 0, .int .i64 0, .int .i64 0, .int .i64 0] 56) := ⟨_, rfl⟩
  have W0 : Ext w V := by rw [hV]; exact ((Ext.refl _).alloc _).alloc _
  have kF : Blk V w.heap.size 45 [.int .i64 D.sum, .int .i64 D.design, .int .i64 D.first, .slice P.xc D.nc P.zc, .slice P.xw D.nw P.zw, .slice P.xh D.nh P.zh, .slice P.xd D.nd P.zd, .slice P.xi D.ni P.zi, .slice P.xs D.ns P.zs, .slice P.xk D.nk P.zk, .slice P.xp D.np P.zp, .int .i64 T.size, .int .i64 T.step, .int .i64 T.up, .int .i64 T.down, .slice Q.xt T.nt Q.zt] := by rw [hV]; exact (Blk.lit _ _ _ _ rfl).ext ((Ext.refl _).alloc _)
  have kR : Blk V (w.heap.size + 1) 56 [.int .i64 0, .int .i64 0, .int .i64 0, .int .i64 0] := by rw [hV]; exact Blk.lit _ _ _ _ (by simp)
  have OT := Lib.hid (ot.ext W0)
  have HW := Lib.hid W0
  have HB := Lib.hid (show w.heap.size ≤ w.heap.size + 1 by omega)
  obtain ⟨n, hn⟩ : ∃ n, n = T.nt := ⟨_, rfl⟩
  have HN := Lib.hid hn
  go_enter Try.func95, Try.ntmps95
  go_upto_region 1 with (fail)
  rw [← hV]
  rw [← hn] at kF hm ⊢
  clear hV ot rt W0 hn
  generalize w.heap.size + 1 = R at *
  generalize hB : w.heap.size = B at *
  have HB : Hid (w.heap.size ≤ R) := Lib.hid (by rw [hB]; exact HB.out)
  clear hB
  have q15 : V.cell? ⟨B, 15, none⟩ = some (.slice Q.xt n Q.zt) := kF.cell 15
  have f0 := kR.free 0; have f1 := kR.free 1; have f2 := kR.free 2; have f3 := kR.free 3
  have r0 := kR.cell 0; have r1 := kR.cell 1; have r2 := kR.cell 2; have r3 := kR.cell 3
  simp only [List.getElem?_cons_zero, List.getElem?_cons_succ] at r0 r1 r2 r3
  have HR := Lib.hid kR
  clear kF kR
  go_wp2_with fail
  go_loopw [5] (fun i wr => ∃ k : Nat, k ≤ n ∧ i = .int .i64 k ∧ Hid (∀ j, j < k → T.trt j 0 ≠ code) ∧ wr = V) (fun i _ => n - (intOf i).toNat)
  case atStart => exact ⟨0, by omega, rfl, Lib.hid (fun j hj => absurd hj (by omega)), rfl⟩
  case round =>
    obtain ⟨k, hk, rfl, hall, rfl⟩ := hrel
    by_cases hlt : k < n
    · have hltT : k < T.nt := by rw [← HN.out]; exact hlt
      obtain ⟨ad, hA, u0, u1, u2, u3⟩ := row4 OT.out hltT
      rw [hA] at q15
      by_cases h : T.trt k 0 = code
      · have H := Lib.hid (show Value.agg #[.int .i64 code, .int .i64 (T.trt k 1), .int .i64 (T.trt k 2), .int .i64 (T.trt k 3)] = .agg #[.int .i64 (trV T code 0), .int .i64 (trV T code 1), .int .i64 (trV T code 2), .int .i64 (trV T code 3)] by simp [trV, at_hit hltT hall.out h, h])
        rw [h] at u0
        generalize T.trt k 1 = z1 at *
        generalize T.trt k 2 = z2 at *
        generalize T.trt k 3 = z3 at *
        clear h hA
        go_wp2_with fail
        have hb := (((HR.out.set 0 (.int .i64 code)).set 1 (.int .i64 z1)).set 2 (.int .i64 z2)).set 3 (.int .i64 z3)
        have k0 := hb.cell 0; have k1 := hb.cell 1; have k2 := hb.cell 2; have k3 := hb.cell 3
        simp only [List.set_cons_zero, List.set_cons_succ, List.getElem?_cons_zero, List.getElem?_cons_succ] at k0 k1 k2 k3
        refine bodyPost_ret (v := .agg #[.int .i64 code, .int .i64 z1, .int .i64 z2, .int .i64 z3]) (by simp [results, Try.results95, go_sem, k0, k1, k2, k3]) rfl ⟨by rw [H.out], ?_⟩
        exact (((HW.out.setCell (p := ⟨R, 0, none⟩) HB.out _).setCell (p := ⟨R, 1, none⟩) HB.out _).setCell (p := ⟨R, 2, none⟩) HB.out _).setCell (p := ⟨R, 3, none⟩) HB.out _
      · have H := Lib.hid (show ∀ j, j < k + 1 → T.trt j 0 ≠ code from fun j hj => if e : j = k then e ▸ h else hall.out j (by omega))
        have hb : (T.trt k 0 == code) = false := by simpa using h
        generalize T.trt k 0 = z0 at *
        clear h hA u1 u2 u3
        go_wp2_with fail
        go_roundw
        case rel => exact ⟨k + 1, by omega, by go_num, H, trivial⟩
        case measure => simp [intOf]; omega
    · obtain rfl : k = n := by omega
      have H := Lib.hid (show Value.agg #[.int .i64 code, .int .i64 1000, .int .i64 0, .int .i64 0] = .agg #[.int .i64 (trV T code 0), .int .i64 (trV T code 1), .int .i64 (trV T code 2), .int .i64 (trV T code 3)] by
        rw [trV, trV, trV, trV, at_none (by rw [← HN.out]; exact hall.out)]; rfl)
      go_wp2_with fail
      have hb := (((HR.out.set 0 (.int .i64 code)).set 1 (.int .i64 1000)).set 2 (.int .i64 0)).set 3 (.int .i64 0)
      have k0 := hb.cell 0; have k1 := hb.cell 1; have k2 := hb.cell 2; have k3 := hb.cell 3
      simp only [List.set_cons_zero, List.set_cons_succ, List.getElem?_cons_zero, List.getElem?_cons_succ] at k0 k1 k2 k3
      refine bodyPost_ret (v := .agg #[.int .i64 code, .int .i64 1000, .int .i64 0, .int .i64 0]) (by simp [results, Try.results95, go_sem, k0, k1, k2, k3]) rfl ⟨by rw [H.out], ?_⟩
      exact (((HW.out.setCell (p := ⟨R, 0, none⟩) HB.out _).setCell (p := ⟨R, 1, none⟩) HB.out _).setCell (p := ⟨R, 2, none⟩) HB.out _).setCell (p := ⟨R, 3, none⟩) HB.out _
end L09
end Go.Proofs.Ytpkmpbpifbpomaa

namespace Go.Proofs.Ytpkmpbpifbpomaa
open Go.RowKit
namespace L09
open L02 L07 L08

theorem tr_pos {T : FaceT} : ∀ m, allB (trOk T) (m + 1) = true → 0 ≤ T.trt m 0
  | 0, h => by
    have h0 := (allB_iff _ _).1 h 0 (by omega)
    simp only [trOk, wiB, leastT, Bool.and_eq_true, decide_eq_true_eq] at h0
    exact (of_decide_eq_true h0.1).1
  | m + 1, h => by
    have hp := tr_pos m ((allB_iff _ _).2 fun j hj => (allB_iff _ _).1 h j (by omega))
    have h0 := (allB_iff _ _).1 h (m + 1) (by omega)
    simp only [trOk, wiB, leastT, Bool.and_eq_true, decide_eq_true_eq] at h0
    have := (of_decide_eq_true h0.1).1
    omega
theorem tr_yes {T : FaceT} {k : Nat} (h : allB (trOk T) k = true) (h0 : leastT T k ≤ T.trt k 0) (h1 : T.trt k 0 ≤ 255) (h2 : 0 ≤ T.trt k 1) (h3 : T.trt k 1 ≤ 1000) (h4 : -1000 ≤ T.trt k 2) (h5 : T.trt k 2 ≤ 1000) (h6 : -1000 ≤ T.trt k 3) (h7 : T.trt k 3 ≤ 1000) : allB (trOk T) (k + 1) = true := by
  rw [allB, h, Bool.true_and]
  simp [trOk, wiB, *]
theorem tr_no {T : FaceT} {D : FontD} {k : Nat} (hk : k < T.nt) (h : ¬ (leastT T k ≤ T.trt k 0 ∧ T.trt k 0 ≤ 255 ∧ 0 ≤ T.trt k 1 ∧ T.trt k 1 ≤ 1000 ∧ -1000 ≤ T.trt k 2 ∧ T.trt k 2 ≤ 1000 ∧ -1000 ≤ T.trt k 3 ∧ T.trt k 3 ≤ 1000)) : false = faceB D T := by
  have : trOk T k = false := by
    rw [← Bool.not_eq_true]
    intro q
    simp only [trOk, wiB, Bool.and_eq_true, decide_eq_true_eq] at q
    exact h ⟨q.1.1, q.1.2, q.2.1.1, q.2.1.2, q.2.2.1.1, q.2.2.1.2, q.2.2.2.1, q.2.2.2.2⟩
  have : traitsB T = false := allB_no hk this
  simp [faceB, this]

set_option maxRecDepth 100000 in
set_option maxHeartbeats 8000000 in
theorem rfcheck_any (D : FontD) (P : FontP) (T : FaceT) (Q : FaceQ) (w : World) (ok : FaceOk D P T Q) (sn : SeenFace w D P T Q) :
    Calls Try.prog 34 #[.agg #[.int .i64 D.sum, .int .i64 D.design, .int .i64 D.first, .slice P.xc D.nc P.zc, .slice P.xw D.nw P.zw, .slice P.xh D.nh P.zh, .slice P.xd D.nd P.zd, .slice P.xi D.ni P.zi, .slice P.xs D.ns P.zs, .slice P.xk D.nk P.zk, .slice P.xp D.np P.zp, .int .i64 T.size, .int .i64 T.step, .int .i64 T.up, .int .i64 T.down, .slice Q.xt T.nt Q.zt]] w (Ret w (.bool (faceB D T))) := by
  have hm : T.nt ≤ 9223372036854775807 := by have := ok.rt.1; have := ok.rt.2; unfold maxLen at *; omega
  obtain ⟨V, hV⟩ : ∃ V, V = w.alloc (.cells #[.int .i64 D.sum, .int .i64 D.design, .int .i64 D.first, .slice P.xc D.nc P.zc, .slice P.xw D.nw P.zw, .slice P.xh D.nh P.zh, .slice P.xd D.nd P.zd, .slice P.xi D.ni P.zi, .slice P.xs D.ns P.zs, .slice P.xk D.nk P.zk, .slice P.xp D.np P.zp, .int .i64 T.size, .int .i64 T.step, .int .i64 T.up, .int .i64 T.down, .slice Q.xt T.nt Q.zt] 45) := ⟨_, rfl⟩
  have W0 : Ext w V := by rw [hV]; exact (Ext.refl _).alloc _
  have kF : Blk V w.heap.size 45 [.int .i64 D.sum, .int .i64 D.design, .int .i64 D.first, .slice P.xc D.nc P.zc, .slice P.xw D.nw P.zw, .slice P.xh D.nh P.zh, .slice P.xd D.nd P.zd, .slice P.xi D.ni P.zi, .slice P.xs D.ns P.zs, .slice P.xk D.nk P.zk, .slice P.xp D.np P.zp, .int .i64 T.size, .int .i64 T.step, .int .i64 T.up, .int .i64 T.down, .slice Q.xt T.nt Q.zt] := by rw [hV]; exact Blk.lit _ _ _ _ rfl
  have LC := Lib.hid (show Calls Try.prog 24 #[.agg #[.int .i64 D.sum, .int .i64 D.design, .int .i64 D.first, .slice P.xc D.nc P.zc, .slice P.xw D.nw P.zw, .slice P.xh D.nh P.zh, .slice P.xd D.nd P.zd, .slice P.xi D.ni P.zi, .slice P.xs D.ns P.zs, .slice P.xk D.nk P.zk, .slice P.xp D.np P.zp]] V (Ret V (.bool (ligB D))) from rcheck_any D P V ok.font (sn.font.ext W0))
  have OT := Lib.hid (sn.ot.ext W0)
  have HW := Lib.hid W0
  have HF := Lib.hid (show faceB D T = (wiB T.size 65536 4194304 && (wiB T.step 0 50 && (wiB T.up 0 8 && (wiB T.down 0 8 && (traitsB T && ligB D))))) from rfl)
  have NOS := Lib.hid (fun h : ¬ (ligB D = true ∧ 65536 ≤ T.size ∧ T.size ≤ 4194304 ∧ 0 ≤ T.step ∧ T.step ≤ 50 ∧ 0 ≤ T.up ∧ T.up ≤ 8 ∧ 0 ≤ T.down ∧ T.down ≤ 8) => show false = faceB D T by
    rw [eq_comm, ← Bool.not_eq_true]
    intro q
    have I := face_in q
    exact h ⟨I.2, I.1.size.1, I.1.size.2, I.1.step.1, I.1.step.2, I.1.up.1, I.1.up.2, I.1.down.1, I.1.down.2⟩)
  have TRN := Lib.hid (fun (k : Nat) (hk : k < T.nt) => tr_no (D := D) hk)
  go_enter Try.func34, Try.ntmps34
  go_upto_region 1 with (fail)
  rw [← hV]
  clear hV ok sn W0
  generalize w.heap.size = B at *
  have HG := Lib.hid kF
  clear kF
  generalize hfv : faceB D T = fv at *
  generalize ligB D = lb at *
  go_wp2_with (first | (refine wpList_load_mid rfl 28 _ rfl B 0 rfl [.int .i64 D.sum, .int .i64 D.design, .int .i64 D.first, .slice P.xc D.nc P.zc, .slice P.xw D.nw P.zw, .slice P.xh D.nh P.zh, .slice P.xd D.nd P.zd, .slice P.xi D.ni P.zi, .slice P.xs D.ns P.zs, .slice P.xk D.nk P.zk, .slice P.xp D.np P.zp] _ (font_range HG.out) Try.underlying28 rfl (by kernel_rfl) ?_) | fail)
  refine LC.out.mono ?_; rintro e w1 ⟨rfl, x1⟩
  have HG1 := Lib.hid (HG.out.ext x1)
  have HX := Lib.hid (HW.out.trans x1)
  have OT1 := Lib.hid (OT.out.ext x1)
  have q11 : w1.cell? ⟨B, 11, none⟩ = some (.int .i64 T.size) := HG1.out.cell 11
  have q12 : w1.cell? ⟨B, 12, none⟩ = some (.int .i64 T.step) := HG1.out.cell 12
  have q13 : w1.cell? ⟨B, 13, none⟩ = some (.int .i64 T.up) := HG1.out.cell 13
  have q14 : w1.cell? ⟨B, 14, none⟩ = some (.int .i64 T.down) := HG1.out.cell 14
  clear x1 LC OT HW HG
  cases lb with
  | false =>
    have H := Lib.hid (NOS.out (by simp))
    go_wp2_with fail
    go_ret
    exact ⟨ret_bool H.out, HX.out⟩
  | true =>
  by_cases c0 : 65536 ≤ T.size
  rotate_left
  · have H := Lib.hid (NOS.out (by simp; omega))
    go_wp2_with fail
    go_ret
    exact ⟨ret_bool H.out, HX.out⟩
  by_cases c1 : T.size ≤ 4194304
  rotate_left
  · have H := Lib.hid (NOS.out (by simp; omega))
    go_wp2_with fail
    go_ret
    exact ⟨ret_bool H.out, HX.out⟩
  by_cases c2 : 0 ≤ T.step
  rotate_left
  · have H := Lib.hid (NOS.out (by simp; omega))
    go_wp2_with fail
    go_ret
    exact ⟨ret_bool H.out, HX.out⟩
  by_cases c3 : T.step ≤ 50
  rotate_left
  · have H := Lib.hid (NOS.out (by simp; omega))
    go_wp2_with fail
    go_ret
    exact ⟨ret_bool H.out, HX.out⟩
  by_cases c4 : 0 ≤ T.up
  rotate_left
  · have H := Lib.hid (NOS.out (by simp; omega))
    go_wp2_with fail
    go_ret
    exact ⟨ret_bool H.out, HX.out⟩
  by_cases c5 : T.up ≤ 8
  rotate_left
  · have H := Lib.hid (NOS.out (by simp; omega))
    go_wp2_with fail
    go_ret
    exact ⟨ret_bool H.out, HX.out⟩
  by_cases c6 : 0 ≤ T.down
  rotate_left
  · have H := Lib.hid (NOS.out (by simp; omega))
    go_wp2_with fail
    go_ret
    exact ⟨ret_bool H.out, HX.out⟩
  by_cases c7 : T.down ≤ 8
  rotate_left
  · have H := Lib.hid (NOS.out (by simp; omega))
    go_wp2_with fail
    go_ret
    exact ⟨ret_bool H.out, HX.out⟩
  have HS := Lib.hid (fun h : traitsB T = true => show true = fv by rw [HF.out, h]; simp [wiB, *])
  have q15 : w1.cell? ⟨B, 15, none⟩ = some (.slice Q.xt T.nt Q.zt) := HG1.out.cell 15
  clear NOS hfv
  go_wp2_with fail
  clear q11 q12 q13 q14
  go_loopw [4] (fun i wr => ∃ k : Nat, k ≤ T.nt ∧ i = .int .i64 k ∧ Hid (allB (trOk T) k = true) ∧ Ext w1 wr) (fun i _ => T.nt - (intOf i).toNat)
  case atStart => exact ⟨0, by omega, rfl, Lib.hid rfl, Ext.refl _⟩
  case round =>
    obtain ⟨k, hk, rfl, hall, X⟩ := hrel
    have q15 := X.at q15
    by_cases hlt : k < T.nt
    · have NO := Lib.hid (TRN.out k hlt)
      have YES := Lib.hid (fun a b c d e f g h => tr_yes (T := T) (k := k) hall.out a b c d e f g h)
      have lb := (HG1.out.ext X).lt
      obtain ⟨ad, hA, u0, u1, u2, u3⟩ := row4 (OT1.out.ext X) hlt
      rw [hA] at q15
      have PREV : Hid (∀ m, k = m + 1 → wr.cell? (ad.add (m * 4)) = some (.int .i64 (T.trt m 0))) := Lib.hid (fun m e => by
        obtain ⟨ad', e', h0, _, _, _⟩ := row4 (OT1.out.ext X) (show m < T.nt by omega)
        rw [hA] at e'
        obtain rfl := Option.some.inj e'
        exact h0)
      have LE0 : Hid (k = 0 → leastT T k = 0) := Lib.hid (fun e => by rw [e]; rfl)
      have LE1 : Hid (∀ m, k = m + 1 → leastT T k = T.trt m 0 + 1) := Lib.hid (fun m e => by rw [e]; rfl)
      clear hA
      obtain ⟨z0, hz0⟩ : ∃ z, T.trt k 0 = z := ⟨_, rfl⟩
      rw [hz0] at NO YES u0
      clear hz0
      obtain ⟨z1, hz1⟩ : ∃ z, T.trt k 1 = z := ⟨_, rfl⟩
      rw [hz1] at NO YES u1
      clear hz1
      obtain ⟨z2, hz2⟩ : ∃ z, T.trt k 2 = z := ⟨_, rfl⟩
      rw [hz2] at NO YES u2
      clear hz2
      obtain ⟨z3, hz3⟩ : ∃ z, T.trt k 3 = z := ⟨_, rfl⟩
      rw [hz3] at NO YES u3
      clear hz3
      obtain ⟨le, hle⟩ : ∃ z, leastT T k = z := ⟨_, rfl⟩
      rw [hle] at NO YES LE0 LE1
      clear hle
      have X3 := Lib.hid (X.alloc (.cells #[.int .i64 z0, .int .i64 z1, .int .i64 z2, .int .i64 z3] 56))
      have kT := Blk.lit wr wr.heap.size 56 #[.int .i64 z0, .int .i64 z1, .int .i64 z2, .int .i64 z3] rfl
      have W3 := (Ext.refl wr).alloc (.cells #[.int .i64 z0, .int .i64 z1, .int .i64 z2, .int .i64 z3] 56)
      go_upto_region 8 with (fail)
      have q15 := W3.at q15
      have e0 := kT.cell 0; have e1 := kT.cell 1; have e2 := kT.cell 2; have e3 := kT.cell 3
      simp only [List.getElem?_cons_zero, List.getElem?_cons_succ] at e0 e1 e2 e3
      clear u0 u1 u2 u3 kT
      rcases Nat.eq_zero_or_pos k with hk0 | hk0
      · subst hk0
        have LE : Hid (le = 0) := Lib.hid (LE0.out rfl)
        clear PREV W3 LE0 LE1
        generalize wr.alloc (.cells #[.int .i64 z0, .int .i64 z1, .int .i64 z2, .int .i64 z3] 56) = V3 at *
        generalize wr.heap.size = R at *
        by_cases d0 : z0 < 0
        · have b0 : decide (z0 < 0) = true := by simpa using d0
          have H := Lib.hid (NO.out (by have := LE.out; omega))
          go_quiet (fail)
          go_wp2_with fail
          go_ret
          exact ⟨ret_bool H.out, (HX.out.trans X3.out).drewN _⟩
        have b0 : decide (z0 < 0) = false := by simpa using d0
        by_cases d1 : 255 < z0
        · have b1 : decide (255 < z0) = true := by simpa using d1
          have H := Lib.hid (NO.out (by have := LE.out; omega))
          go_quiet (fail)
          go_wp2_with fail
          go_ret
          exact ⟨ret_bool H.out, (HX.out.trans X3.out).drewN _⟩
        have b1 : decide (255 < z0) = false := by simpa using d1
        by_cases d2 : z1 < 0
        · have b2 : decide (z1 < 0) = true := by simpa using d2
          have H := Lib.hid (NO.out (by have := LE.out; omega))
          go_quiet (fail)
          go_wp2_with fail
          go_ret
          exact ⟨ret_bool H.out, (HX.out.trans X3.out).drewN _⟩
        have b2 : decide (z1 < 0) = false := by simpa using d2
        by_cases d3 : 1000 < z1
        · have b3 : decide (1000 < z1) = true := by simpa using d3
          have H := Lib.hid (NO.out (by have := LE.out; omega))
          go_quiet (fail)
          go_wp2_with fail
          go_ret
          exact ⟨ret_bool H.out, (HX.out.trans X3.out).drewN _⟩
        have b3 : decide (1000 < z1) = false := by simpa using d3
        by_cases d4 : z2 < -1000
        · have b4 : decide (z2 < -1000) = true := by simpa using d4
          have H := Lib.hid (NO.out (by have := LE.out; omega))
          go_quiet (fail)
          go_wp2_with fail
          go_ret
          exact ⟨ret_bool H.out, (HX.out.trans X3.out).drewN _⟩
        have b4 : decide (z2 < -1000) = false := by simpa using d4
        by_cases d5 : 1000 < z2
        · have b5 : decide (1000 < z2) = true := by simpa using d5
          have H := Lib.hid (NO.out (by have := LE.out; omega))
          go_quiet (fail)
          go_wp2_with fail
          go_ret
          exact ⟨ret_bool H.out, (HX.out.trans X3.out).drewN _⟩
        have b5 : decide (1000 < z2) = false := by simpa using d5
        by_cases d6 : z3 < -1000
        · have b6 : decide (z3 < -1000) = true := by simpa using d6
          have H := Lib.hid (NO.out (by have := LE.out; omega))
          go_quiet (fail)
          go_wp2_with fail
          go_ret
          exact ⟨ret_bool H.out, (HX.out.trans X3.out).drewN _⟩
        have b6 : decide (z3 < -1000) = false := by simpa using d6
        by_cases d7 : 1000 < z3
        · have b7 : decide (1000 < z3) = true := by simpa using d7
          have H := Lib.hid (NO.out (by have := LE.out; omega))
          go_quiet (fail)
          go_wp2_with fail
          go_ret
          exact ⟨ret_bool H.out, (HX.out.trans X3.out).drewN _⟩
        have b7 : decide (1000 < z3) = false := by simpa using d7
        have H := Lib.hid (YES.out (by have := LE.out; omega) (by omega) (by omega) (by omega) (by omega) (by omega) (by omega) (by omega))
        go_quiet (fail)
        go_wp2_with fail
        go_roundw
        case rel => exact ⟨0 + 1, by omega, by go_num, H, X3.out.drewN _⟩
        case measure => simp [intOf]; omega
      · obtain ⟨m, rfl⟩ : ∃ m, k = m + 1 := ⟨k - 1, by omega⟩
        have LE : Hid (le = T.trt m 0 + 1) := Lib.hid (LE1.out m rfl)
        have v0 := W3.at (PREV.out m rfl)
        have pp := tr_pos m hall.out
        clear PREV W3 LE0 LE1
        generalize wr.alloc (.cells #[.int .i64 z0, .int .i64 z1, .int .i64 z2, .int .i64 z3] 56) = V3 at *
        generalize wr.heap.size = R at *
        generalize T.trt m 0 = p0 at *
        by_cases d0 : z0 < 0
        · have b0 : decide (z0 < 0) = true := by simpa using d0
          have H := Lib.hid (NO.out (by have := LE.out; omega))
          go_quiet (fail)
          go_wp2_with fail
          go_ret
          exact ⟨ret_bool H.out, (HX.out.trans X3.out).drewN _⟩
        have b0 : decide (z0 < 0) = false := by simpa using d0
        by_cases d1 : 255 < z0
        · have b1 : decide (255 < z0) = true := by simpa using d1
          have H := Lib.hid (NO.out (by have := LE.out; omega))
          go_quiet (fail)
          go_wp2_with fail
          go_ret
          exact ⟨ret_bool H.out, (HX.out.trans X3.out).drewN _⟩
        have b1 : decide (255 < z0) = false := by simpa using d1
        by_cases d2 : z0 ≤ p0
        · have b2 : decide (z0 ≤ p0) = true := by simpa using d2
          have H := Lib.hid (NO.out (by have := LE.out; omega))
          go_quiet (fail)
          go_wp2_with fail
          go_ret
          exact ⟨ret_bool H.out, (HX.out.trans X3.out).drewN _⟩
        have b2 : decide (z0 ≤ p0) = false := by simpa using d2
        by_cases d3 : z1 < 0
        · have b3 : decide (z1 < 0) = true := by simpa using d3
          have H := Lib.hid (NO.out (by have := LE.out; omega))
          go_quiet (fail)
          go_wp2_with fail
          go_ret
          exact ⟨ret_bool H.out, (HX.out.trans X3.out).drewN _⟩
        have b3 : decide (z1 < 0) = false := by simpa using d3
        by_cases d4 : 1000 < z1
        · have b4 : decide (1000 < z1) = true := by simpa using d4
          have H := Lib.hid (NO.out (by have := LE.out; omega))
          go_quiet (fail)
          go_wp2_with fail
          go_ret
          exact ⟨ret_bool H.out, (HX.out.trans X3.out).drewN _⟩
        have b4 : decide (1000 < z1) = false := by simpa using d4
        by_cases d5 : z2 < -1000
        · have b5 : decide (z2 < -1000) = true := by simpa using d5
          have H := Lib.hid (NO.out (by have := LE.out; omega))
          go_quiet (fail)
          go_wp2_with fail
          go_ret
          exact ⟨ret_bool H.out, (HX.out.trans X3.out).drewN _⟩
        have b5 : decide (z2 < -1000) = false := by simpa using d5
        by_cases d6 : 1000 < z2
        · have b6 : decide (1000 < z2) = true := by simpa using d6
          have H := Lib.hid (NO.out (by have := LE.out; omega))
          go_quiet (fail)
          go_wp2_with fail
          go_ret
          exact ⟨ret_bool H.out, (HX.out.trans X3.out).drewN _⟩
        have b6 : decide (1000 < z2) = false := by simpa using d6
        by_cases d7 : z3 < -1000
        · have b7 : decide (z3 < -1000) = true := by simpa using d7
          have H := Lib.hid (NO.out (by have := LE.out; omega))
          go_quiet (fail)
          go_wp2_with fail
          go_ret
          exact ⟨ret_bool H.out, (HX.out.trans X3.out).drewN _⟩
        have b7 : decide (z3 < -1000) = false := by simpa using d7
        by_cases d8 : 1000 < z3
        · have b8 : decide (1000 < z3) = true := by simpa using d8
          have H := Lib.hid (NO.out (by have := LE.out; omega))
          go_quiet (fail)
          go_wp2_with fail
          go_ret
          exact ⟨ret_bool H.out, (HX.out.trans X3.out).drewN _⟩
        have b8 : decide (1000 < z3) = false := by simpa using d8
        have H := Lib.hid (YES.out (by have := LE.out; omega) (by omega) (by omega) (by omega) (by omega) (by omega) (by omega) (by omega))
        go_quiet (fail)
        go_wp2_with fail
        go_roundw
        case rel => exact ⟨m + 1 + 1, by omega, by go_num, H, X3.out.drewN _⟩
        case measure => simp [intOf]; omega
    · obtain rfl : k = T.nt := by omega
      have H := Lib.hid (HS.out hall.out)
      have HXX := Lib.hid (HX.out.trans X)
      clear X
      go_wp2_with fail
      go_ret
      exact ⟨ret_bool H.out, HXX.out⟩
end L09
end Go.Proofs.Ytpkmpbpifbpomaa

namespace Go.Proofs.Ytpkmpbpifbpomaa
open Go.RowKit Go.Lib
namespace L09
open L02 L07 L08

set_option maxRecDepth 100000 in
set_option maxHeartbeats 8000000 in
theorem rkerned_any (D : FontD) (P : FontP) (T : FaceT) (Q : FaceQ) (fix n : Int) (w : World) (h : FaceIn T) (h1 : -16777216 ≤ fix) (h2 : fix ≤ 16777215) :
    Calls Try.prog 65 #[.agg #[.int .i64 D.sum, .int .i64 D.design, .int .i64 D.first, .slice P.xc D.nc P.zc, .slice P.xw D.nw P.zw, .slice P.xh D.nh P.zh, .slice P.xd D.nd P.zd, .slice P.xi D.ni P.zi, .slice P.xs D.ns P.zs, .slice P.xk D.nk P.zk, .slice P.xp D.np P.zp, .int .i64 T.size, .int .i64 T.step, .int .i64 T.up, .int .i64 T.down, .slice Q.xt T.nt Q.zt], .int .i64 fix, .int .i64 n] w (Ret w (.int .i64 (kernN T fix (clampN T n)))) := by
  obtain ⟨V, hV⟩ : ∃ V, V = w.alloc (.cells #[.int .i64 D.sum, .int .i64 D.design, .int .i64 D.first, .slice P.xc D.nc P.zc, .slice P.xw D.nw P.zw, .slice P.xh D.nh P.zh, .slice P.xd D.nd P.zd, .slice P.xi D.ni P.zi, .slice P.xs D.ns P.zs, .slice P.xk D.nk P.zk, .slice P.xp D.np P.zp, .int .i64 T.size, .int .i64 T.step, .int .i64 T.up, .int .i64 T.down, .slice Q.xt T.nt Q.zt] 45) := ⟨_, rfl⟩
  have W0 : Ext w V := by rw [hV]; exact (Ext.refl _).alloc _
  have kF : Blk V w.heap.size 45 [.int .i64 D.sum, .int .i64 D.design, .int .i64 D.first, .slice P.xc D.nc P.zc, .slice P.xw D.nw P.zw, .slice P.xh D.nh P.zh, .slice P.xd D.nd P.zd, .slice P.xi D.ni P.zi, .slice P.xs D.ns P.zs, .slice P.xk D.nk P.zk, .slice P.xp D.np P.zp, .int .i64 T.size, .int .i64 T.step, .int .i64 T.up, .int .i64 T.down, .slice Q.xt T.nt Q.zt] := by rw [hV]; exact Blk.lit _ _ _ _ rfl
  obtain ⟨p1, p2, p3, p4⟩ := pts_in h h1 h2
  have CL := clamp_in h n
  obtain ⟨t1, t2⟩ := h.step
  obtain ⟨l1, l2⟩ := mul_in (A := 8) (B := 50) CL.1 CL.2 (show -50 ≤ T.step by omega) t2
  have hp := mul_in (A := 67108864) (B := 400) p3 p4 (show -400 ≤ clampN T n * T.step by omega) (by omega)
  have m1 : mayB (pts T fix) (clampN T n * T.step) 1000 = true := mayB_iff.2 ⟨by omega, by omega, by omega, by omega⟩
  have m2 : fitB (pts T fix * (clampN T n * T.step) / 1000) = true := fitB_iff.2 (by omega)
  have C1 := Lib.hid (fun w' => show Calls Try.prog 94 #[.int .i64 fix, .int .i64 T.size, .int .i64 1048576] w' (Ret w' (.int .i64 (pts T fix))) from rfloor_ok p1 rfl p2 w')
  have C2 := Lib.hid (fun w' => rfloor_ok m1 rfl m2 w')
  have C3 := Lib.hid (fun w' => show Calls Try.prog 70 #[.agg #[.int .i64 D.sum, .int .i64 D.design, .int .i64 D.first, .slice P.xc D.nc P.zc, .slice P.xw D.nw P.zw, .slice P.xh D.nh P.zh, .slice P.xd D.nd P.zd, .slice P.xi D.ni P.zi, .slice P.xs D.ns P.zs, .slice P.xk D.nk P.zk, .slice P.xp D.np P.zp, .int .i64 T.size, .int .i64 T.step, .int .i64 T.up, .int .i64 T.down, .slice Q.xt T.nt Q.zt], .int .i64 n] w' (Ret w' (.int .i64 (clampN T n))) from rclampN_any D P T Q n w' h)
  have HE := Lib.hid (show kernN T fix (clampN T n) = pts T fix + pts T fix * (clampN T n * T.step) / 1000 from rfl)
  have ew : IntKind.i64.wrap (clampN T n * T.step) = clampN T n * T.step := IntWalk.i64_in _ (by omega)
  have es : IntKind.i64.wrap (pts T fix + pts T fix * (clampN T n * T.step) / 1000) = pts T fix + pts T fix * (clampN T n * T.step) / 1000 := IntWalk.i64_in _ (by omega)
  rw [HE.out]
  clear HE h h1 h2 p1 p2 hp m1 m2 CL t1 t2
  generalize clampN T n = lv at *
  generalize pts T fix = pv at *
  generalize pv * (lv * T.step) / 1000 = dv at *
  generalize gm : lv * T.step = mv at *
  go_enter Try.func65, Try.ntmps65
  go_upto_region 1 with (fail)
  rw [← hV]
  clear hV
  generalize w.heap.size = B at *
  have HG := Lib.hid kF
  have HW := Lib.hid W0
  have q11 : V.cell? ⟨B, 11, none⟩ = some (.int .i64 T.size) := kF.cell 11
  clear kF W0
  go_wp2_with fail
  refine (C1.out _).mono ?_; rintro e w1 ⟨rfl, x1⟩
  have HG1 := Lib.hid (HG.out.ext x1)
  have HX := Lib.hid (HW.out.trans x1)
  have g12 := cell_regrown (show w1.cell? ⟨B, 12, none⟩ = some (.int .i64 T.step) from HG1.out.cell 12)
  have D2 := fun d os => C2.out (Sort.grow (redrawn w1 d) os)
  have D3 := fun d os => C3.out (Sort.grow (redrawn w1 d) os)
  have RG := Lib.hid (range_regrown HG1.out)
  have SOME := Lib.hid (some_regrown w1)
  clear q11 x1
  go_wp2_with fail
  refine wp_region_quiet_below (by kernel_rfl) (by kernel_rfl) ?_
  repeat (first | (go_big_quiet_want; refine quiet_load 45 B rfl _ RG.out SOME.out Try.underlying45 rfl (by kernel_rfl) ?_; go_big_quiet_op; go_big_quiet_on) | go_big_quiet_step (first | (with_reducible exact rg (D2 _ _)) | (with_reducible exact rg (D3 _ _))))
  refine wpQuiet_nil ?_
  intro _ hw'
  obtain ⟨⟨dq, osq⟩, hw''⟩ := hw'
  subst hw''
  have z5 : Ext w1 (Sort.grow (redrawn w1 dq) osq) := below_regrown _ _ _
  clear D2 D3 g12
  go_wp2_with fail
  go_ret
  exact ⟨rfl, HX.out.trans z5⟩

set_option maxRecDepth 100000 in
set_option maxHeartbeats 8000000 in
theorem rwide_any (D : FontD) (P : FontP) (T : FaceT) (Q : FaceQ) (code n : Int) (w : World) (ok : FaceOk D P T Q) (sn : SeenFace w D P T Q) (h : FaceIn T) (I : FontIn D) (c1 : D.first ≤ code) (c2 : code < D.first + D.nc) :
    Calls Try.prog 60 #[.agg #[.int .i64 D.sum, .int .i64 D.design, .int .i64 D.first, .slice P.xc D.nc P.zc, .slice P.xw D.nw P.zw, .slice P.xh D.nh P.zh, .slice P.xd D.nd P.zd, .slice P.xi D.ni P.zi, .slice P.xs D.ns P.zs, .slice P.xk D.nk P.zk, .slice P.xp D.np P.zp, .int .i64 T.size, .int .i64 T.step, .int .i64 T.up, .int .i64 T.down, .slice Q.xt T.nt Q.zt], .int .i64 code, .int .i64 n] w (Ret w (.int .i64 (wideN D T code (clampN T n)))) := by
  have hk : (code - D.first).toNat < D.nc := by omega
  obtain ⟨f0, f1⟩ := I.first
  obtain ⟨n0, n1⟩ := I.nc
  obtain ⟨v0, v1⟩ := (I.chr _ hk).1
  have hj : (D.chr (code - D.first).toNat 0).toNat < D.nw := by omega
  obtain ⟨x0, x1⟩ := I.wd _ hj
  have hW : wfix D code = D.wd (D.chr (code - D.first).toNat 0).toNat := rfl
  rw [← hW] at x0 x1
  obtain ⟨p1, p2, p3, p4⟩ := pts_in h x0 x1
  obtain ⟨⟨s0, s1⟩, _, _⟩ := h.tr code
  have CL := clamp_in h n
  obtain ⟨t1, t2⟩ := h.step
  obtain ⟨l1, l2⟩ := mul_in (A := 8) (B := 50) CL.1 CL.2 (show -50 ≤ T.step by omega) t2
  obtain ⟨m1, m2⟩ := mul_in (A := 400) (B := 1000) l1 l2 (show -1000 ≤ trV T code 1 by omega) s1
  obtain ⟨r1, r2, r3, r4⟩ := strd_in p3 p4 (show -400000 ≤ clampN T n * T.step * trV T code 1 by omega) (show clampN T n * T.step * trV T code 1 ≤ 400000 by omega)
  obtain ⟨V, hV⟩ : ∃ V, V = w.alloc (.cells #[.int .i64 D.sum, .int .i64 D.design, .int .i64 D.first, .slice P.xc D.nc P.zc, .slice P.xw D.nw P.zw, .slice P.xh D.nh P.zh, .slice P.xd D.nd P.zd, .slice P.xi D.ni P.zi, .slice P.xs D.ns P.zs, .slice P.xk D.nk P.zk, .slice P.xp D.np P.zp, .int .i64 T.size, .int .i64 T.step, .int .i64 T.up, .int .i64 T.down, .slice Q.xt T.nt Q.zt] 45) := ⟨_, rfl⟩
  have W0 : Ext w V := by rw [hV]; exact (Ext.refl _).alloc _
  have kF : Blk V w.heap.size 45 [.int .i64 D.sum, .int .i64 D.design, .int .i64 D.first, .slice P.xc D.nc P.zc, .slice P.xw D.nw P.zw, .slice P.xh D.nh P.zh, .slice P.xd D.nd P.zd, .slice P.xi D.ni P.zi, .slice P.xs D.ns P.zs, .slice P.xk D.nk P.zk, .slice P.xp D.np P.zp, .int .i64 T.size, .int .i64 T.step, .int .i64 T.up, .int .i64 T.down, .slice Q.xt T.nt Q.zt] := by rw [hV]; exact Blk.lit _ _ _ _ rfl
  have C1 := Lib.hid (fun w' => show Calls Try.prog 94 #[.int .i64 (wfix D code), .int .i64 T.size, .int .i64 1048576] w' (Ret w' (.int .i64 (pts T (wfix D code)))) from rfloor_ok p1 rfl p2 w')
  have C2 := Lib.hid (fun w' => rfloor_ok r1 rfl r2 w')
  have C3 := Lib.hid (fun w' => show Calls Try.prog 70 #[.agg #[.int .i64 D.sum, .int .i64 D.design, .int .i64 D.first, .slice P.xc D.nc P.zc, .slice P.xw D.nw P.zw, .slice P.xh D.nh P.zh, .slice P.xd D.nd P.zd, .slice P.xi D.ni P.zi, .slice P.xs D.ns P.zs, .slice P.xk D.nk P.zk, .slice P.xp D.np P.zp, .int .i64 T.size, .int .i64 T.step, .int .i64 T.up, .int .i64 T.down, .slice Q.xt T.nt Q.zt], .int .i64 n] w' (Ret w' (.int .i64 (clampN T n))) from rclampN_any D P T Q n w' h)
  have C4 := Lib.hid (fun w' (x : Ext V w') => rtrait_any D P T Q code w' ok.rt ((sn.ot.ext W0).ext x))
  have HE := Lib.hid (show wideN D T code (clampN T n) = pts T (wfix D code) + pts T (wfix D code) * (clampN T n * T.step * trV T code 1) / 1000000 from rfl)
  have ew : IntKind.i64.wrap (clampN T n * T.step) = clampN T n * T.step := IntWalk.i64_in _ (by omega)
  have em : IntKind.i64.wrap (clampN T n * T.step * trV T code 1) = clampN T n * T.step * trV T code 1 := IntWalk.i64_in _ (by omega)
  have es : IntKind.i64.wrap (pts T (wfix D code) + pts T (wfix D code) * (clampN T n * T.step * trV T code 1) / 1000000) = pts T (wfix D code) + pts T (wfix D code) * (clampN T n * T.step * trV T code 1) / 1000000 := IntWalk.i64_in _ (by omega)
  obtain ⟨ad, hA, u0, _, _, _, _, _⟩ := row6 ((sn.ext W0).font.oc) hk
  obtain ⟨aw, hB, uw⟩ := (sn.ext W0).font.ow.get hj
  have q2 : V.cell? ⟨w.heap.size, 2, none⟩ = some (.int .i64 D.first) := kF.cell 2
  have q3 : V.cell? ⟨w.heap.size, 3, none⟩ = some (.slice P.xc D.nc P.zc) := kF.cell 3
  have q4 : V.cell? ⟨w.heap.size, 4, none⟩ = some (.slice P.xw D.nw P.zw) := kF.cell 4
  rw [hA] at q3
  rw [hB] at q4
  rw [← hW] at uw
  rw [HE.out]
  clear HE h I p1 p2 p3 p4 s0 s1 CL t1 t2 l1 l2 m1 m2 r1 r2 r3 r4 ok sn hW x0 x1 hA hB
  have RF := fun w' => field_stretch (trV T code 0) (trV T code 1) (trV T code 2) (trV T code 3) w'
  generalize clampN T n = lv at *
  generalize pts T (wfix D code) = pv at *
  generalize trV T code 1 = sv at *
  generalize wfix D code = fx at *
  generalize pv * (lv * T.step * sv) / 1000000 = dv at *
  generalize gm : lv * T.step = mv at *
  generalize gs : mv * sv = m3 at *
  generalize D.chr (code - D.first).toNat 0 = z0 at *
  go_enter Try.func60, Try.ntmps60
  go_upto_region 1 with (fail)
  rw [← hV]
  clear hV
  generalize w.heap.size = B at *
  have HG := Lib.hid kF
  have HW := Lib.hid W0
  clear kF W0
  go_quiet (fail)
  have HW1 := Lib.hid (HW.out.drewN nq)
  have X1 := Lib.hid ((Ext.refl V).drewN nq)
  have HG1 := Lib.hid (HG.out.ext X1.out)
  generalize V.drewN nq = V1 at *
  have q11 : V1.cell? ⟨B, 11, none⟩ = some (.int .i64 T.size) := HG1.out.cell 11
  go_wp2_with fail
  refine (C1.out _).mono ?_; rintro e w1 ⟨rfl, y1⟩
  have HG2 := Lib.hid (HG1.out.ext y1)
  have HX := Lib.hid (HW1.out.trans y1)
  have X2 := Lib.hid (X1.out.trans y1)
  have g12 := cell_regrown (show w1.cell? ⟨B, 12, none⟩ = some (.int .i64 T.step) from HG2.out.cell 12)
  have D2 := fun d os => C2.out (Sort.grow (redrawn w1 d) os)
  have D3 := fun d os => C3.out (Sort.grow (redrawn w1 d) os)
  have D4 := fun d os => C4.out (Sort.grow (redrawn w1 d) os) (X2.out.trans (below_regrown _ _ _))
  have RG := Lib.hid (range_regrown HG2.out)
  have SOME := Lib.hid (some_regrown w1)
  clear q2 q3 q4 q11 u0 uw y1
  go_wp2_with fail
  refine wp_region_quiet_below (by kernel_rfl) (by kernel_rfl) ?_
  repeat (first | (go_big_quiet_want; refine quiet_load 45 B rfl _ RG.out SOME.out Try.underlying45 rfl (by kernel_rfl) ?_; go_big_quiet_op; go_big_quiet_on) | go_big_quiet_step (first | (with_reducible exact rg (D2 _ _)) | (with_reducible exact rg (D3 _ _)) | (with_reducible exact rg (D4 _ _))))
  refine wpQuiet_nil ?_
  intro _ hw'
  obtain ⟨⟨dq, osq⟩, hw''⟩ := hw'
  subst hw''
  have z5 : Ext w1 (Sort.grow (redrawn w1 dq) osq) := below_regrown _ _ _
  clear D2 D3 D4 g12
  go_wp2_with fail
  go_ret
  exact ⟨rfl, HX.out.trans z5⟩
end L09
end Go.Proofs.Ytpkmpbpifbpomaa

namespace Go.Proofs.Ytpkmpbpifbpomaa
open Go.RowKit Go.Lib
namespace L09
open L02 L07 L08

set_option maxRecDepth 100000 in
set_option maxHeartbeats 8000000 in
theorem rout_any (D : FontD) (P : FontP) (T : FaceT) (Q : FaceQ) (code n : Int) (w : World) (ok : FaceOk D P T Q) (sn : SeenFace w D P T Q) (h : FaceIn T) (I : FontIn D) (c1 : D.first ≤ code) (c2 : code < D.first + D.nc) :
    Calls Try.prog 68 #[.agg #[.int .i64 D.sum, .int .i64 D.design, .int .i64 D.first, .slice P.xc D.nc P.zc, .slice P.xw D.nw P.zw, .slice P.xh D.nh P.zh, .slice P.xd D.nd P.zd, .slice P.xi D.ni P.zi, .slice P.xs D.ns P.zs, .slice P.xk D.nk P.zk, .slice P.xp D.np P.zp, .int .i64 T.size, .int .i64 T.step, .int .i64 T.up, .int .i64 T.down, .slice Q.xt T.nt Q.zt], .int .i64 code, .int .i64 n] w (Ret w (.tuple #[.int .i64 (wideN D T code (clampN T n) * trV T code 2 / 1000), .int .i64 (wideN D T code (clampN T n) * trV T code 3 / 1000)])) := by
  obtain ⟨V, hV⟩ : ∃ V, V = w.alloc (.cells #[.int .i64 D.sum, .int .i64 D.design, .int .i64 D.first, .slice P.xc D.nc P.zc, .slice P.xw D.nw P.zw, .slice P.xh D.nh P.zh, .slice P.xd D.nd P.zd, .slice P.xi D.ni P.zi, .slice P.xs D.ns P.zs, .slice P.xk D.nk P.zk, .slice P.xp D.np P.zp, .int .i64 T.size, .int .i64 T.step, .int .i64 T.up, .int .i64 T.down, .slice Q.xt T.nt Q.zt] 45) := ⟨_, rfl⟩
  have W0 : Ext w V := by rw [hV]; exact (Ext.refl _).alloc _
  have kF : Blk V w.heap.size 45 [.int .i64 D.sum, .int .i64 D.design, .int .i64 D.first, .slice P.xc D.nc P.zc, .slice P.xw D.nw P.zw, .slice P.xh D.nh P.zh, .slice P.xd D.nd P.zd, .slice P.xi D.ni P.zi, .slice P.xs D.ns P.zs, .slice P.xk D.nk P.zk, .slice P.xp D.np P.zp, .int .i64 T.size, .int .i64 T.step, .int .i64 T.up, .int .i64 T.down, .slice Q.xt T.nt Q.zt] := by rw [hV]; exact Blk.lit _ _ _ _ rfl
  have CL := clamp_in h n
  obtain ⟨⟨_, m1, m2⟩, ⟨m3, m4⟩⟩ := edge_in h I CL.1 CL.2 c1 c2
  have C0 := Lib.hid (fun w' (x : Ext V w') => rwide_any D P T Q code n w' ok ((sn.ext W0).ext x) h I c1 c2)
  have C1 := Lib.hid (fun w' (x : Ext V w') => rtrait_any D P T Q code w' ok.rt ((sn.ot.ext W0).ext x))
  have C2 := Lib.hid (fun w' => rfloor_ok m1 rfl m2 w')
  have C3 := Lib.hid (fun w' => rfloor_ok m3 rfl m4 w')
  clear ok sn h I CL m1 m2 m3 m4 c1 c2
  generalize wideN D T code (clampN T n) = wv at *
  generalize trV T code 0 = t0 at *
  generalize trV T code 1 = t1 at *
  generalize wv * trV T code 2 / 1000 = r2 at *
  generalize wv * trV T code 3 / 1000 = r3 at *
  generalize trV T code 2 = t2 at *
  generalize trV T code 3 = t3 at *
  go_enter Try.func68, Try.ntmps68
  go_upto_region 1 with (fail)
  rw [← hV]
  clear hV
  generalize w.heap.size = B at *
  have HG := Lib.hid kF
  have HW := Lib.hid W0
  clear kF W0
  go_wp2_with (first | (refine wpList_load (by kernel_rfl) 45 _ rfl B rfl [.int .i64 D.sum, .int .i64 D.design, .int .i64 D.first, .slice P.xc D.nc P.zc, .slice P.xw D.nw P.zw, .slice P.xh D.nh P.zh, .slice P.xd D.nd P.zd, .slice P.xi D.ni P.zi, .slice P.xs D.ns P.zs, .slice P.xk D.nk P.zk, .slice P.xp D.np P.zp, .int .i64 T.size, .int .i64 T.step, .int .i64 T.up, .int .i64 T.down, .slice Q.xt T.nt Q.zt] _ HG.out.range Try.underlying45 rfl (by kernel_rfl) ?_) | fail)
  refine (C0.out _ (Ext.refl _)).mono ?_; rintro e w1 ⟨rfl, x1⟩
  have X1 := Lib.hid x1
  clear x1
  go_wp2_with (first | (refine wpList_load (by kernel_rfl) 45 _ rfl B rfl [.int .i64 D.sum, .int .i64 D.design, .int .i64 D.first, .slice P.xc D.nc P.zc, .slice P.xw D.nw P.zw, .slice P.xh D.nh P.zh, .slice P.xd D.nd P.zd, .slice P.xi D.ni P.zi, .slice P.xs D.ns P.zs, .slice P.xk D.nk P.zk, .slice P.xp D.np P.zp, .int .i64 T.size, .int .i64 T.step, .int .i64 T.up, .int .i64 T.down, .slice Q.xt T.nt Q.zt] _ (HG.out.ext X1.out).range Try.underlying45 rfl (by kernel_rfl) ?_) | fail)
  refine (C1.out _ X1.out).mono ?_; rintro e w2 ⟨rfl, x2⟩
  go_upto_region 3 with (fail)
  have X3 := Lib.hid ((X1.out.trans x2).alloc (.cells #[.int .i64 t0, .int .i64 t1, .int .i64 t2, .int .i64 t3] 56))
  have HR := Lib.hid (Blk.lit w2 w2.heap.size 56 #[.int .i64 t0, .int .i64 t1, .int .i64 t2, .int .i64 t3] rfl)
  generalize w2.alloc (.cells #[.int .i64 t0, .int .i64 t1, .int .i64 t2, .int .i64 t3] 56) = WF at *
  generalize w2.heap.size = R at *
  have gc2 := cell_regrown (show WF.cell? ⟨R, 2, none⟩ = some (.int .i64 t2) from HR.out.cell 2)
  have gc3 := cell_regrown (show WF.cell? ⟨R, 3, none⟩ = some (.int .i64 t3) from HR.out.cell 3)
  have D2 := fun d os => C2.out (Sort.grow (redrawn WF d) os)
  have D3 := fun d os => C3.out (Sort.grow (redrawn WF d) os)
  refine wp_region_quiet_below (by kernel_rfl) (by kernel_rfl) ?_
  repeat (go_big_quiet_step (first | (with_reducible exact rg (D2 _ _)) | (with_reducible exact rg (D3 _ _))))
  refine wpQuiet_nil ?_
  intro _ hw'
  obtain ⟨⟨dq, osq⟩, hw''⟩ := hw'
  subst hw''
  have z5 : Ext WF (Sort.grow (redrawn WF dq) osq) := below_regrown _ _ _
  clear D2 D3 gc2 gc3
  go_wp2_with fail
  go_ret2
  exact ⟨rfl, (HW.out.trans X3.out).trans z5⟩

set_option maxRecDepth 100000 in
set_option maxHeartbeats 8000000 in
theorem rfwidth_any (D : FontD) (P : FontP) (T : FaceT) (Q : FaceQ) (code n : Int) (w : World) (ok : FaceOk D P T Q) (sn : SeenFace w D P T Q) (c1 : -9223372036854775808 ≤ code) (c2 : code ≤ 9223372036854775807) :
    Calls Try.prog 28 #[.agg #[.int .i64 D.sum, .int .i64 D.design, .int .i64 D.first, .slice P.xc D.nc P.zc, .slice P.xw D.nw P.zw, .slice P.xh D.nh P.zh, .slice P.xd D.nd P.zd, .slice P.xi D.ni P.zi, .slice P.xs D.ns P.zs, .slice P.xk D.nk P.zk, .slice P.xp D.np P.zp, .int .i64 T.size, .int .i64 T.step, .int .i64 T.up, .int .i64 T.down, .slice Q.xt T.nt Q.zt], .int .i64 code, .int .i64 n] w (Ret w (.tuple #[.int .i64 (widthV D T code n), .int .i64 (errF D T code)])) := by
  obtain ⟨V, hV⟩ : ∃ V, V = w.alloc (.cells #[.int .i64 D.sum, .int .i64 D.design, .int .i64 D.first, .slice P.xc D.nc P.zc, .slice P.xw D.nw P.zw, .slice P.xh D.nh P.zh, .slice P.xd D.nd P.zd, .slice P.xi D.ni P.zi, .slice P.xs D.ns P.zs, .slice P.xk D.nk P.zk, .slice P.xp D.np P.zp, .int .i64 T.size, .int .i64 T.step, .int .i64 T.up, .int .i64 T.down, .slice Q.xt T.nt Q.zt] 45) := ⟨_, rfl⟩
  have W0 : Ext w V := by rw [hV]; exact (Ext.refl _).alloc _
  have kF : Blk V w.heap.size 45 [.int .i64 D.sum, .int .i64 D.design, .int .i64 D.first, .slice P.xc D.nc P.zc, .slice P.xw D.nw P.zw, .slice P.xh D.nh P.zh, .slice P.xd D.nd P.zd, .slice P.xi D.ni P.zi, .slice P.xs D.ns P.zs, .slice P.xk D.nk P.zk, .slice P.xp D.np P.zp, .int .i64 T.size, .int .i64 T.step, .int .i64 T.up, .int .i64 T.down, .slice Q.xt T.nt Q.zt] := by rw [hV]; exact Blk.lit _ _ _ _ rfl
  have C0 := Lib.hid (fun w' (x : Ext V w') => rfcheck_any D P T Q w' ok ((sn.ext W0).ext x))
  have C1 := Lib.hid (fun w' (x : Ext V w') => show Calls Try.prog 37 #[.agg #[.int .i64 D.sum, .int .i64 D.design, .int .i64 D.first, .slice P.xc D.nc P.zc, .slice P.xw D.nw P.zw, .slice P.xh D.nh P.zh, .slice P.xd D.nd P.zd, .slice P.xi D.ni P.zi, .slice P.xs D.ns P.zs, .slice P.xk D.nk P.zk, .slice P.xp D.np P.zp], .int .i64 code] w' (Ret w' (.bool (hasB D code))) from rhas_any D P code w' ok.font ((sn.font.ext W0).ext x) ⟨c1, c2⟩)
  have C2 := Lib.hid (fun (hF : faceB D T = true) (hh : hasB D code = true) w' (x : Ext V w') => rwide_any D P T Q code n w' ok ((sn.ext W0).ext x) (face_in hF).1 (L09.has_in hh).1 (L09.has_in hh).2.1 (L09.has_in hh).2.2)
  obtain ⟨v, er, hv, he⟩ : ∃ v er, widthV D T code n = v ∧ errF D T code = er := ⟨_, _, rfl, rfl⟩
  rw [hv, he]
  have HV := Lib.hid hv
  have HE := Lib.hid he
  clear ok sn c1 c2 hv he
  go_enter Try.func28, Try.ntmps28
  go_upto_region 1 with (fail)
  rw [← hV]
  clear hV
  generalize w.heap.size = B at *
  have HG := Lib.hid kF
  have HW := Lib.hid W0
  clear kF W0
  go_wp2_with (first | (refine wpList_load (by kernel_rfl) 45 _ rfl B rfl [.int .i64 D.sum, .int .i64 D.design, .int .i64 D.first, .slice P.xc D.nc P.zc, .slice P.xw D.nw P.zw, .slice P.xh D.nh P.zh, .slice P.xd D.nd P.zd, .slice P.xi D.ni P.zi, .slice P.xs D.ns P.zs, .slice P.xk D.nk P.zk, .slice P.xp D.np P.zp, .int .i64 T.size, .int .i64 T.step, .int .i64 T.up, .int .i64 T.down, .slice Q.xt T.nt Q.zt] _ HG.out.range Try.underlying45 rfl (by kernel_rfl) ?_) | fail)
  refine (C0.out _ (Ext.refl _)).mono ?_; rintro e w1 ⟨rfl, x1⟩
  have X1 := Lib.hid x1
  clear x1
  cases hF : faceB D T with
  | false =>
    have E1 := Lib.hid (show 0 = v by rw [← HV.out]; exact (no_values hF code n 0 2).2.1.symm)
    have E2 := Lib.hid (show 90 = er by rw [← HE.out]; exact (no_values hF code n 0 2).1.symm)
    clear hF
    go_wp2_with fail
    go_ret2
    exact ⟨ret_two E1.out E2.out, HW.out.trans X1.out⟩
  | true =>
    have C2 := Lib.hid (C2.out hF)
    go_wp2_with (first | (refine wpList_load_mid rfl 28 _ rfl B 0 rfl [.int .i64 D.sum, .int .i64 D.design, .int .i64 D.first, .slice P.xc D.nc P.zc, .slice P.xw D.nw P.zw, .slice P.xh D.nh P.zh, .slice P.xd D.nd P.zd, .slice P.xi D.ni P.zi, .slice P.xs D.ns P.zs, .slice P.xk D.nk P.zk, .slice P.xp D.np P.zp] _ (font_range (HG.out.ext X1.out)) Try.underlying28 rfl (by kernel_rfl) ?_) | fail)
    refine (C1.out _ X1.out).mono ?_; rintro e w2 ⟨rfl, x2⟩
    have X2 := Lib.hid (X1.out.trans x2)
    clear x2
    cases hh : hasB D code with
    | false =>
      have q : errF D T code = 80 := by simp [errF, hF, hh]
      have E1 := Lib.hid (show 0 = v by rw [← HV.out, widthV, if_neg (by omega)])
      have E2 := Lib.hid (show 80 = er by rw [← HE.out, q])
      clear hF hh q
      go_wp2_with fail
      go_ret2
      exact ⟨ret_two E1.out E2.out, HW.out.trans X2.out⟩
    | true =>
      have C2 := Lib.hid (C2.out hh)
      have q : errF D T code = 0 := by simp [errF, hF, hh]
      have E1 := Lib.hid (show wideN D T code (clampN T n) = v by rw [← HV.out, widthV, if_pos q])
      have E2 := Lib.hid (show 0 = er by rw [← HE.out, q])
      clear hF hh q
      go_wp2_with (first | (refine wpList_load (by kernel_rfl) 45 _ rfl B rfl [.int .i64 D.sum, .int .i64 D.design, .int .i64 D.first, .slice P.xc D.nc P.zc, .slice P.xw D.nw P.zw, .slice P.xh D.nh P.zh, .slice P.xd D.nd P.zd, .slice P.xi D.ni P.zi, .slice P.xs D.ns P.zs, .slice P.xk D.nk P.zk, .slice P.xp D.np P.zp, .int .i64 T.size, .int .i64 T.step, .int .i64 T.up, .int .i64 T.down, .slice Q.xt T.nt Q.zt] _ (HG.out.ext X2.out).range Try.underlying45 rfl (by kernel_rfl) ?_) | fail)
      refine (C2.out _ X2.out).mono ?_; rintro e w3 ⟨rfl, x3⟩
      go_wp2_with fail
      go_ret2
      exact ⟨ret_two E1.out E2.out, (HW.out.trans X2.out).trans x3⟩
end L09
end Go.Proofs.Ytpkmpbpifbpomaa

namespace Go.Proofs.Ytpkmpbpifbpomaa
open Go.RowKit Go.Lib
namespace L09
open L02 L07 L08

set_option maxRecDepth 100000 in
set_option maxHeartbeats 8000000 in
theorem rfclamp_any (D : FontD) (P : FontP) (T : FaceT) (Q : FaceQ) (n : Int) (w : World) (ok : FaceOk D P T Q) (sn : SeenFace w D P T Q) :
    Calls Try.prog 36 #[.agg #[.int .i64 D.sum, .int .i64 D.design, .int .i64 D.first, .slice P.xc D.nc P.zc, .slice P.xw D.nw P.zw, .slice P.xh D.nh P.zh, .slice P.xd D.nd P.zd, .slice P.xi D.ni P.zi, .slice P.xs D.ns P.zs, .slice P.xk D.nk P.zk, .slice P.xp D.np P.zp, .int .i64 T.size, .int .i64 T.step, .int .i64 T.up, .int .i64 T.down, .slice Q.xt T.nt Q.zt], .int .i64 n] w (Ret w (.int .i64 (clampV D T n))) := by
  obtain ⟨V, hV⟩ : ∃ V, V = w.alloc (.cells #[.int .i64 D.sum, .int .i64 D.design, .int .i64 D.first, .slice P.xc D.nc P.zc, .slice P.xw D.nw P.zw, .slice P.xh D.nh P.zh, .slice P.xd D.nd P.zd, .slice P.xi D.ni P.zi, .slice P.xs D.ns P.zs, .slice P.xk D.nk P.zk, .slice P.xp D.np P.zp, .int .i64 T.size, .int .i64 T.step, .int .i64 T.up, .int .i64 T.down, .slice Q.xt T.nt Q.zt] 45) := ⟨_, rfl⟩
  have W0 : Ext w V := by rw [hV]; exact (Ext.refl _).alloc _
  have kF : Blk V w.heap.size 45 [.int .i64 D.sum, .int .i64 D.design, .int .i64 D.first, .slice P.xc D.nc P.zc, .slice P.xw D.nw P.zw, .slice P.xh D.nh P.zh, .slice P.xd D.nd P.zd, .slice P.xi D.ni P.zi, .slice P.xs D.ns P.zs, .slice P.xk D.nk P.zk, .slice P.xp D.np P.zp, .int .i64 T.size, .int .i64 T.step, .int .i64 T.up, .int .i64 T.down, .slice Q.xt T.nt Q.zt] := by rw [hV]; exact Blk.lit _ _ _ _ rfl
  have C0 := Lib.hid (fun w' (x : Ext V w') => rfcheck_any D P T Q w' ok ((sn.ext W0).ext x))
  have C1 := Lib.hid (fun (hF : faceB D T = true) w' => show Calls Try.prog 70 #[.agg #[.int .i64 D.sum, .int .i64 D.design, .int .i64 D.first, .slice P.xc D.nc P.zc, .slice P.xw D.nw P.zw, .slice P.xh D.nh P.zh, .slice P.xd D.nd P.zd, .slice P.xi D.ni P.zi, .slice P.xs D.ns P.zs, .slice P.xk D.nk P.zk, .slice P.xp D.np P.zp, .int .i64 T.size, .int .i64 T.step, .int .i64 T.up, .int .i64 T.down, .slice Q.xt T.nt Q.zt], .int .i64 n] w' (Ret w' (.int .i64 (clampN T n))) from rclampN_any D P T Q n w' (face_in hF).1)
  obtain ⟨v, hv⟩ : ∃ v, clampV D T n = v := ⟨_, rfl⟩
  rw [hv]
  have HV := Lib.hid hv
  clear ok sn hv
  go_enter Try.func36, Try.ntmps36
  go_upto_region 1 with (fail)
  rw [← hV]
  clear hV
  generalize w.heap.size = B at *
  have HG := Lib.hid kF
  have HW := Lib.hid W0
  clear kF W0
  go_wp2_with (first | (refine wpList_load (by kernel_rfl) 45 _ rfl B rfl [.int .i64 D.sum, .int .i64 D.design, .int .i64 D.first, .slice P.xc D.nc P.zc, .slice P.xw D.nw P.zw, .slice P.xh D.nh P.zh, .slice P.xd D.nd P.zd, .slice P.xi D.ni P.zi, .slice P.xs D.ns P.zs, .slice P.xk D.nk P.zk, .slice P.xp D.np P.zp, .int .i64 T.size, .int .i64 T.step, .int .i64 T.up, .int .i64 T.down, .slice Q.xt T.nt Q.zt] _ HG.out.range Try.underlying45 rfl (by kernel_rfl) ?_) | fail)
  refine (C0.out _ (Ext.refl _)).mono ?_; rintro e w1 ⟨rfl, x1⟩
  have X1 := Lib.hid x1
  clear x1
  cases hF : faceB D T with
  | false =>
    have E1 := Lib.hid (show 0 = v by rw [← HV.out]; simp [clampV, hF])
    clear hF
    go_wp2_with fail
    go_ret
    exact ⟨ret_int E1.out, HW.out.trans X1.out⟩
  | true =>
    have C1 := Lib.hid (C1.out hF)
    have E1 := Lib.hid (show clampN T n = v by rw [← HV.out]; simp [clampV, hF])
    clear hF
    go_wp2_with (first | (refine wpList_load (by kernel_rfl) 45 _ rfl B rfl [.int .i64 D.sum, .int .i64 D.design, .int .i64 D.first, .slice P.xc D.nc P.zc, .slice P.xw D.nw P.zw, .slice P.xh D.nh P.zh, .slice P.xd D.nd P.zd, .slice P.xi D.ni P.zi, .slice P.xs D.ns P.zs, .slice P.xk D.nk P.zk, .slice P.xp D.np P.zp, .int .i64 T.size, .int .i64 T.step, .int .i64 T.up, .int .i64 T.down, .slice Q.xt T.nt Q.zt] _ (HG.out.ext X1.out).range Try.underlying45 rfl (by kernel_rfl) ?_) | fail)
    refine (C1.out _).mono ?_; rintro e w3 ⟨rfl, x3⟩
    go_wp2_with fail
    go_ret
    exact ⟨ret_int E1.out, (HW.out.trans X1.out).trans x3⟩

set_option maxRecDepth 100000 in
set_option maxHeartbeats 8000000 in
theorem rfkern_any (D : FontD) (P : FontP) (T : FaceT) (Q : FaceQ) (fix n : Int) (w : World) (ok : FaceOk D P T Q) (sn : SeenFace w D P T Q) :
    Calls Try.prog 30 #[.agg #[.int .i64 D.sum, .int .i64 D.design, .int .i64 D.first, .slice P.xc D.nc P.zc, .slice P.xw D.nw P.zw, .slice P.xh D.nh P.zh, .slice P.xd D.nd P.zd, .slice P.xi D.ni P.zi, .slice P.xs D.ns P.zs, .slice P.xk D.nk P.zk, .slice P.xp D.np P.zp, .int .i64 T.size, .int .i64 T.step, .int .i64 T.up, .int .i64 T.down, .slice Q.xt T.nt Q.zt], .int .i64 fix, .int .i64 n] w (Ret w (.tuple #[.int .i64 (kernV D T fix n), .int .i64 (kernE D T fix)])) := by
  obtain ⟨V, hV⟩ : ∃ V, V = w.alloc (.cells #[.int .i64 D.sum, .int .i64 D.design, .int .i64 D.first, .slice P.xc D.nc P.zc, .slice P.xw D.nw P.zw, .slice P.xh D.nh P.zh, .slice P.xd D.nd P.zd, .slice P.xi D.ni P.zi, .slice P.xs D.ns P.zs, .slice P.xk D.nk P.zk, .slice P.xp D.np P.zp, .int .i64 T.size, .int .i64 T.step, .int .i64 T.up, .int .i64 T.down, .slice Q.xt T.nt Q.zt] 45) := ⟨_, rfl⟩
  have W0 : Ext w V := by rw [hV]; exact (Ext.refl _).alloc _
  have kF : Blk V w.heap.size 45 [.int .i64 D.sum, .int .i64 D.design, .int .i64 D.first, .slice P.xc D.nc P.zc, .slice P.xw D.nw P.zw, .slice P.xh D.nh P.zh, .slice P.xd D.nd P.zd, .slice P.xi D.ni P.zi, .slice P.xs D.ns P.zs, .slice P.xk D.nk P.zk, .slice P.xp D.np P.zp, .int .i64 T.size, .int .i64 T.step, .int .i64 T.up, .int .i64 T.down, .slice Q.xt T.nt Q.zt] := by rw [hV]; exact Blk.lit _ _ _ _ rfl
  have C0 := Lib.hid (fun w' (x : Ext V w') => rfcheck_any D P T Q w' ok ((sn.ext W0).ext x))
  have C1 := Lib.hid (fun (hF : faceB D T = true) (h1 : -16777216 ≤ fix) (h2 : fix ≤ 16777215) w' => rkerned_any D P T Q fix n w' (face_in hF).1 h1 h2)
  obtain ⟨v, er, hv, he⟩ : ∃ v er, kernV D T fix n = v ∧ kernE D T fix = er := ⟨_, _, rfl, rfl⟩
  rw [hv, he]
  have HV := Lib.hid hv
  have HE := Lib.hid he
  clear ok sn hv he
  go_enter Try.func30, Try.ntmps30
  go_upto_region 1 with (fail)
  rw [← hV]
  clear hV
  generalize w.heap.size = B at *
  have HG := Lib.hid kF
  have HW := Lib.hid W0
  clear kF W0
  go_wp2_with (first | (refine wpList_load (by kernel_rfl) 45 _ rfl B rfl [.int .i64 D.sum, .int .i64 D.design, .int .i64 D.first, .slice P.xc D.nc P.zc, .slice P.xw D.nw P.zw, .slice P.xh D.nh P.zh, .slice P.xd D.nd P.zd, .slice P.xi D.ni P.zi, .slice P.xs D.ns P.zs, .slice P.xk D.nk P.zk, .slice P.xp D.np P.zp, .int .i64 T.size, .int .i64 T.step, .int .i64 T.up, .int .i64 T.down, .slice Q.xt T.nt Q.zt] _ HG.out.range Try.underlying45 rfl (by kernel_rfl) ?_) | fail)
  refine (C0.out _ (Ext.refl _)).mono ?_; rintro e w1 ⟨rfl, x1⟩
  have X1 := Lib.hid x1
  clear x1
  cases hF : faceB D T with
  | false =>
    have E1 := Lib.hid (show 0 = v by rw [← HV.out]; exact (no_values hF 0 n fix 2).2.2.2.2.2.symm)
    have E2 := Lib.hid (show 90 = er by rw [← HE.out]; exact (no_values hF 0 n fix 2).2.2.2.2.1.symm)
    clear hF
    go_wp2_with fail
    go_ret2
    exact ⟨ret_two E1.out E2.out, HW.out.trans X1.out⟩
  | true =>
    by_cases h1 : -16777216 ≤ fix
    rotate_left
    · have q : kernE D T fix = 90 := by have : fixB fix = false := (by simp [fixB]; omega); simp [kernE, this]
      have E1 := Lib.hid (show 0 = v by rw [← HV.out, kernV, if_neg (by omega)])
      have E2 := Lib.hid (show 90 = er by rw [← HE.out, q])
      clear hF q
      go_wp2_with fail
      go_ret2
      exact ⟨ret_two E1.out E2.out, HW.out.trans X1.out⟩
    by_cases h2 : fix ≤ 16777215
    rotate_left
    · have q : kernE D T fix = 90 := by have : fixB fix = false := (by simp [fixB]; omega); simp [kernE, this]
      have E1 := Lib.hid (show 0 = v by rw [← HV.out, kernV, if_neg (by omega)])
      have E2 := Lib.hid (show 90 = er by rw [← HE.out, q])
      clear hF q
      go_wp2_with fail
      go_ret2
      exact ⟨ret_two E1.out E2.out, HW.out.trans X1.out⟩
    have C1 := Lib.hid (C1.out hF h1 h2)
    have q : kernE D T fix = 0 := by have : fixB fix = true := (by simp [fixB]; omega); simp [kernE, this, hF]
    have E1 := Lib.hid (show kernN T fix (clampN T n) = v by rw [← HV.out, kernV, if_pos q])
    have E2 := Lib.hid (show 0 = er by rw [← HE.out, q])
    clear hF q
    go_wp2_with (first | (refine wpList_load (by kernel_rfl) 45 _ rfl B rfl [.int .i64 D.sum, .int .i64 D.design, .int .i64 D.first, .slice P.xc D.nc P.zc, .slice P.xw D.nw P.zw, .slice P.xh D.nh P.zh, .slice P.xd D.nd P.zd, .slice P.xi D.ni P.zi, .slice P.xs D.ns P.zs, .slice P.xk D.nk P.zk, .slice P.xp D.np P.zp, .int .i64 T.size, .int .i64 T.step, .int .i64 T.up, .int .i64 T.down, .slice Q.xt T.nt Q.zt] _ (HG.out.ext X1.out).range Try.underlying45 rfl (by kernel_rfl) ?_) | fail)
    refine (C1.out _).mono ?_; rintro e w3 ⟨rfl, x3⟩
    go_wp2_with fail
    go_ret2
    exact ⟨ret_two E1.out E2.out, (HW.out.trans X1.out).trans x3⟩

theorem ret_three {a b c d e f : Int} (h : a = b) (h' : c = d) (h'' : e = f) : Ending.returned (.tuple #[.int .i64 a, .int .i64 c, .int .i64 e]) = .returned (.tuple #[.int .i64 b, .int .i64 d, .int .i64 f]) := by rw [h, h', h'']

set_option maxRecDepth 100000 in
set_option maxHeartbeats 8000000 in
theorem rfedges_any (D : FontD) (P : FontP) (T : FaceT) (Q : FaceQ) (code n : Int) (w : World) (ok : FaceOk D P T Q) (sn : SeenFace w D P T Q) (c1 : -9223372036854775808 ≤ code) (c2 : code ≤ 9223372036854775807) :
    Calls Try.prog 32 #[.agg #[.int .i64 D.sum, .int .i64 D.design, .int .i64 D.first, .slice P.xc D.nc P.zc, .slice P.xw D.nw P.zw, .slice P.xh D.nh P.zh, .slice P.xd D.nd P.zd, .slice P.xi D.ni P.zi, .slice P.xs D.ns P.zs, .slice P.xk D.nk P.zk, .slice P.xp D.np P.zp, .int .i64 T.size, .int .i64 T.step, .int .i64 T.up, .int .i64 T.down, .slice Q.xt T.nt Q.zt], .int .i64 code, .int .i64 n] w (Ret w (.tuple #[.int .i64 (edgeV D T code n 2), .int .i64 (edgeV D T code n 3), .int .i64 (errF D T code)])) := by
  obtain ⟨V, hV⟩ : ∃ V, V = w.alloc (.cells #[.int .i64 D.sum, .int .i64 D.design, .int .i64 D.first, .slice P.xc D.nc P.zc, .slice P.xw D.nw P.zw, .slice P.xh D.nh P.zh, .slice P.xd D.nd P.zd, .slice P.xi D.ni P.zi, .slice P.xs D.ns P.zs, .slice P.xk D.nk P.zk, .slice P.xp D.np P.zp, .int .i64 T.size, .int .i64 T.step, .int .i64 T.up, .int .i64 T.down, .slice Q.xt T.nt Q.zt] 45) := ⟨_, rfl⟩
  have W0 : Ext w V := by rw [hV]; exact (Ext.refl _).alloc _
  have kF : Blk V w.heap.size 45 [.int .i64 D.sum, .int .i64 D.design, .int .i64 D.first, .slice P.xc D.nc P.zc, .slice P.xw D.nw P.zw, .slice P.xh D.nh P.zh, .slice P.xd D.nd P.zd, .slice P.xi D.ni P.zi, .slice P.xs D.ns P.zs, .slice P.xk D.nk P.zk, .slice P.xp D.np P.zp, .int .i64 T.size, .int .i64 T.step, .int .i64 T.up, .int .i64 T.down, .slice Q.xt T.nt Q.zt] := by rw [hV]; exact Blk.lit _ _ _ _ rfl
  have C0 := Lib.hid (fun w' (x : Ext V w') => rfwidth_any D P T Q code n w' ok ((sn.ext W0).ext x) c1 c2)
  have C1 := Lib.hid (fun (hF : faceB D T = true) (hh : hasB D code = true) w' (x : Ext V w') => rout_any D P T Q code n w' ok ((sn.ext W0).ext x) (face_in hF).1 (L09.has_in hh).1 (L09.has_in hh).2.1 (L09.has_in hh).2.2)
  obtain ⟨l, r, hl, hr⟩ : ∃ l r, edgeV D T code n 2 = l ∧ edgeV D T code n 3 = r := ⟨_, _, rfl, rfl⟩
  rw [hl, hr]
  have HL := Lib.hid hl
  have HR := Lib.hid hr
  have EC := Lib.hid (err_cases D T code)
  clear ok sn c1 c2 hl hr
  have HER : Hid (∃ er, errF D T code = er) := Lib.hid ⟨_, rfl⟩
  obtain ⟨er, her⟩ := HER.out
  rw [her] at EC C0
  rw [her]
  have HER := Lib.hid her
  clear her
  generalize widthV D T code n = wv at *
  go_enter Try.func32, Try.ntmps32
  go_upto_region 1 with (fail)
  rw [← hV]
  clear hV
  generalize w.heap.size = B at *
  have HG := Lib.hid kF
  have HW := Lib.hid W0
  clear kF W0
  go_wp2_with (first | (refine wpList_load (by kernel_rfl) 45 _ rfl B rfl [.int .i64 D.sum, .int .i64 D.design, .int .i64 D.first, .slice P.xc D.nc P.zc, .slice P.xw D.nw P.zw, .slice P.xh D.nh P.zh, .slice P.xd D.nd P.zd, .slice P.xi D.ni P.zi, .slice P.xs D.ns P.zs, .slice P.xk D.nk P.zk, .slice P.xp D.np P.zp, .int .i64 T.size, .int .i64 T.step, .int .i64 T.up, .int .i64 T.down, .slice Q.xt T.nt Q.zt] _ HG.out.range Try.underlying45 rfl (by kernel_rfl) ?_) | fail)
  refine (C0.out _ (Ext.refl _)).mono ?_; rintro e w1 ⟨rfl, x1⟩
  have X1 := Lib.hid x1
  clear x1
  rcases EC.out with ⟨hF, hh, he⟩ | ⟨he, _⟩
  · have C1 := Lib.hid (C1.out hF hh)
    have E1 := Lib.hid (show wideN D T code (clampN T n) * trV T code 2 / 1000 = l by rw [← HL.out, edgeV, if_pos (HER.out.trans he)])
    have E2 := Lib.hid (show wideN D T code (clampN T n) * trV T code 3 / 1000 = r by rw [← HR.out, edgeV, if_pos (HER.out.trans he)])
    clear HER EC
    subst he
    clear hF hh
    rw [E1.out, E2.out] at C1
    go_wp2_with (first | (refine wpList_load (by kernel_rfl) 45 _ rfl B rfl [.int .i64 D.sum, .int .i64 D.design, .int .i64 D.first, .slice P.xc D.nc P.zc, .slice P.xw D.nw P.zw, .slice P.xh D.nh P.zh, .slice P.xd D.nd P.zd, .slice P.xi D.ni P.zi, .slice P.xs D.ns P.zs, .slice P.xk D.nk P.zk, .slice P.xp D.np P.zp, .int .i64 T.size, .int .i64 T.step, .int .i64 T.up, .int .i64 T.down, .slice Q.xt T.nt Q.zt] _ (HG.out.ext X1.out).range Try.underlying45 rfl (by kernel_rfl) ?_) | fail)
    refine (C1.out _ X1.out).mono ?_; rintro e w3 ⟨rfl, x3⟩
    go_wp2_with fail
    go_ret3
    exact ⟨rfl, (HW.out.trans X1.out).trans x3⟩
  · have E1 : Hid (l = 0) := Lib.hid (by rw [← HL.out, edgeV, if_neg (by have := HER.out; omega)])
    have E2 : Hid (r = 0) := Lib.hid (by rw [← HR.out, edgeV, if_neg (by have := HER.out; omega)])
    have he : (er != 0) = true := by rcases he with h | h <;> rw [h] <;> rfl
    go_wp2_with fail
    go_ret3
    exact ⟨ret_three E1.out.symm E2.out.symm rfl, HW.out.trans X1.out⟩
end L09
end Go.Proofs.Ytpkmpbpifbpomaa

