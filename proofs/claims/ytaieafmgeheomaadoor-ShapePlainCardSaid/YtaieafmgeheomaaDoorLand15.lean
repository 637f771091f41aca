/- The landed hangs, left, At. Written by gen15/land.py. -/
import Derived.Test.YtaieafmgeheomaaDoorRFrom15
namespace Go.Proofs.YtaieafmgeheomaaDoor
open Go.RowKit Go.Lib
namespace L15
open L14

set_option maxRecDepth 100000 in
set_option maxHeartbeats 2000000 in
theorem lhangs_any (L : LayD) (A : Option Addr) (c : Nat) (w : World) (M : MayN L) (k : Nat) (k1 : 1 ≤ k) (k2 : k ≤ 200) :
    Calls Tryd.prog 18 #[.agg (layC L A c).toArray, .int .i64 (k : Int)] w (Ret w (.bool (hangsB L k))) := by
  obtain ⟨W1, hW1⟩ : ∃ W1, W1 = w.alloc (.cells (layC L A c).toArray 24) := ⟨_, rfl⟩
  have x0 : Ext w W1 := by rw [hW1]; exact (Ext.refl _).alloc _
  have K0 := Lib.hid (show Blk W1 w.heap.size 24 (layC L A c) by rw [hW1]; exact Blk.lit _ _ _ _ rfl)
  have X := Lib.hid x0
  have HB := Lib.hid (show hangsB L k = ((decide (0 ≤ L.v 6) && decide (L.v 6 < (k : Int))) || (decide (L.v 6 < 0) && decide ((k : Int) ≤ -(L.v 6)))) from rfl)
  obtain ⟨_, _, _, _, m5, m6, _, _⟩ := M
  have k64 : (k : Int) ≤ 200 := by omega
  have k64' : 1 ≤ (k : Int) := by omega
  have v3 : IntKind.i64.wrap (-(L.v 6)) = -(L.v 6) := IntWalk.i64_in _ (by omega)
  have HW1 := Lib.hid hW1
  clear x0 hW1
  go_enter Tryd.func18, Tryd.ntmps18
  go_upto_region 1 with (fail)
  rw [← HW1.out]
  clear HW1
  generalize w.heap.size = b0 at *
  have a6 : W1.cell? ⟨b0, 6, none⟩ = some (.int .i64 (L.v 6)) := K0.out.cell 6
  clear K0
  by_cases h6 : L.v 6 < 0
  · by_cases hk : (k : Int) ≤ -(L.v 6)
    · have HG := Lib.hid (show hangsB L k = true by rw [HB.out]; simp; omega)
      clear HB
      go_wp2_with fail
      go_ret
      exact ⟨by rw [HG.out]; rfl, X.out⟩
    · have HG := Lib.hid (show hangsB L k = false by rw [HB.out]; simp; omega)
      clear HB
      go_wp2_with fail
      go_ret
      exact ⟨by rw [HG.out]; rfl, X.out⟩
  · by_cases hk : L.v 6 < (k : Int)
    · have HG := Lib.hid (show hangsB L k = true by rw [HB.out]; simp; omega)
      clear HB
      go_wp2_with fail
      go_ret
      exact ⟨by rw [HG.out]; rfl, X.out⟩
    · have HG := Lib.hid (show hangsB L k = false by rw [HB.out]; simp; omega)
      clear HB
      go_wp2_with fail
      go_ret
      exact ⟨by rw [HG.out]; rfl, X.out⟩
set_option maxRecDepth 100000 in
set_option maxHeartbeats 2000000 in
theorem lleft_any (L : LayD) (A : Option Addr) (c : Nat) (w : World) (M : MayN L) (sn : SeenP w A L.n L.sh) (k : Nat) (k1 : 1 ≤ k) (k2 : k ≤ 200) :
    Calls Tryd.prog 13 #[.agg (layC L A c).toArray, .int .i64 (k : Int)] w (Ret w (lineV (leftV L k))) := by
  obtain ⟨W1, hW1⟩ : ∃ W1, W1 = (w.alloc (.cells (layC L A c).toArray 24)).alloc (.cells #[.int .i64 0, .int .i64 0] 27) := ⟨_, rfl⟩
  have x0 : Ext w W1 := by rw [hW1]; exact ((Ext.refl _).alloc _).alloc _
  have K0 := Lib.hid (show Blk W1 w.heap.size 24 (layC L A c) by rw [hW1]; exact Blk.ext (Blk.lit _ _ _ _ rfl) ((Ext.refl _).alloc _))
  have KR := Lib.hid (show Blk W1 (w.heap.size + 1) 27 [.int .i64 0, .int .i64 0] by rw [hW1]; exact Blk.lit _ _ _ _ (by simp))
  have SN := Lib.hid (sn.ext x0)
  have X := Lib.hid x0
  have hb : Hid (w.heap.size ≤ w.heap.size + 1) := Lib.hid (Nat.le_succ _)
  obtain ⟨bR, hbR⟩ : ∃ bR, bR = w.heap.size + 1 := ⟨_, rfl⟩
  have E := Lib.hid (show leftV L k = if 0 < L.n then L.sh (min k L.n - 1) else if hangsB L k = true then (if 0 ≤ L.v 5 then (L.v 5, L.v 0 - L.v 5) else (0, L.v 0 + L.v 5)) else (0, L.v 0) from rfl)
  have HC := Lib.hid (lhangs_any L A c W1 M k k1 k2)
  obtain ⟨m1, m2, m3, m4, m5, m6, m7, _⟩ := M
  have n64 : (L.n : Int) ≤ 40 := by omega
  have k64 : (k : Int) ≤ 200 := by omega
  have k64' : 1 ≤ (k : Int) := by omega
  have v1 : IntKind.i64.wrap (L.v 0 - L.v 5) = L.v 0 - L.v 5 := IntWalk.i64_in _ (by omega)
  have v2 : IntKind.i64.wrap (L.v 0 + L.v 5) = L.v 0 + L.v 5 := IntWalk.i64_in _ (by omega)
  have h46 : w.heap.size + 1 = bR := hbR.symm
  clear sn x0
  rw [h46] at KR hb
  have XG := Lib.hid (fun w' (y : Ext W1 w') x z => show Ext w ((w'.setCell ⟨bR, 0, none⟩ x).setCell ⟨bR, 1, none⟩ z) from ((X.out.trans y).setCell hb.out _).setCell hb.out _)
  have XF := Lib.hid (fun x y => XG.out W1 (Ext.refl _) x y)
  clear X hb
  have H46 := Lib.hid h46
  have HW1 := Lib.hid hW1
  clear h46 hbR hW1
  go_enter Tryd.func13, Tryd.ntmps13
  go_upto_region 1 with (fail)
  rw [← HW1.out]
  rw [H46.out]
  clear HW1 H46
  generalize w.heap.size = b0 at *
  have a0 : W1.cell? ⟨b0, 0, none⟩ = some (.int .i64 (L.v 0)) := K0.out.cell 0
  have a5 : W1.cell? ⟨b0, 5, none⟩ = some (.int .i64 (L.v 5)) := K0.out.cell 5
  have a6 : W1.cell? ⟨b0, 6, none⟩ = some (.int .i64 (L.v 6)) := K0.out.cell 6
  have a4 : W1.cell? ⟨b0, 4, none⟩ = some (.slice A L.n c) := K0.out.cell 4
  have r0 : W1.cell? ⟨bR, 0, none⟩ = some (.int .i64 0) := KR.out.cell 0
  have r1 : W1.cell? ⟨bR, 1, none⟩ = some (.int .i64 0) := KR.out.cell 1
  have f0 : W1.frozen? ⟨bR, 0, none⟩ = false := KR.out.free 0
  have f1 : W1.frozen? ⟨bR, 1, none⟩ = false := KR.out.free 1
  have FIN := Lib.hid (fun x y => show Blk ((W1.setCell ⟨bR, 0, none⟩ x).setCell ⟨bR, 1, none⟩ y) bR 27 [x, y] from (KR.out.set 0 x).set 1 y)
  by_cases hn : 0 < L.n
  · have hn64 : 0 < (L.n : Int) := by omega
    obtain ⟨m, hm⟩ : ∃ m, m + 1 = min k L.n := ⟨min k L.n - 1, by omega⟩
    have hml : m < L.n := by omega
    have hm64 : (m : Int) < (L.n : Int) := by omega
    have hmin : min (k : Int) (L.n : Int) = (m : Int) + 1 := by omega
    have wm : IntKind.i64.wrap (m : Int) = (m : Int) := IntWalk.i64_in _ (by omega)
    have EV := Lib.hid (show lineV (leftV L k) = .agg #[.int .i64 (L.sh m).1, .int .i64 (L.sh m).2] by rw [E.out, if_pos hn, ← hm]; rfl)
    obtain ⟨ad, hA, g0, g1⟩ := SN.out.get hml
    subst hA
    clear hm SN E HC hn K0 KR XG
    generalize (L.sh m).1 = p at *
    generalize (L.sh m).2 = q at *
    go_wp2_with fail
    refine bodyPost_ret (results_box1 rfl _ _ bR _ rfl (FIN.out _ _).range (Tryd.isAgg27 _) (Tryd.sizeOf27 _)) rfl ⟨by rw [EV.out], XF.out _ _⟩
  · have hn0 : L.n = 0 := by omega
    have E := Lib.hid (show leftV L k = if hangsB L k = true then (if 0 ≤ L.v 5 then (L.v 5, L.v 0 - L.v 5) else (0, L.v 0 + L.v 5)) else (0, L.v 0) by rw [E.out, if_neg hn])
    rw [hn0] at a4
    clear hn hn0 n64 SN a6 f0 f1 r0 r1 FIN XF
    go_wp2_with (first | (refine wpList_getW (by kernel_rfl) _ rfl b0 rfl K0.out ?_) | fail)
    refine HC.out.mono ?_
    rintro e w9 ⟨rfl, x9⟩
    have X9 := Lib.hid x9
    have a0 : w9.cell? ⟨b0, 0, none⟩ = some (.int .i64 (L.v 0)) := x9.at a0
    have a5 : w9.cell? ⟨b0, 5, none⟩ = some (.int .i64 (L.v 5)) := x9.at a5
    have KR := Lib.hid (KR.out.ext x9)
    have r0 : w9.cell? ⟨bR, 0, none⟩ = some (.int .i64 0) := KR.out.cell 0
    have r1 : w9.cell? ⟨bR, 1, none⟩ = some (.int .i64 0) := KR.out.cell 1
    have f0 : w9.frozen? ⟨bR, 0, none⟩ = false := KR.out.free 0
    have f1 : w9.frozen? ⟨bR, 1, none⟩ = false := KR.out.free 1
    have FIN := Lib.hid (fun x y => show Blk ((w9.setCell ⟨bR, 0, none⟩ x).setCell ⟨bR, 1, none⟩ y) bR 27 [x, y] from (KR.out.set 0 x).set 1 y)
    have XF := Lib.hid (fun x y => XG.out w9 X9.out x y)
    clear KR XG x9 X9 HC K0
    cases hg : hangsB L k with
    | false =>
      have EV := Lib.hid (show lineV (leftV L k) = lineV (0, L.v 0) by rw [E.out, hg]; rfl)
      clear E hg
      go_wp2_with fail
      refine bodyPost_ret (results_box1 rfl _ _ bR _ rfl (FIN.out _ _).range (Tryd.isAgg27 _) (Tryd.sizeOf27 _)) rfl ⟨by rw [EV.out]; rfl, XF.out _ _⟩
    | true =>
      by_cases h5 : L.v 5 < 0
      · have EV := Lib.hid (show lineV (leftV L k) = lineV (0, L.v 0 + L.v 5) by rw [E.out, hg, if_pos rfl, if_neg (by omega)])
        clear E hg
        go_wp2_with fail
        refine bodyPost_ret (results_box1 rfl _ _ bR _ rfl (FIN.out _ _).range (Tryd.isAgg27 _) (Tryd.sizeOf27 _)) rfl ⟨by rw [EV.out]; rfl, XF.out _ _⟩
      · have EV := Lib.hid (show lineV (leftV L k) = lineV (L.v 5, L.v 0 - L.v 5) by rw [E.out, hg, if_pos rfl, if_pos (by omega)])
        clear E hg
        go_wp2_with fail
        refine bodyPost_ret (results_box1 rfl _ _ bR _ rfl (FIN.out _ _).range (Tryd.isAgg27 _) (Tryd.sizeOf27 _)) rfl ⟨by rw [EV.out]; rfl, XF.out _ _⟩
set_option maxRecDepth 100000 in
set_option maxHeartbeats 2000000 in
theorem at_any (L : LayD) (A : Option Addr) (c : Nat) (w : World) (ok : LayOk L c) (sn : SeenP w A L.n L.sh) (hT : Home w) (k : Int) (_ : Wide k) :
    Calls Tryd.prog 7 #[.agg (layC L A c).toArray, .int .i64 k] w (Ret w (atR (atV L k))) := by
  obtain ⟨W1, hW1⟩ : ∃ W1, W1 = (w.alloc (.cells (layC L A c).toArray 24)).alloc (.cells #[.int .i64 0, .int .i64 0] 27) := ⟨_, rfl⟩
  have x0 : Ext w W1 := by rw [hW1]; exact ((Ext.refl _).alloc _).alloc _
  have K0 := Lib.hid (show Blk W1 w.heap.size 24 (layC L A c) by rw [hW1]; exact Blk.ext (Blk.lit _ _ _ _ rfl) ((Ext.refl _).alloc _))
  have KR := Lib.hid (show Blk W1 (w.heap.size + 1) 27 [.int .i64 0, .int .i64 0] by rw [hW1]; exact Blk.lit _ _ _ _ (by simp))
  have SN := Lib.hid (sn.ext x0)
  have X := Lib.hid x0
  have RC := Lib.hid (show Calls Tryd.prog 12 #[.agg (layC L A c).toArray] W1 (Ret W1 (.bool (mayL L))) from check_any L A c W1 ok SN.out (hT.ext x0))
  have MN := Lib.hid (show mayL L = true → MayN L from may_nums)
  have E := Lib.hid (show atV L k = if mayL L = true then (if 1 ≤ k ∧ k ≤ 200 then (leftV L k.toNat, 0) else ((0, 0), 1)) else ((0, 0), 140) from rfl)
  have hb : Hid (w.heap.size ≤ w.heap.size + 1) := Lib.hid (Nat.le_succ _)
  obtain ⟨bR, hbR⟩ : ∃ bR, bR = w.heap.size + 1 := ⟨_, rfl⟩
  have h46 : w.heap.size + 1 = bR := hbR.symm
  clear sn x0 ok hT
  rw [h46] at KR hb
  have XF := Lib.hid (fun w' (xx : Ext w w') x y => show Ext w ((w'.setCell ⟨bR, 0, none⟩ x).setCell ⟨bR, 1, none⟩ y) from (xx.setCell hb.out _).setCell hb.out _)
  have H46 := Lib.hid h46
  have HW1 := Lib.hid hW1
  clear h46 hbR hW1 hb
  go_enter Tryd.func7, Tryd.ntmps7
  go_upto_region 1 with (fail)
  rw [← HW1.out]
  rw [H46.out]
  clear HW1 H46
  generalize w.heap.size = b0 at *
  go_wp2_with (first | (refine wpList_getW (by kernel_rfl) _ rfl b0 rfl K0.out ?_) | fail)
  refine RC.out.mono ?_
  rintro e w2 ⟨rfl, x2⟩
  have K0 := Lib.hid (K0.out.ext x2)
  have KR := Lib.hid (KR.out.ext x2)
  have SN := Lib.hid (SN.out.ext x2)
  have X := Lib.hid (X.out.trans x2)
  clear x2 RC
  have r0 : w2.cell? ⟨bR, 0, none⟩ = some (.int .i64 0) := KR.out.cell 0
  have r1 : w2.cell? ⟨bR, 1, none⟩ = some (.int .i64 0) := KR.out.cell 1
  have f0 : w2.frozen? ⟨bR, 0, none⟩ = false := KR.out.free 0
  have f1 : w2.frozen? ⟨bR, 1, none⟩ = false := KR.out.free 1
  have FIN := Lib.hid (fun x y => show Blk ((w2.setCell ⟨bR, 0, none⟩ x).setCell ⟨bR, 1, none⟩ y) bR 27 [x, y] from (KR.out.set 0 x).set 1 y)
  cases hm : mayL L with
  | false =>
    have EV := Lib.hid (show atR (atV L k) = atR ((0, 0), 140) by rw [E.out, hm]; rfl)
    clear E MN hm
    go_wp2_with fail
    refine bodyPost_ret (results_box_tmp rfl _ _ bR _ _ rfl rfl (FIN.out _ _).range (Tryd.isAgg27 _) (Tryd.sizeOf27 _)) rfl ⟨by rw [EV.out]; rfl, XF.out _ X.out _ _⟩
  | true =>
  by_cases hk1 : k < 1
  · have EV := Lib.hid (show atR (atV L k) = atR ((0, 0), 1) by rw [E.out, hm, if_pos rfl, if_neg (by omega)])
    clear E MN hm
    go_wp2_with fail
    refine bodyPost_ret (results_box_tmp rfl _ _ bR _ _ rfl rfl (FIN.out _ _).range (Tryd.isAgg27 _) (Tryd.sizeOf27 _)) rfl ⟨by rw [EV.out]; rfl, XF.out _ X.out _ _⟩
  by_cases hk2 : 200 < k
  · have EV := Lib.hid (show atR (atV L k) = atR ((0, 0), 1) by rw [E.out, hm, if_pos rfl, if_neg (by omega)])
    clear E MN hm
    go_wp2_with fail
    refine bodyPost_ret (results_box_tmp rfl _ _ bR _ _ rfl rfl (FIN.out _ _).range (Tryd.isAgg27 _) (Tryd.sizeOf27 _)) rfl ⟨by rw [EV.out]; rfl, XF.out _ X.out _ _⟩
  obtain ⟨q, rfl⟩ : ∃ q : Nat, k = (q : Int) := ⟨k.toNat, by omega⟩
  have EV := Lib.hid (show atR (atV L q) = .tuple #[lineV (leftV L q), .int .i64 0] by rw [E.out, hm, if_pos rfl, if_pos (by omega)]; rfl)
  have LF := Lib.hid (lleft_any L A c w2 (MN.out hm) SN.out q (by omega) (by omega))
  clear E MN hm r0 r1 f0 f1 FIN
  go_wp2_with (first | (refine wpList_getW (by kernel_rfl) _ rfl b0 rfl K0.out ?_) | fail)
  refine LF.out.mono ?_
  rintro e w3 ⟨rfl, x3⟩
  have KR := Lib.hid (KR.out.ext x3)
  have X := Lib.hid (X.out.trans x3)
  clear x3 LF
  have r0 : w3.cell? ⟨bR, 0, none⟩ = some (.int .i64 0) := KR.out.cell 0
  have r1 : w3.cell? ⟨bR, 1, none⟩ = some (.int .i64 0) := KR.out.cell 1
  have f0 : w3.frozen? ⟨bR, 0, none⟩ = false := KR.out.free 0
  have f1 : w3.frozen? ⟨bR, 1, none⟩ = false := KR.out.free 1
  have FIN := Lib.hid (fun x y => show Blk ((w3.setCell ⟨bR, 0, none⟩ x).setCell ⟨bR, 1, none⟩ y) bR 27 [x, y] from (KR.out.set 0 x).set 1 y)
  unfold lineV
  go_wp2_with fail
  refine bodyPost_ret (results_box_tmp rfl _ _ bR _ _ rfl rfl (FIN.out _ _).range (Tryd.isAgg27 _) (Tryd.sizeOf27 _)) rfl ⟨by rw [EV.out]; rfl, XF.out _ X.out _ _⟩
end L15
end Go.Proofs.YtaieafmgeheomaaDoor

