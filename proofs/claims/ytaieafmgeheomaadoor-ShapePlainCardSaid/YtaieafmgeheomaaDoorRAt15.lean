/- The document's At. Written by gen15/at.py. -/
import Derived.Test.YtaieafmgeheomaaDoorRLeft15
import Derived.Test.YtaieafmgeheomaaDoorBoxL14
namespace Go.Proofs.YtaieafmgeheomaaDoor
open Go.RowKit Go.Lib
namespace L15
open L14

/-- What At answers. -/
def atV (L : LayD) (k : Int) : (Int × Int) × Int := if mayL L = true then (if 1 ≤ k ∧ k ≤ 200 then (leftV L k.toNat, 0) else ((0, 0), 1)) else ((0, 0), 140)
def atR (r : (Int × Int) × Int) : Value := .tuple #[lineV r.1, .int .i64 r.2]
set_option maxRecDepth 100000 in
set_option maxHeartbeats 2000000 in
theorem rat_any (L : LayD) (A : Option Addr) (c : Nat) (w : World) (ok : LayOk L c) (sn : SeenP w A L.n L.sh) (k : Int) :
    Calls Tryd.prog 8 #[.agg (layC L A c).toArray, .int .i64 k] w (Ret w (atR (atV L k))) := by
  obtain ⟨W1, hW1⟩ : ∃ W1, W1 = (w.alloc (.cells (layC L A c).toArray 24)).alloc (.cells #[.int .i64 0, .int .i64 0] 27) := ⟨_, rfl⟩
  have x0 : Ext w W1 := by rw [hW1]; exact ((Ext.refl _).alloc _).alloc _
  have K0 := Lib.hid (show Blk W1 w.heap.size 24 (layC L A c) by rw [hW1]; exact Blk.ext (Blk.lit _ _ _ _ rfl) ((Ext.refl _).alloc _))
  have KR := Lib.hid (show Blk W1 (w.heap.size + 1) 27 [.int .i64 0, .int .i64 0] by rw [hW1]; exact Blk.lit _ _ _ _ (by simp))
  have SN := Lib.hid (sn.ext x0)
  have X := Lib.hid x0
  have RC := Lib.hid (rcheck_any L A c W1 ok SN.out)
  have MN := Lib.hid (show mayL L = true → MayN L from may_nums)
  have E := Lib.hid (show atV L k = if mayL L = true then (if 1 ≤ k ∧ k ≤ 200 then (leftV L k.toNat, 0) else ((0, 0), 1)) else ((0, 0), 140) from rfl)
  have hb : Hid (w.heap.size ≤ w.heap.size + 1) := Lib.hid (Nat.le_succ _)
  obtain ⟨bR, hbR⟩ : ∃ bR, bR = w.heap.size + 1 := ⟨_, rfl⟩
  have h46 : w.heap.size + 1 = bR := hbR.symm
  clear sn x0 ok
  rw [h46] at KR hb
  have XF := Lib.hid (fun w' (xx : Ext w w') x y => show Ext w ((w'.setCell ⟨bR, 0, none⟩ x).setCell ⟨bR, 1, none⟩ y) from (xx.setCell hb.out _).setCell hb.out _)
  have H46 := Lib.hid h46
  have HW1 := Lib.hid hW1
  clear h46 hbR hW1 hb
  go_enter Tryd.func8, Tryd.ntmps8
  go_upto_region 1 with (fail)
  rw [← HW1.out]
  rw [H46.out]
  clear HW1 H46
  generalize w.heap.size = b0 at *
  go_wp2_with (first | (refine wpList_getW (by kernel_rfl) _ rfl b0 rfl K0.out ?_) | fail)
  refine RC.out.mono ?_
  rintro e w2 ⟨rfl, x2⟩
  have K0 := Lib.hid (K0.out.ext x2)
  have KR := Lib.hid (KR.out.ext x2)
  have SN := Lib.hid (SN.out.ext x2)
  have X := Lib.hid (X.out.trans x2)
  clear x2 RC
  have r0 : w2.cell? ⟨bR, 0, none⟩ = some (.int .i64 0) := KR.out.cell 0
  have r1 : w2.cell? ⟨bR, 1, none⟩ = some (.int .i64 0) := KR.out.cell 1
  have f0 : w2.frozen? ⟨bR, 0, none⟩ = false := KR.out.free 0
  have f1 : w2.frozen? ⟨bR, 1, none⟩ = false := KR.out.free 1
  have FIN := Lib.hid (fun x y => show Blk ((w2.setCell ⟨bR, 0, none⟩ x).setCell ⟨bR, 1, none⟩ y) bR 27 [x, y] from (KR.out.set 0 x).set 1 y)
  cases hm : mayL L with
  | false =>
    have EV := Lib.hid (show atR (atV L k) = atR ((0, 0), 140) by rw [E.out, hm]; rfl)
    clear E MN hm
    go_wp2_with fail
    refine bodyPost_ret (results_box_tmp rfl _ _ bR _ _ rfl rfl (FIN.out _ _).range (Tryd.isAgg27 _) (Tryd.sizeOf27 _)) rfl ⟨by rw [EV.out]; rfl, XF.out _ X.out _ _⟩
  | true =>
  by_cases hk1 : k < 1
  · have EV := Lib.hid (show atR (atV L k) = atR ((0, 0), 1) by rw [E.out, hm, if_pos rfl, if_neg (by omega)])
    clear E MN hm
    go_wp2_with fail
    refine bodyPost_ret (results_box_tmp rfl _ _ bR _ _ rfl rfl (FIN.out _ _).range (Tryd.isAgg27 _) (Tryd.sizeOf27 _)) rfl ⟨by rw [EV.out]; rfl, XF.out _ X.out _ _⟩
  by_cases hk2 : 200 < k
  · have EV := Lib.hid (show atR (atV L k) = atR ((0, 0), 1) by rw [E.out, hm, if_pos rfl, if_neg (by omega)])
    clear E MN hm
    go_wp2_with fail
    refine bodyPost_ret (results_box_tmp rfl _ _ bR _ _ rfl rfl (FIN.out _ _).range (Tryd.isAgg27 _) (Tryd.sizeOf27 _)) rfl ⟨by rw [EV.out]; rfl, XF.out _ X.out _ _⟩
  obtain ⟨q, rfl⟩ : ∃ q : Nat, k = (q : Int) := ⟨k.toNat, by omega⟩
  have EV := Lib.hid (show atR (atV L q) = .tuple #[lineV (leftV L q), .int .i64 0] by rw [E.out, hm, if_pos rfl, if_pos (by omega)]; rfl)
  have LF := Lib.hid (left_any L A c w2 (MN.out hm) SN.out q (by omega) (by omega))
  clear E MN hm r0 r1 f0 f1 FIN
  go_wp2_with (first | (refine wpList_getW (by kernel_rfl) _ rfl b0 rfl K0.out ?_) | fail)
  refine LF.out.mono ?_
  rintro e w3 ⟨rfl, x3⟩
  have KR := Lib.hid (KR.out.ext x3)
  have X := Lib.hid (X.out.trans x3)
  clear x3 LF
  have r0 : w3.cell? ⟨bR, 0, none⟩ = some (.int .i64 0) := KR.out.cell 0
  have r1 : w3.cell? ⟨bR, 1, none⟩ = some (.int .i64 0) := KR.out.cell 1
  have f0 : w3.frozen? ⟨bR, 0, none⟩ = false := KR.out.free 0
  have f1 : w3.frozen? ⟨bR, 1, none⟩ = false := KR.out.free 1
  have FIN := Lib.hid (fun x y => show Blk ((w3.setCell ⟨bR, 0, none⟩ x).setCell ⟨bR, 1, none⟩ y) bR 27 [x, y] from (KR.out.set 0 x).set 1 y)
  unfold lineV
  go_wp2_with fail
  refine bodyPost_ret (results_box_tmp rfl _ _ bR _ _ rfl rfl (FIN.out _ _).range (Tryd.isAgg27 _) (Tryd.sizeOf27 _)) rfl ⟨by rw [EV.out]; rfl, XF.out _ X.out _ _⟩
end L15
end Go.Proofs.YtaieafmgeheomaaDoor

