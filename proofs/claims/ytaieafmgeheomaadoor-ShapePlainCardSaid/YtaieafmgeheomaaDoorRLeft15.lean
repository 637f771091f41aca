/- The document's answer: what is left of a line. Written by gen15/left.py. -/
import Derived.Test.YtaieafmgeheomaaDoorShape15
import Derived.Test.YtaieafmgeheomaaDoorChk14
import Derived.Test.YtaieafmgeheomaaDoorResults
namespace Go.Proofs.YtaieafmgeheomaaDoor
open Go.RowKit Go.Lib
namespace L15
open L14

def lineV (p : Int × Int) : Value := .agg #[.int .i64 p.1, .int .i64 p.2]
/-- A struct's box as the result. -/
theorem results_box1 {fn : Func} {p : Nat} {t : TypeId} (h : fn.results = #[.cell p t]) (tmps : Array Value) (W : World) (b : Nat) (cs : List Value) (hp : tmps[p]? = some (.pointer (some ⟨b, 0, none⟩)))
    (hb : W.rangeAt b 0 cs) (ha : (isAgg t).run Tryd.prog W = .ok true W) (hs : (Go.sizeOf t).run Tryd.prog W = .ok cs.length W) : (results fn tmps).run Tryd.prog W = .ok (.agg cs.toArray) W := by
  have hl := load_box hb
  simp only [results, h]
  simp [go_sem, loadVar, loadCells, asAddr, hp, hl, ha, hs]
set_option maxRecDepth 100000 in
set_option maxHeartbeats 2000000 in
theorem left_any (L : LayD) (A : Option Addr) (c : Nat) (w : World) (M : MayN L) (sn : SeenP w A L.n L.sh) (k : Nat) (k1 : 1 ≤ k) (k2 : k ≤ 200) :
    Calls Tryd.prog 14 #[.agg (layC L A c).toArray, .int .i64 (k : Int)] w (Ret w (lineV (leftV L k))) := by
  obtain ⟨W1, hW1⟩ : ∃ W1, W1 = (w.alloc (.cells (layC L A c).toArray 24)).alloc (.cells #[.int .i64 0, .int .i64 0] 27) := ⟨_, rfl⟩
  have x0 : Ext w W1 := by rw [hW1]; exact ((Ext.refl _).alloc _).alloc _
  have K0 := Lib.hid (show Blk W1 w.heap.size 24 (layC L A c) by rw [hW1]; exact Blk.ext (Blk.lit _ _ _ _ rfl) ((Ext.refl _).alloc _))
  have KR := Lib.hid (show Blk W1 (w.heap.size + 1) 27 [.int .i64 0, .int .i64 0] by rw [hW1]; exact Blk.lit _ _ _ _ (by simp))
  have SN := Lib.hid (sn.ext x0)
  have X := Lib.hid x0
  have hb : Hid (w.heap.size ≤ w.heap.size + 1) := Lib.hid (Nat.le_succ _)
  obtain ⟨bR, hbR⟩ : ∃ bR, bR = w.heap.size + 1 := ⟨_, rfl⟩
  have E := Lib.hid (show leftV L k = if 0 < L.n then L.sh (min k L.n - 1) else if hangsB L k = true then (if 0 ≤ L.v 5 then (L.v 5, L.v 0 - L.v 5) else (0, L.v 0 + L.v 5)) else (0, L.v 0) from rfl)
  have HB := Lib.hid (show hangsB L k = ((decide (0 ≤ L.v 6) && decide (L.v 6 < (k : Int))) || (decide (L.v 6 < 0) && decide ((k : Int) ≤ -(L.v 6)))) from rfl)
  obtain ⟨m1, m2, m3, m4, m5, m6, m7, _⟩ := M
  have n64 : (L.n : Int) ≤ 40 := by omega
  have k64 : (k : Int) ≤ 200 := by omega
  have k64' : 1 ≤ (k : Int) := by omega
  have v1 : IntKind.i64.wrap (L.v 0 - L.v 5) = L.v 0 - L.v 5 := IntWalk.i64_in _ (by omega)
  have v2 : IntKind.i64.wrap (L.v 0 + L.v 5) = L.v 0 + L.v 5 := IntWalk.i64_in _ (by omega)
  have v3 : IntKind.i64.wrap (-(L.v 6)) = -(L.v 6) := IntWalk.i64_in _ (by omega)
  have h46 : w.heap.size + 1 = bR := hbR.symm
  clear sn x0
  rw [h46] at KR hb
  have XF := Lib.hid (fun x y => show Ext w ((W1.setCell ⟨bR, 0, none⟩ x).setCell ⟨bR, 1, none⟩ y) from (X.out.setCell hb.out _).setCell hb.out _)
  clear X hb
  have H46 := Lib.hid h46
  have HW1 := Lib.hid hW1
  clear h46 hbR hW1
  go_enter Tryd.func14, Tryd.ntmps14
  go_upto_region 1 with (fail)
  rw [← HW1.out]
  rw [H46.out]
  clear HW1 H46
  generalize w.heap.size = b0 at *
  have a0 : W1.cell? ⟨b0, 0, none⟩ = some (.int .i64 (L.v 0)) := K0.out.cell 0
  have a5 : W1.cell? ⟨b0, 5, none⟩ = some (.int .i64 (L.v 5)) := K0.out.cell 5
  have a6 : W1.cell? ⟨b0, 6, none⟩ = some (.int .i64 (L.v 6)) := K0.out.cell 6
  have a4 : W1.cell? ⟨b0, 4, none⟩ = some (.slice A L.n c) := K0.out.cell 4
  have r0 : W1.cell? ⟨bR, 0, none⟩ = some (.int .i64 0) := KR.out.cell 0
  have r1 : W1.cell? ⟨bR, 1, none⟩ = some (.int .i64 0) := KR.out.cell 1
  have f0 : W1.frozen? ⟨bR, 0, none⟩ = false := KR.out.free 0
  have f1 : W1.frozen? ⟨bR, 1, none⟩ = false := KR.out.free 1
  have FIN := Lib.hid (fun x y => show Blk ((W1.setCell ⟨bR, 0, none⟩ x).setCell ⟨bR, 1, none⟩ y) bR 27 [x, y] from (KR.out.set 0 x).set 1 y)
  clear K0 KR
  by_cases hn : 0 < L.n
  · have hn64 : 0 < (L.n : Int) := by omega
    obtain ⟨m, hm⟩ : ∃ m, m + 1 = min k L.n := ⟨min k L.n - 1, by omega⟩
    have hml : m < L.n := by omega
    have hm64 : (m : Int) < (L.n : Int) := by omega
    have hmin : min (k : Int) (L.n : Int) = (m : Int) + 1 := by omega
    have wm : IntKind.i64.wrap (m : Int) = (m : Int) := IntWalk.i64_in _ (by omega)
    have EV := Lib.hid (show lineV (leftV L k) = .agg #[.int .i64 (L.sh m).1, .int .i64 (L.sh m).2] by rw [E.out, if_pos hn, ← hm]; rfl)
    obtain ⟨ad, hA, g0, g1⟩ := SN.out.get hml
    subst hA
    clear hm SN E HB hn
    generalize (L.sh m).1 = p at *
    generalize (L.sh m).2 = q at *
    go_wp2_with fail
    refine bodyPost_ret (results_box1 rfl _ _ bR _ rfl (FIN.out _ _).range (Tryd.isAgg27 _) (Tryd.sizeOf27 _)) rfl ⟨by rw [EV.out], XF.out _ _⟩
  · have hn0 : L.n = 0 := by omega
    have E := Lib.hid (show leftV L k = if hangsB L k = true then (if 0 ≤ L.v 5 then (L.v 5, L.v 0 - L.v 5) else (0, L.v 0 + L.v 5)) else (0, L.v 0) by rw [E.out, if_neg hn])
    rw [hn0] at a4
    clear hn hn0 n64 SN
    by_cases h6 : 0 ≤ L.v 6
    · by_cases hk : L.v 6 < (k : Int)
      · skip
        have HG : hangsB L k = true := by rw [HB.out]; simp; omega
        by_cases h5 : 0 ≤ L.v 5
        · have EV := Lib.hid (show lineV (leftV L k) = lineV (L.v 5, L.v 0 - L.v 5) by rw [E.out, if_pos HG, if_pos h5])
          clear HG E HB
          go_wp2_with fail
          refine bodyPost_ret (results_box1 rfl _ _ bR _ rfl (FIN.out _ _).range (Tryd.isAgg27 _) (Tryd.sizeOf27 _)) rfl ⟨by rw [EV.out]; rfl, XF.out _ _⟩
        · have EV := Lib.hid (show lineV (leftV L k) = lineV (0, L.v 0 + L.v 5) by rw [E.out, if_pos HG, if_neg h5])
          clear HG E HB
          go_wp2_with fail
          refine bodyPost_ret (results_box1 rfl _ _ bR _ rfl (FIN.out _ _).range (Tryd.isAgg27 _) (Tryd.sizeOf27 _)) rfl ⟨by rw [EV.out]; rfl, XF.out _ _⟩
      · skip
        have HG : ¬ hangsB L k = true := by rw [HB.out]; simp; omega
        have EV := Lib.hid (show lineV (leftV L k) = lineV (0, L.v 0) by rw [E.out, if_neg HG])
        clear HG E HB
        go_wp2_with fail
        refine bodyPost_ret (results_box1 rfl _ _ bR _ rfl (FIN.out _ _).range (Tryd.isAgg27 _) (Tryd.sizeOf27 _)) rfl ⟨by rw [EV.out]; rfl, XF.out _ _⟩
    · have h6' : L.v 6 < 0 := by omega
      by_cases hk : (k : Int) ≤ -(L.v 6)
      · skip
        have HG : hangsB L k = true := by rw [HB.out]; simp; omega
        by_cases h5 : 0 ≤ L.v 5
        · have EV := Lib.hid (show lineV (leftV L k) = lineV (L.v 5, L.v 0 - L.v 5) by rw [E.out, if_pos HG, if_pos h5])
          clear HG E HB
          go_wp2_with fail
          refine bodyPost_ret (results_box1 rfl _ _ bR _ rfl (FIN.out _ _).range (Tryd.isAgg27 _) (Tryd.sizeOf27 _)) rfl ⟨by rw [EV.out]; rfl, XF.out _ _⟩
        · have EV := Lib.hid (show lineV (leftV L k) = lineV (0, L.v 0 + L.v 5) by rw [E.out, if_pos HG, if_neg h5])
          clear HG E HB
          go_wp2_with fail
          refine bodyPost_ret (results_box1 rfl _ _ bR _ rfl (FIN.out _ _).range (Tryd.isAgg27 _) (Tryd.sizeOf27 _)) rfl ⟨by rw [EV.out]; rfl, XF.out _ _⟩
      · skip
        have HG : ¬ hangsB L k = true := by rw [HB.out]; simp; omega
        have EV := Lib.hid (show lineV (leftV L k) = lineV (0, L.v 0) by rw [E.out, if_neg HG])
        clear HG E HB
        go_wp2_with fail
        refine bodyPost_ret (results_box1 rfl _ _ bR _ rfl (FIN.out _ _).range (Tryd.isAgg27 _) (Tryd.sizeOf27 _)) rfl ⟨by rw [EV.out]; rfl, XF.out _ _⟩
end L15
end Go.Proofs.YtaieafmgeheomaaDoor

