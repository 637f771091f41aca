/- ShapeFits: a line has a width of at least 1, and from the line that From says on all are alike, whatever calls answer so. Written by gen15/fits.py. -/
import Derived.Test.YtaieafmgeheomaaDoorAwake15
namespace Go.Proofs.YtaieafmgeheomaaDoor
open Go.ChangeShapes Go.WideShapes Go.ChangeAt Go.RowKit Go.Deep
namespace ShapeFits
open L14 L15

theorem from_range (L : LayD) : 1 ≤ fromV L ∧ fromV L ≤ 200 := by
  unfold fromV
  cases h : (List.range' 1 199).find? (alikeB L) with
  | none => exact ⟨by decide, by decide⟩
  | some n =>
    have := List.mem_of_find?_eq_some h
    simp only [List.mem_range'_1] at this
    show 1 ≤ n ∧ n ≤ 200
    omega
theorem from_alike {L : LayD} {k : Nat} (h1 : fromV L ≤ k) (h2 : k ≤ 200) : leftV L k = leftV L 200 := by
  unfold fromV at h1
  cases h : (List.range' 1 199).find? (alikeB L) with
  | none =>
    rw [h] at h1
    have : k = 200 := by
      have h1 : 200 ≤ k := h1
      omega
    rw [this]
  | some n =>
    rw [h] at h1
    have h1 : n ≤ k := h1
    have hp := List.find?_some h
    have := List.all_eq_true.1 hp (k - n) (List.mem_range.2 (by omega))
    rw [show n + (k - n) = k by omega] at this
    exact of_decide_eq_true this
theorem left_least {L : LayD} (M : MayN L) {k : Nat} (_ : 1 ≤ k) : 1 ≤ (leftV L k).2 ∧ 0 ≤ (leftV L k).1 ∧ (0 < L.n ∨ (leftV L k).1 + (leftV L k).2 ≤ L.v 0) ∧ (leftV L k).1 ≤ 67108864 ∧ (leftV L k).2 ≤ 134217728 := by
  obtain ⟨m1, m2, m3, m4, m5, m6, m7, m8⟩ := M
  unfold leftV
  split
  · rename_i hn
    have := m8 (min k L.n - 1) (by omega)
    exact ⟨this.2.2.1, this.1, .inl hn, this.2.1, by omega⟩
  · split
    · split
      · refine ⟨?_, ?_, .inr ?_, ?_, ?_⟩ <;> dsimp only <;> omega
      · refine ⟨?_, ?_, .inr ?_, ?_, ?_⟩ <;> dsimp only <;> omega
    · refine ⟨?_, ?_, .inr ?_, ?_, ?_⟩ <;> dsimp only <;> omega
set_option maxRecDepth 100000 in
theorem big (SH : Shp) (L : LayD) (A : Option Addr) (c : Nat) (z y : Int) (w : World) (hT : Home w) (h : 100 < L.n) :
    Calls Tryd.prog 4 #[.agg (layC L A c).toArray, .int .u8 z, .int .u8 y] w (Ret w (.bool true)) := by
  obtain ⟨WA, hWA⟩ : ∃ WA, WA = w.alloc (.cells (layC L A c).toArray 24) := ⟨_, rfl⟩
  have x0 : Ext w WA := by rw [hWA]; exact (Ext.refl _).alloc _
  have K0 := Lib.hid (show Blk WA w.heap.size 24 (layC L A c) by rw [hWA]; exact Blk.lit _ _ _ _ rfl)
  have X := Lib.hid x0
  have AW := Lib.hid (awake_any SH WA (hT.ext x0))
  have h1 : (100 : Int) < (L.n : Int) := by omega
  have HWA := Lib.hid hWA
  clear hT x0 hWA
  go_enter Tryd.func4, Tryd.ntmps4
  go_upto_region 1 with (fail)
  rw [← HWA.out]
  clear HWA
  generalize w.heap.size = b0 at *
  go_wp2_with fail
  refine AW.out.mono ?_
  rintro e w1 ⟨rfl, x1⟩
  have X := Lib.hid (X.out.trans x1)
  have a4 : w1.cell? ⟨b0, 4, none⟩ = some (.slice A L.n c) := (K0.out.ext x1).cell 4
  clear x1 AW
  go_wp2_with fail
  go_ret
  exact ⟨rfl, X.out⟩

set_option maxRecDepth 100000 in
set_option maxHeartbeats 4000000 in
theorem core (SH : Shp) (L : LayD) (A : Option Addr) (c : Nat) (ok : LayOk L c) (z : Int) (z0 : 0 ≤ z) (z1 : z ≤ 255) (y : Int) (y0 : 0 ≤ y) (y1 : y ≤ 255) (w : World) (sn : SeenP w A L.n L.sh) (hT : Home w) (hl : L.n ≤ 100) :
    Calls Tryd.prog 4 #[.agg (layC L A c).toArray, .int .u8 z, .int .u8 y] w (Ret w (.bool true)) := by
  have hl64 : ¬ (100 : Int) < (L.n : Int) := by omega
  obtain ⟨q, hq⟩ : ∃ q : Nat, z % 200 = (q : Int) := ⟨(z % 200).toNat, by omega⟩
  have hq2 : z.tmod 200 = (q : Int) := by rw [Int.tmod_eq_emod_of_nonneg z0, hq]
  obtain ⟨nn, hnn⟩ : ∃ nn : Nat, nn = 1 + q := ⟨_, rfl⟩
  have e1 : (1 : Int) + (q : Int) = (nn : Int) := by omega
  have n1 : 1 ≤ nn := by omega
  have n2 : nn ≤ 200 := by omega
  obtain ⟨mm, hmm⟩ : ∃ mm : Nat, (mm : Int) = min 200 ((nn : Int) + y) := ⟨(min 200 ((nn : Int) + y)).toNat, by omega⟩
  have e2 : min (200 : Int) ((nn : Int) + y) = (mm : Int) := hmm.symm
  have m1 : nn ≤ mm := by omega
  have m2 : mm ≤ 200 := by omega
  have v1 : IntKind.i64.wrap z = z := IntWalk.i64_in _ (by omega)
  have v2 : IntKind.i64.wrap y = y := IntWalk.i64_in _ (by omega)
  have v3 : IntKind.i64.wrap (q : Int) = (q : Int) := IntWalk.i64_in _ (by omega)
  have v4 : IntKind.i64.wrap (nn : Int) = (nn : Int) := IntWalk.i64_in _ (by omega)
  have v5 : IntKind.i64.wrap ((nn : Int) + y) = (nn : Int) + y := IntWalk.i64_in _ (by omega)
  clear hnn hmm
  obtain ⟨WA, hWA⟩ : ∃ WA, WA = w.alloc (.cells (layC L A c).toArray 24) := ⟨_, rfl⟩
  have x0 : Ext w WA := by rw [hWA]; exact (Ext.refl _).alloc _
  have K0 := Lib.hid (show Blk WA w.heap.size 24 (layC L A c) by rw [hWA]; exact Blk.lit _ _ _ _ rfl)
  have X := Lib.hid x0
  have SN := Lib.hid (sn.ext x0)
  have HT := Lib.hid (hT.ext x0)
  have AW := Lib.hid (awake_any SH WA HT.out)
  have OK := Lib.hid ok
  have S := Lib.hid SH
  have HWA := Lib.hid hWA
  clear sn hT x0 ok SH hWA
  go_enter Tryd.func4, Tryd.ntmps4
  go_upto_region 1 with (fail)
  rw [← HWA.out]
  clear HWA
  generalize w.heap.size = b0 at *
  go_wp2_with fail
  refine AW.out.mono ?_
  rintro e w1 ⟨rfl, x1⟩
  clear AW
  have SN := Lib.hid (SN.out.ext x1)
  have HT := Lib.hid (HT.out.ext x1)
  have K0 := Lib.hid (K0.out.ext x1)
  have X := Lib.hid (X.out.trans x1)
  clear x1
  have a4 : w1.cell? ⟨b0, 4, none⟩ = some (.slice A L.n c) := K0.out.cell 4
  go_upto_region 6 with (fail)
  clear a4 hq hq2 e1 e2 v1 v2 v3 v4 v5
  have WN := Lib.hid (show Wide (nn : Int) from ⟨by omega, by omega⟩)
  have WM := Lib.hid (show Wide (mm : Int) from ⟨by omega, by omega⟩)
  obtain ⟨p1, hp1⟩ : ∃ p, p = (atV L nn).1.1 := ⟨_, rfl⟩
  obtain ⟨p2, hp2⟩ : ∃ p, p = (atV L nn).1.2 := ⟨_, rfl⟩
  obtain ⟨x, hx⟩ : ∃ p, p = (atV L nn).2 := ⟨_, rfl⟩
  obtain ⟨r1, hr1⟩ : ∃ p, p = (atV L mm).1.1 := ⟨_, rfl⟩
  obtain ⟨r2, hr2⟩ : ∃ p, p = (atV L mm).1.2 := ⟨_, rfl⟩
  obtain ⟨v, hv⟩ : ∃ p, p = (atV L mm).2 := ⟨_, rfl⟩
  have HV := Lib.hid (show atR (atV L nn) = .tuple #[.agg #[.int .i64 p1, .int .i64 p2], .int .i64 x] by rw [hp1, hp2, hx]; rfl)
  have HU := Lib.hid (show atR (atV L mm) = .tuple #[.agg #[.int .i64 r1, .int .i64 r2], .int .i64 v] by rw [hr1, hr2, hv]; rfl)
  have CASES := Lib.hid (show (mayL L = false ∧ x = 140 ∧ v = 140 ∧ fromZ L = 0) ∨ (mayL L = true ∧ x = 0 ∧ v = 0 ∧ 1 ≤ p2 ∧ 0 ≤ p1 ∧ (0 < L.n ∨ p1 + p2 ≤ L.v 0) ∧ p1 ≤ 67108864 ∧ p2 ≤ 134217728 ∧ 1 ≤ fromZ L ∧ fromZ L ≤ 200 ∧ ((nn : Int) < fromZ L ∨ (p1 = r1 ∧ p2 = r2))) by
    cases hm : mayL L with
    | false => exact .inl ⟨rfl, by rw [hx, atV, hm]; rfl, by rw [hv, atV, hm]; rfl, by rw [fromZ, hm]; rfl⟩
    | true =>
      have ea : atV L nn = (leftV L nn, 0) := by rw [atV, hm, if_pos rfl, if_pos (by omega)]; rfl
      have eb : atV L mm = (leftV L mm, 0) := by rw [atV, hm, if_pos rfl, if_pos (by omega)]; rfl
      have ef : fromZ L = (fromV L : Int) := by rw [fromZ, hm]; rfl
      have fr := from_range L
      have ll := left_least (may_nums hm) n1
      rw [ea] at hp1 hp2 hx
      rw [eb] at hr1 hr2 hv
      dsimp only at hp1 hp2 hx hr1 hr2 hv
      rw [← hp1, ← hp2] at ll
      refine .inr ⟨rfl, hx, hv, ll.1, ll.2.1, ll.2.2.1, ll.2.2.2.1, ll.2.2.2.2, by omega, by omega, ?_⟩
      by_cases hf : (nn : Int) < fromZ L
      · exact .inl hf
      · have h1 := from_alike (L := L) (k := nn) (by omega) n2
        have h2 := from_alike (L := L) (k := mm) (by omega) m2
        rw [hp1, hp2, hr1, hr2, h1, h2]
        exact .inr ⟨rfl, rfl⟩)
  clear hp1 hp2 hx hr1 hr2 hv n1 n2 m1 m2
  have CA := Lib.hid (S.out.atC L A c w1 OK.out SN.out HT.out nn WN.out)
  rw [HV.out] at CA
  go_wp2_with (first | (refine wpList_getW (by kernel_rfl) _ rfl b0 rfl K0.out ?_) | fail)
  refine CA.out.mono ?_
  rintro e w2a ⟨rfl, xa⟩
  clear CA
  have y := Lib.hid (xa.trans ((Ext.refl w2a).alloc (.cells #[.int .i64 p1, .int .i64 p2] 27)))
  have B1 := Lib.hid (show Blk (w2a.alloc (.cells #[.int .i64 p1, .int .i64 p2] 27)) w2a.heap.size 27 [.int .i64 p1, .int .i64 p2] from Blk.lit _ _ _ _ rfl)
  go_upto_region 7 with (fail)
  generalize w2a.alloc (.cells #[.int .i64 p1, .int .i64 p2] 27) = w2 at *
  generalize w2a.heap.size = b1 at *
  have X := Lib.hid (X.out.trans y.out)
  have SN := Lib.hid (SN.out.ext y.out)
  have HT := Lib.hid (HT.out.ext y.out)
  have K0 := Lib.hid (K0.out.ext y.out)
  clear xa y
  have CA := Lib.hid (S.out.atC L A c w2 OK.out SN.out HT.out mm WM.out)
  rw [HU.out] at CA
  go_wp2_with (first | (refine wpList_getW (by kernel_rfl) _ rfl b0 rfl K0.out ?_) | fail)
  refine CA.out.mono ?_
  rintro e w3a ⟨rfl, xa⟩
  clear CA
  have y := Lib.hid (xa.trans ((Ext.refl w3a).alloc (.cells #[.int .i64 r1, .int .i64 r2] 27)))
  have B2 := Lib.hid (show Blk (w3a.alloc (.cells #[.int .i64 r1, .int .i64 r2] 27)) w3a.heap.size 27 [.int .i64 r1, .int .i64 r2] from Blk.lit _ _ _ _ rfl)
  go_upto_region 8 with (fail)
  generalize w3a.alloc (.cells #[.int .i64 r1, .int .i64 r2] 27) = w3 at *
  generalize w3a.heap.size = b2 at *
  have X := Lib.hid (X.out.trans y.out)
  have SN := Lib.hid (SN.out.ext y.out)
  have HT := Lib.hid (HT.out.ext y.out)
  have K0 := Lib.hid (K0.out.ext y.out)
  have B1 := Lib.hid (B1.out.ext y.out)
  clear xa y
  have CB := Lib.hid (S.out.frC L A c w3 OK.out SN.out HT.out)
  rcases CASES.out with ⟨hm, rfl, rfl, hf⟩ | ⟨hm, rfl, rfl, h1, h2, h3, h4, h5, h6, h7, h8⟩
  · have RC := Lib.hid (rcheck_any L A c w3 OK.out SN.out)
    rw [hm] at RC
    have CB := Lib.hid (fun w' (x : Ext w3 w') => S.out.frC L A c w' OK.out (SN.out.ext x) (HT.out.ext x))
    rw [hf] at CB
    clear hm hf CASES B1 B2
    go_wp2_with (first | (refine wpList_getW (by kernel_rfl) _ rfl b0 rfl K0.out ?_) | fail)
    refine RC.out.mono ?_
    rintro e w4 ⟨rfl, x4⟩
    have K0 := Lib.hid (K0.out.ext x4)
    have X := Lib.hid (X.out.trans x4)
    have CB := Lib.hid (CB.out w4 x4)
    clear x4 RC
    go_wp2_with (first | (refine wpList_getW (by kernel_rfl) _ rfl b0 rfl K0.out ?_) | fail)
    refine CB.out.mono ?_
    rintro e w5 ⟨rfl, x5⟩
    have X := Lib.hid (X.out.trans x5)
    clear x5 CB
    go_wp2_with fail
    go_ret
    exact ⟨rfl, X.out⟩
  · clear CASES hm
    generalize fromZ L = fz at *
    have H8 := Lib.hid h8
    have H3 := Lib.hid h3
    clear h8 h3
    have v6 : IntKind.i64.wrap (p1 + p2) = p1 + p2 := IntWalk.i64_in _ (by omega)
    go_wp2_with (first | (refine wpList_getW (by kernel_rfl) _ rfl b0 rfl K0.out ?_) | fail)
    refine CB.out.mono ?_
    rintro e w4 ⟨rfl, x4⟩
    have X := Lib.hid (X.out.trans x4)
    have K0 := Lib.hid (K0.out.ext x4)
    have B1 := Lib.hid (B1.out.ext x4)
    have B2 := Lib.hid (B2.out.ext x4)
    clear x4 CB
    have a0 : w4.cell? ⟨b0, 0, none⟩ = some (.int .i64 (L.v 0)) := K0.out.cell 0
    have a4 : w4.cell? ⟨b0, 4, none⟩ = some (.slice A L.n c) := K0.out.cell 4
    have g0 : w4.cell? ⟨b1, 0, none⟩ = some (.int .i64 p1) := B1.out.cell 0
    have g1 : w4.cell? ⟨b1, 1, none⟩ = some (.int .i64 p2) := B1.out.cell 1
    have g2 : w4.cell? ⟨b2, 0, none⟩ = some (.int .i64 r1) := B2.out.cell 0
    have g3 : w4.cell? ⟨b2, 1, none⟩ = some (.int .i64 r2) := B2.out.cell 1
    clear B1 B2
    by_cases hn : 0 < (L.n : Int)
    · by_cases h8 : (nn : Int) < fz
      · go_wp2_with fail
        go_ret
        exact ⟨rfl, X.out⟩
      · obtain ⟨rfl, rfl⟩ := H8.out.resolve_left h8
        go_wp2_with fail
        go_ret
        exact ⟨rfl, X.out⟩
    · have h3 : p1 + p2 ≤ L.v 0 := H3.out.resolve_left (by omega)
      by_cases h8 : (nn : Int) < fz
      · go_wp2_with fail
        go_ret
        exact ⟨rfl, X.out⟩
      · obtain ⟨rfl, rfl⟩ := H8.out.resolve_left h8
        go_wp2_with fail
        go_ret
        exact ⟨rfl, X.out⟩
theorem all (SH : Shp) (L : LayD) (A : Option Addr) (c : Nat) (ok : LayOk L c) (z : Int) (hz : 0 ≤ z ∧ z ≤ 255) (y : Int) (hy : 0 ≤ y ∧ y ≤ 255) (w : World) (sn : SeenP w A L.n L.sh) (hT : Home w) :
    Calls Tryd.prog 4 #[layV L A c, .int .u8 z, .int .u8 y] w (Ret w (.bool true)) := by
  by_cases h : L.n ≤ 100
  · exact core SH L A c ok z hz.1 hz.2 y hy.1 hy.2 w sn hT h
  · exact big SH L A c z y w hT (by omega)
end ShapeFits
end Go.Proofs.YtaieafmgeheomaaDoor

