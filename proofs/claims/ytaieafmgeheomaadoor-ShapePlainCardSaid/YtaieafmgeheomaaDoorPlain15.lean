/- ShapePlain: without a shape, and without an indent that hangs, all lines are as wide as the layout; with an indent just two widths are there; whatever calls answer so. Written by gen15/plain.py. -/
import Derived.Test.YtaieafmgeheomaaDoorAwake15
namespace Go.Proofs.YtaieafmgeheomaaDoor
open Go.ChangeShapes Go.WideShapes Go.ChangeAt Go.RowKit Go.Deep
namespace ShapePlain
open L14 L15

/-- Without a shape; without an indent besides. -/
def noS (L : LayD) : LayD := ⟨L.v, 0, L.sh⟩
def noH (L : LayD) : LayD := ⟨fun k => if k = 5 then 0 else L.v k, 0, L.sh⟩
theorem noS_cells (L : LayD) (A : Option Addr) (c : Nat) : (layC L A c).set 4 (.slice none 0 0) = layC (noS L) none 0 := rfl
theorem noH_cells (L : LayD) : (layC (noS L) none 0).set 5 (.int .i64 0) = layC (noH L) none 0 := rfl
theorem noS_ok {L : LayD} {c : Nat} (ok : LayOk L c) : LayOk (noS L) 0 := ⟨ok.v, fun _ h => absurd h (Nat.not_lt_zero _), Nat.le_refl _, Nat.zero_le _⟩
theorem noH_ok {L : LayD} {c : Nat} (ok : LayOk L c) : LayOk (noH L) 0 := ⟨fun k => by
  show Wide (if k = 5 then 0 else L.v k)
  split
  · exact (wide_small (by decide) (by decide) : Wide 0)
  · exact ok.v k, fun _ h => absurd h (Nat.not_lt_zero _), Nat.le_refl _, Nat.zero_le _⟩
theorem noH_may {L : LayD} (h : mayL (noS L) = true) : mayL (noH L) = true := by
  have M := may_nums h
  have w0 : 1 ≤ L.v 0 := M.w0
  have w1 : L.v 0 ≤ 67108864 := M.w1
  rw [mayL_eq] at h ⊢
  simp only [Bool.and_eq_true] at h ⊢
  obtain ⟨⟨⟨⟨h1, h2⟩, h3⟩, h4⟩, h5⟩ := h
  refine ⟨⟨⟨⟨h1, ?_⟩, h3⟩, h4⟩, h5⟩
  have e : inB 0 (wrap64 (1 - L.v 0)) (wrap64 (L.v 0 - 1)) = true := by
    rw [IntWalk.wrap64_in _ (by omega), IntWalk.wrap64_in _ (by omega), inB, decide_eq_true (by omega), decide_eq_true (by omega)]
    rfl
  simp only [twoB, Bool.and_eq_true] at h2 ⊢
  exact ⟨⟨⟨⟨⟨⟨e, h2.1.1.1.1.1.2⟩, h2.1.1.1.1.2⟩, h2.1.1.1.2⟩, h2.1.1.2⟩, h2.1.2⟩, h2.2⟩
theorem noH_left (L : LayD) (k : Nat) : leftV (noH L) k = (0, L.v 0) := by
  unfold leftV
  rw [if_neg (show ¬ 0 < (noH L).n from Nat.not_lt_zero _)]
  split
  · show (if (0 : Int) ≤ 0 then ((0 : Int), L.v 0 - 0) else (0, L.v 0 + 0)) = _
    rw [if_pos (Int.le_refl _), Int.sub_zero]
  · rfl
theorem noH_from (L : LayD) : fromV (noH L) = 1 := by
  refine from_first (Nat.le_refl _) (by decide) ?_ (fun k h1 h2 => by omega)
  unfold alikeB
  rw [List.all_eq_true]
  intro i _
  rw [noH_left, noH_left]
  simp
theorem noS_left (L : LayD) (k : Nat) : leftV (noS L) k = (0, L.v 0) ∨ ((leftV (noS L) k).2 = L.v 0 - max (L.v 5) (-(L.v 5)) ∧ (leftV (noS L) k).1 = max (L.v 5) 0) := by
  unfold leftV
  rw [if_neg (show ¬ 0 < (noS L).n from Nat.not_lt_zero _)]
  split
  · split
    · rename_i h
      have h : 0 ≤ L.v 5 := h
      refine .inr ⟨?_, ?_⟩
      · show L.v 0 - L.v 5 = _
        omega
      · show L.v 5 = _
        omega
    · rename_i h
      have h : ¬ 0 ≤ L.v 5 := h
      refine .inr ⟨?_, ?_⟩
      · show L.v 0 + L.v 5 = _
        omega
      · show (0 : Int) = _
        omega
  · exact .inl rfl

set_option maxRecDepth 100000 in
set_option maxHeartbeats 8000000 in
theorem core (SH : Shp) (L : LayD) (A : Option Addr) (c : Nat) (ok : LayOk L c) (z : Int) (z0 : 0 ≤ z) (z1 : z ≤ 255) (w : World) (hT : Home w) :
    Calls Tryd.prog 5 #[.agg (layC L A c).toArray, .int .u8 z] w (Ret w (.bool true)) := by
  obtain ⟨q, hq⟩ : ∃ q : Nat, z % 200 = (q : Int) := ⟨(z % 200).toNat, by omega⟩
  have hq2 : z.tmod 200 = (q : Int) := by rw [Int.tmod_eq_emod_of_nonneg z0, hq]
  obtain ⟨nn, hnn⟩ : ∃ nn : Nat, nn = 1 + q := ⟨_, rfl⟩
  have e1 : (1 : Int) + (q : Int) = (nn : Int) := by omega
  have n1 : 1 ≤ nn := by omega
  have n2 : nn ≤ 200 := by omega
  have v1 : IntKind.i64.wrap z = z := IntWalk.i64_in _ (by omega)
  have v3 : IntKind.i64.wrap (q : Int) = (q : Int) := IntWalk.i64_in _ (by omega)
  have v4 : IntKind.i64.wrap (nn : Int) = (nn : Int) := IntWalk.i64_in _ (by omega)
  clear hnn
  obtain ⟨WA, hWA⟩ : ∃ WA, WA = w.alloc (.cells (layC L A c).toArray 24) := ⟨_, rfl⟩
  have x0 : Ext w WA := by rw [hWA]; exact (Ext.refl _).alloc _
  have K0 := Lib.hid (show Blk WA w.heap.size 24 (layC L A c) by rw [hWA]; exact Blk.lit _ _ _ _ rfl)
  have X := Lib.hid x0
  have HT := Lib.hid hT
  have AW := Lib.hid (awake_any SH WA (hT.ext x0))
  have OKS := Lib.hid (noS_ok ok)
  have OKH := Lib.hid (noH_ok ok)
  have S := Lib.hid SH
  have HWA := Lib.hid hWA
  obtain ⟨D, hD⟩ : ∃ D, D = noS L := ⟨_, rfl⟩
  obtain ⟨E, hE⟩ : ∃ E, E = noH L := ⟨_, rfl⟩
  have SD := Lib.hid (show (layC L A c).set 4 (.slice none 0 0) = layC D none 0 by rw [hD]; rfl)
  have SE := Lib.hid (show (layC D none 0).set 5 (.int .i64 0) = layC E none 0 by rw [hD, hE]; rfl)
  have D5 := Lib.hid (show layC D none 0 = layC (noS L) none 0 by rw [hD])
  have DN := Lib.hid (fun (w' : World) => show SeenP w' none D.n D.sh by rw [hD]; exact SeenP.nil)
  have EN := Lib.hid (fun (w' : World) => show SeenP w' none E.n E.sh by rw [hE]; exact SeenP.nil)
  have WN := Lib.hid (show Wide (nn : Int) from ⟨by omega, by omega⟩)
  obtain ⟨p1, hp1⟩ : ∃ p, p = (atV D nn).1.1 := ⟨_, rfl⟩
  obtain ⟨p2, hp2⟩ : ∃ p, p = (atV D nn).1.2 := ⟨_, rfl⟩
  obtain ⟨x, hx⟩ : ∃ p, p = (atV D nn).2 := ⟨_, rfl⟩
  obtain ⟨r1, hr1⟩ : ∃ p, p = (atV E nn).1.1 := ⟨_, rfl⟩
  obtain ⟨r2, hr2⟩ : ∃ p, p = (atV E nn).1.2 := ⟨_, rfl⟩
  obtain ⟨v, hv⟩ : ∃ p, p = (atV E nn).2 := ⟨_, rfl⟩
  have HV := Lib.hid (show atR (atV D nn) = .tuple #[.agg #[.int .i64 p1, .int .i64 p2], .int .i64 x] by rw [hp1, hp2, hx]; rfl)
  have HU := Lib.hid (show atR (atV E nn) = .tuple #[.agg #[.int .i64 r1, .int .i64 r2], .int .i64 v] by rw [hr1, hr2, hv]; rfl)
  have CASES := Lib.hid (show x = 140 ∨ (x = 0 ∧ v = 0 ∧ r1 = 0 ∧ r2 = L.v 0 ∧ fromZ E = 1 ∧ 1 ≤ L.v 0 ∧ L.v 0 ≤ 67108864 ∧ 1 - L.v 0 ≤ L.v 5 ∧ L.v 5 ≤ L.v 0 - 1 ∧ ((p1 = 0 ∧ p2 = L.v 0) ∨ (p2 = L.v 0 - max (L.v 5) (-(L.v 5)) ∧ p1 = max (L.v 5) 0))) by
    cases hm : mayL D with
    | false => exact .inl (by rw [hx, atV, hm]; rfl)
    | true =>
      have hm' : mayL E = true := by rw [hE]; rw [hD] at hm; exact noH_may hm
      have ea : atV D nn = (leftV D nn, 0) := by rw [atV, hm, if_pos rfl, if_pos (by omega)]; rfl
      have eb : atV E nn = (leftV E nn, 0) := by rw [atV, hm', if_pos rfl, if_pos (by omega)]; rfl
      have ef : fromZ E = 1 := by rw [fromZ, hm', if_pos rfl, hE, noH_from]; rfl
      have M := may_nums hm
      rw [hD] at M
      rw [ea] at hp1 hp2 hx
      rw [eb, hE, noH_left] at hr1 hr2
      rw [eb] at hv
      refine .inr ⟨hx, hv, hr1, hr2, ef, M.w0, M.w1, M.h0, M.h1, ?_⟩
      rw [hp1, hp2, hD]
      rcases noS_left L nn with h | h
      · rw [h]; exact .inl ⟨rfl, rfl⟩
      · exact .inr h)
  rw [← hD] at OKS
  rw [← hE] at OKH
  clear hp1 hp2 hx hr1 hr2 hv n1 n2 hT x0 ok SH hWA hD hE
  go_enter Tryd.func5, Tryd.ntmps5
  go_upto_region 1 with (fail)
  rw [← HWA.out]
  clear HWA
  obtain ⟨b0, hb0⟩ : ∃ b0, b0 = w.heap.size := ⟨_, rfl⟩
  rw [← hb0] at K0 ⊢
  have hlt : Hid (w.heap.size ≤ b0) := Lib.hid (Nat.le_of_eq hb0.symm)
  clear hb0
  go_wp2_with fail
  refine AW.out.mono ?_
  rintro e w1 ⟨rfl, x1⟩
  clear AW
  have K0 := Lib.hid (K0.out.ext x1)
  have X := Lib.hid (X.out.trans x1)
  clear x1
  have a4 : w1.cell? ⟨b0, 4, none⟩ = some (.slice A L.n c) := K0.out.cell 4
  have f4 : w1.frozen? ⟨b0, 4, none⟩ = false := K0.out.free 4
  go_upto_region 3 with (fail)
  obtain ⟨w2, hw2⟩ : ∃ w2, w2 = w1.setCell ⟨b0, 4, none⟩ (.slice none 0 0) := ⟨_, rfl⟩
  have K2 := Lib.hid (show Blk w2 b0 24 (layC D none 0) by rw [hw2, ← SD.out]; exact K0.out.set 4 _)
  have X := Lib.hid (show Ext w w2 by rw [hw2]; exact X.out.setCell hlt.out _)
  rw [← hw2]
  clear hw2 a4 f4 K0
  go_upto_region 4 with (fail)
  clear hq hq2 e1 v1 v3 v4
  have CA := Lib.hid (S.out.atC D none 0 w2 OKS.out (DN.out w2) (HT.out.ext X.out) nn WN.out)
  rw [HV.out] at CA
  go_wp2_with (first | (refine wpList_getW (by kernel_rfl) _ rfl b0 rfl K2.out ?_) | fail)
  refine CA.out.mono ?_
  rintro e w3a ⟨rfl, xa⟩
  clear CA
  have y := Lib.hid (xa.trans ((Ext.refl w3a).alloc (.cells #[.int .i64 p1, .int .i64 p2] 27)))
  have B1 := Lib.hid (show Blk (w3a.alloc (.cells #[.int .i64 p1, .int .i64 p2] 27)) w3a.heap.size 27 [.int .i64 p1, .int .i64 p2] from Blk.lit _ _ _ _ rfl)
  go_upto_region 5 with (fail)
  generalize w3a.alloc (.cells #[.int .i64 p1, .int .i64 p2] 27) = w3 at *
  generalize w3a.heap.size = b1 at *
  have X := Lib.hid (X.out.trans y.out)
  have K2 := Lib.hid (K2.out.ext y.out)
  clear xa y
  have xb := Lib.hid (boxW_ext w3 D none 0)
  have K3 := Lib.hid (boxW_blk w3 D none 0)
  have ne0 := Lib.hid (Nat.ne_of_gt K2.out.lt)
  have ne1 := Lib.hid (Nat.ne_of_gt B1.out.lt)
  have hl3 := Lib.hid X.out.size
  go_upto_region 6 with (first | (refine wpList_getW (by kernel_rfl) _ rfl b0 rfl K2.out ?_) | (refine wpList_boxW rfl _ _ rfl w3 rfl D none 0 rfl rfl ?_) | fail)
  generalize boxW w3 D none 0 = w4 at *
  generalize w3.heap.size = b3 at *
  have K2 := Lib.hid (K2.out.ext xb.out)
  have B1 := Lib.hid (B1.out.ext xb.out)
  have X := Lib.hid (X.out.trans xb.out)
  clear xb
  have a5 : w4.cell? ⟨b3, 5, none⟩ = some (.int .i64 (D.v 5)) := K3.out.cell 5
  have f5 : w4.frozen? ⟨b3, 5, none⟩ = false := K3.out.free 5
  go_upto_region 7 with (fail)
  obtain ⟨w5, hw5⟩ : ∃ w5, w5 = w4.setCell ⟨b3, 5, none⟩ (.int .i64 0) := ⟨_, rfl⟩
  have K3 := Lib.hid (show Blk w5 b3 24 (layC E none 0) by rw [hw5, ← SE.out]; exact K3.out.set 5 _)
  have K2 := Lib.hid (show Blk w5 b0 24 (layC D none 0) by rw [hw5]; exact K2.out.far ne0.out _)
  have B1 := Lib.hid (show Blk w5 b1 27 [.int .i64 p1, .int .i64 p2] by rw [hw5]; exact B1.out.far ne1.out _)
  have X := Lib.hid (show Ext w w5 by rw [hw5]; exact X.out.setCell hl3.out _)
  rw [← hw5]
  clear hw5 a5 f5 ne0 ne1 hl3
  have CA := Lib.hid (S.out.atC E none 0 w5 OKH.out (EN.out w5) (HT.out.ext X.out) nn WN.out)
  rw [HU.out] at CA
  go_wp2_with (first | (refine wpList_getW (by kernel_rfl) _ rfl b3 rfl K3.out ?_) | fail)
  refine CA.out.mono ?_
  rintro e w6a ⟨rfl, xa⟩
  clear CA
  have y := Lib.hid (xa.trans ((Ext.refl w6a).alloc (.cells #[.int .i64 r1, .int .i64 r2] 27)))
  have B2 := Lib.hid (show Blk (w6a.alloc (.cells #[.int .i64 r1, .int .i64 r2] 27)) w6a.heap.size 27 [.int .i64 r1, .int .i64 r2] from Blk.lit _ _ _ _ rfl)
  go_upto_region 8 with (fail)
  generalize w6a.alloc (.cells #[.int .i64 r1, .int .i64 r2] 27) = w6 at *
  generalize w6a.heap.size = b2 at *
  have X := Lib.hid (X.out.trans y.out)
  have K2 := Lib.hid (K2.out.ext y.out)
  have K3 := Lib.hid (K3.out.ext y.out)
  have B1 := Lib.hid (B1.out.ext y.out)
  clear xa y
  rcases CASES.out with rfl | ⟨rfl, rfl, rfl, rfl, hf, m1, m2, m3, m4, h5⟩
  · clear CASES
    go_wp2_with fail
    go_ret
    exact ⟨rfl, X.out⟩
  · have CB := Lib.hid (S.out.frC E none 0 w6 OKH.out (EN.out w6) (HT.out.ext X.out))
    rw [hf] at CB
    clear hf CASES
    have C0 : w6.cell? ⟨b0, 0, none⟩ = some (.int .i64 (L.v 0)) := by rw [D5.out] at K2; exact K2.out.cell 0
    have C5 : w6.cell? ⟨b0, 5, none⟩ = some (.int .i64 (L.v 5)) := by rw [D5.out] at K2; exact K2.out.cell 5
    have g0 : w6.cell? ⟨b1, 0, none⟩ = some (.int .i64 p1) := B1.out.cell 0
    have g1 : w6.cell? ⟨b1, 1, none⟩ = some (.int .i64 p2) := B1.out.cell 1
    have g2 : w6.cell? ⟨b2, 0, none⟩ = some (.int .i64 0) := B2.out.cell 0
    have g3 : w6.cell? ⟨b2, 1, none⟩ = some (.int .i64 (L.v 0)) := B2.out.cell 1
    have v1 : IntKind.i64.wrap (-(L.v 5)) = -(L.v 5) := IntWalk.i64_in _ (by omega)
    obtain ⟨sz, hsz⟩ : ∃ sz, sz = max (L.v 5) (-(L.v 5)) := ⟨_, rfl⟩
    have e1 : max (L.v 5) (-(L.v 5)) = sz := hsz.symm
    obtain ⟨ht, hht⟩ : ∃ ht, ht = max (L.v 5) 0 := ⟨_, rfl⟩
    have e2 : max (L.v 5) 0 = ht := hht.symm
    have v2 : IntKind.i64.wrap (L.v 0 - sz) = L.v 0 - sz := IntWalk.i64_in _ (by omega)
    rw [← hsz, ← hht] at h5
    generalize hW : L.v 0 = W at *
    generalize L.v 5 = H at *
    clear hW hsz hht
    have H5 := Lib.hid h5
    clear h5
    go_upto_region 11 with (fail)
    clear e1 v1
    go_wp2_with (first | (refine wpList_getW (by kernel_rfl) _ rfl b3 rfl K3.out ?_) | fail)
    refine CB.out.mono ?_
    rintro e w7 ⟨rfl, x7⟩
    have X := Lib.hid (X.out.trans x7)
    have C0 := x7.at C0
    have C5 := x7.at C5
    have g0 := x7.at g0
    have g1 := x7.at g1
    have g2 := x7.at g2
    have g3 := x7.at g3
    clear x7 CB
    by_cases hp : p1 = 0 ∧ p2 = W
    · obtain ⟨rfl, rfl⟩ := hp
      go_wp2_with fail
      go_ret
      exact ⟨rfl, X.out⟩
    · obtain ⟨h1, h2⟩ := H5.out.resolve_left hp
      by_cases h0 : p1 = 0
      · have hw : ¬ p2 = W := fun h => hp ⟨h0, h⟩
        have h0' : ht = 0 := by rw [← h2]; exact h0
        clear hp
        subst h0' h0 h1
        go_wp2_with fail
        go_ret
        exact ⟨rfl, X.out⟩
      · clear hp
        subst h1 h2
        go_wp2_with fail
        go_ret
        exact ⟨rfl, X.out⟩
theorem all (SH : Shp) (L : LayD) (A : Option Addr) (c : Nat) (ok : LayOk L c) (z : Int) (hz : 0 ≤ z ∧ z ≤ 255) (w : World) (_ : SeenP w A L.n L.sh) (hT : Home w) :
    Calls Tryd.prog 5 #[layV L A c, .int .u8 z] w (Ret w (.bool true)) := core SH L A c ok z hz.1 hz.2 w hT
end ShapePlain
end Go.Proofs.YtaieafmgeheomaaDoor

