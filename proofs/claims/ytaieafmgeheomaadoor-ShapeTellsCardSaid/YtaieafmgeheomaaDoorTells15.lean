/- ShapeTells: what is left of any line, and from which one on all are alike, are what the document says, whatever calls answer so. Written by gen15/tells.py. -/
import Derived.Test.YtaieafmgeheomaaDoorAwake15
namespace Go.Proofs.YtaieafmgeheomaaDoor
open Go.ChangeShapes Go.WideShapes Go.ChangeAt Go.RowKit Go.Deep
namespace ShapeTells
open L14 L15

set_option maxRecDepth 100000 in
theorem big (SH : Shp) (L : LayD) (A : Option Addr) (c : Nat) (k : Int) (w : World) (hT : Home w) (h : 100 < L.n) :
    Calls Tryd.prog 3 #[.agg (layC L A c).toArray, .int .i64 k] w (Ret w (.bool true)) := by
  obtain ⟨WA, hWA⟩ : ∃ WA, WA = w.alloc (.cells (layC L A c).toArray 24) := ⟨_, rfl⟩
  have x0 : Ext w WA := by rw [hWA]; exact (Ext.refl _).alloc _
  have K0 := Lib.hid (show Blk WA w.heap.size 24 (layC L A c) by rw [hWA]; exact Blk.lit _ _ _ _ rfl)
  have X := Lib.hid x0
  have AW := Lib.hid (awake_any SH WA (hT.ext x0))
  have h1 : (100 : Int) < (L.n : Int) := by omega
  have HWA := Lib.hid hWA
  clear hT x0 hWA
  go_enter Tryd.func3, Tryd.ntmps3
  go_upto_region 1 with (fail)
  rw [← HWA.out]
  clear HWA
  generalize w.heap.size = b0 at *
  go_wp2_with fail
  refine AW.out.mono ?_
  rintro e w1 ⟨rfl, x1⟩
  have X := Lib.hid (X.out.trans x1)
  have a4 : w1.cell? ⟨b0, 4, none⟩ = some (.slice A L.n c) := (K0.out.ext x1).cell 4
  clear x1 AW
  go_wp2_with fail
  go_ret
  exact ⟨rfl, X.out⟩

set_option maxRecDepth 100000 in
set_option maxHeartbeats 4000000 in
theorem core (SH : Shp) (L : LayD) (A : Option Addr) (c : Nat) (ok : LayOk L c) (k : Int) (hk : Wide k) (w : World) (sn : SeenP w A L.n L.sh) (hT : Home w) (hl : L.n ≤ 100) :
    Calls Tryd.prog 3 #[.agg (layC L A c).toArray, .int .i64 k] w (Ret w (.bool true)) := by
  have hl64 : ¬ (100 : Int) < (L.n : Int) := by omega
  have HK := Lib.hid hk
  clear hk
  obtain ⟨WA, hWA⟩ : ∃ WA, WA = w.alloc (.cells (layC L A c).toArray 24) := ⟨_, rfl⟩
  have x0 : Ext w WA := by rw [hWA]; exact (Ext.refl _).alloc _
  have K0 := Lib.hid (show Blk WA w.heap.size 24 (layC L A c) by rw [hWA]; exact Blk.lit _ _ _ _ rfl)
  have X := Lib.hid x0
  have SN := Lib.hid (sn.ext x0)
  have HT := Lib.hid (hT.ext x0)
  have AW := Lib.hid (awake_any SH WA HT.out)
  have OK := Lib.hid ok
  have S := Lib.hid SH
  have HWA := Lib.hid hWA
  clear sn hT x0 ok SH hWA
  go_enter Tryd.func3, Tryd.ntmps3
  go_upto_region 1 with (fail)
  rw [← HWA.out]
  clear HWA
  generalize w.heap.size = b0 at *
  go_wp2_with fail
  refine AW.out.mono ?_
  rintro e w1 ⟨rfl, x1⟩
  clear AW
  have SN := Lib.hid (SN.out.ext x1)
  have HT := Lib.hid (HT.out.ext x1)
  have K0 := Lib.hid (K0.out.ext x1)
  have X := Lib.hid (X.out.trans x1)
  clear x1
  have a4 : w1.cell? ⟨b0, 4, none⟩ = some (.slice A L.n c) := K0.out.cell 4
  go_upto_region 4 with (fail)
  clear a4
  obtain ⟨p1, hp1⟩ : ∃ p, p = (atV L k).1.1 := ⟨_, rfl⟩
  obtain ⟨p2, hp2⟩ : ∃ p, p = (atV L k).1.2 := ⟨_, rfl⟩
  obtain ⟨z, hz⟩ : ∃ p, p = (atV L k).2 := ⟨_, rfl⟩
  have HV := Lib.hid (show atR (atV L k) = .tuple #[.agg #[.int .i64 p1, .int .i64 p2], .int .i64 z] by rw [hp1, hp2, hz]; rfl)
  clear hp1 hp2 hz
  have CA := Lib.hid (S.out.atC L A c w1 OK.out SN.out HT.out k HK.out)
  rw [HV.out] at CA
  go_wp2_with (first | (refine wpList_getW (by kernel_rfl) _ rfl b0 rfl K0.out ?_) | fail)
  refine CA.out.mono ?_
  rintro e w2a ⟨rfl, xa⟩
  clear CA
  have y := Lib.hid (xa.trans ((Ext.refl w2a).alloc (.cells #[.int .i64 p1, .int .i64 p2] 27)))
  have B1 := Lib.hid (show Blk (w2a.alloc (.cells #[.int .i64 p1, .int .i64 p2] 27)) w2a.heap.size 27 [.int .i64 p1, .int .i64 p2] from Blk.lit _ _ _ _ rfl)
  go_upto_region 5 with (fail)
  generalize w2a.alloc (.cells #[.int .i64 p1, .int .i64 p2] 27) = w2 at *
  generalize w2a.heap.size = b1 at *
  have X := Lib.hid (X.out.trans y.out)
  have SN := Lib.hid (SN.out.ext y.out)
  have HT := Lib.hid (HT.out.ext y.out)
  have K0 := Lib.hid (K0.out.ext y.out)
  clear xa y
  have CA := Lib.hid (rat_any L A c w2 OK.out SN.out k)
  rw [HV.out] at CA
  go_wp2_with (first | (refine wpList_getW (by kernel_rfl) _ rfl b0 rfl K0.out ?_) | fail)
  refine CA.out.mono ?_
  rintro e w3a ⟨rfl, xa⟩
  clear CA
  have y := Lib.hid (xa.trans ((Ext.refl w3a).alloc (.cells #[.int .i64 p1, .int .i64 p2] 27)))
  have B2 := Lib.hid (show Blk (w3a.alloc (.cells #[.int .i64 p1, .int .i64 p2] 27)) w3a.heap.size 27 [.int .i64 p1, .int .i64 p2] from Blk.lit _ _ _ _ rfl)
  go_upto_region 6 with (fail)
  generalize w3a.alloc (.cells #[.int .i64 p1, .int .i64 p2] 27) = w3 at *
  generalize w3a.heap.size = b2 at *
  have X := Lib.hid (X.out.trans y.out)
  have SN := Lib.hid (SN.out.ext y.out)
  have HT := Lib.hid (HT.out.ext y.out)
  have K0 := Lib.hid (K0.out.ext y.out)
  have B1 := Lib.hid (B1.out.ext y.out)
  clear xa y
  have CA := Lib.hid (fun dd os => S.out.frC L A c (Sort.grow (redrawn w3 dd) os) OK.out (SN.out.ext (below_regrown _ _ _)) (HT.out.ext (below_regrown _ _ _)))
  have CB := Lib.hid (fun dd os => rfrom_any L A c (Sort.grow (redrawn w3 dd) os) OK.out (SN.out.ext (below_regrown _ _ _)))
  have RG0 := Lib.hid (range_regrown K0.out)
  have SOME := Lib.hid (some_regrown w3)
  have g0 := cell_regrown (show w3.cell? ⟨b1, 0, none⟩ = some (.int .i64 p1) from B1.out.cell 0)
  have g1 := cell_regrown (show w3.cell? ⟨b1, 1, none⟩ = some (.int .i64 p2) from B1.out.cell 1)
  have g2 := cell_regrown (show w3.cell? ⟨b2, 0, none⟩ = some (.int .i64 p1) from B2.out.cell 0)
  have g3 := cell_regrown (show w3.cell? ⟨b2, 1, none⟩ = some (.int .i64 p2) from B2.out.cell 1)
  generalize fromZ L = fz at *
  clear B1 B2 HV
  refine wp_region_quiet_below (by kernel_rfl) (by kernel_rfl) ?_
  repeat (first | (go_big_quiet_want; refine quiet_load 24 b0 rfl _ RG0.out SOME.out Tryd.underlying24 rfl (by kernel_rfl) ?_; go_big_quiet_op; go_big_quiet_on) | go_big_quiet_step (first | (with_reducible exact rg14 (CA.out _ _)) | (with_reducible exact rg14 (CB.out _ _))))
  refine wpQuiet_nil ?_
  intro _ hw'
  obtain ⟨⟨dq, osq⟩, hw''⟩ := hw'
  subst hw''
  have Z6 : Ext w (Sort.grow (redrawn w3 dq) osq) := X.out.trans (below_regrown _ _ _)
  clear g0 g1 g2 g3 CA CB
  go_wp2_with fail
  go_ret
  exact ⟨rfl, Z6⟩
theorem all (SH : Shp) (L : LayD) (A : Option Addr) (c : Nat) (ok : LayOk L c) (k : Int) (hk : Wide k) (w : World) (sn : SeenP w A L.n L.sh) (hT : Home w) :
    Calls Tryd.prog 3 #[layV L A c, .int .i64 k] w (Ret w (.bool true)) := by
  by_cases h : L.n ≤ 100
  · exact core SH L A c ok k hk w sn hT h
  · exact big SH L A c k w hT (by omega)
end ShapeTells
end Go.Proofs.YtaieafmgeheomaaDoor

