/- The calls that the statements of layer 15 begin with; what the landed calls answer, as one condition. Written by gen15/awake.py. -/
import Derived.Test.YtaieafmgeheomaaDoorRFrom15
namespace Go.Proofs.YtaieafmgeheomaaDoor
open Go.RowKit
namespace L15
open L14

/-- What the landed At and From answer. -/
structure Shp : Prop where
  atC : ∀ (L : LayD) (A : Option Addr) (c : Nat) (w : World), LayOk L c → SeenP w A L.n L.sh → Home w → ∀ k : Int, Wide k → Calls Tryd.prog 7 #[.agg (layC L A c).toArray, .int .i64 k] w (Ret w (atR (atV L k)))
  frC : ∀ (L : LayD) (A : Option Addr) (c : Nat) (w : World), LayOk L c → SeenP w A L.n L.sh → Home w → Calls Tryd.prog 9 #[.agg (layC L A c).toArray] w (Ret w (.int .i64 (fromZ L)))
def D15 : LayD := ⟨fun k => if k = 0 then 10 else if k = 5 then 3 else if k = 6 then 1 else 0, 0, fun _ => (0, 0)⟩
def Z15 : LayD := ⟨fun _ => 0, 0, fun _ => (0, 0)⟩
theorem wide_small {n : Int} (h0 : -1000 ≤ n) (h1 : n ≤ 1000) : Wide n := ⟨by omega, by omega⟩
theorem d15_ok : LayOk D15 0 := ⟨fun k => by unfold D15; dsimp only; split; exact wide_small (by decide) (by decide); split; exact wide_small (by decide) (by decide); split <;> exact wide_small (by decide) (by decide), fun i h => absurd h (Nat.not_lt_zero _), Nat.le_refl _, Nat.zero_le _⟩
theorem z15_ok : LayOk Z15 0 := ⟨fun _ => (wide_small (by decide) (by decide) : Wide 0), fun i h => absurd h (Nat.not_lt_zero _), Nat.le_refl _, Nat.zero_le _⟩
theorem z15_cells : layC Z15 none 0 = [.int .i64 0, .int .i64 0, .int .i64 0, .int .i64 0, .slice none 0 0, .int .i64 0, .int .i64 0, .int .i64 0, .int .i64 0, .int .i64 0, .int .i64 0, .int .i64 0, .int .i64 0, .int .i64 0, .int .i64 0, .int .i64 0, .int .i64 0, .int .i64 0, .int .i64 0, .int .i64 0, .int .i64 0] := rfl
theorem d15_1 : atV D15 1 = ((0, 10), 0) := by decide +kernel
theorem d15_2 : atV D15 2 = ((3, 7), 0) := by decide +kernel
theorem d15_0 : atV D15 0 = ((0, 0), 1) := by decide +kernel
theorem z15_1 : atV Z15 1 = ((0, 0), 140) := by decide +kernel
theorem d15_f : fromZ D15 = 2 := by decide +kernel
theorem z15_f : fromZ Z15 = 0 := by decide +kernel
set_option maxRecDepth 100000 in
set_option maxHeartbeats 2000000 in
theorem awake_any (SH : Shp) (w : World) (hT : Home w) : Calls Tryd.prog 6 #[] w (Ret w (.bool true)) := by
  have HT := Lib.hid hT
  have S := Lib.hid SH
  clear hT SH
  go_enter Tryd.func6, Tryd.ntmps6
  have xb := Lib.hid (boxW_ext w D15 none 0)
  have K0 := Lib.hid (boxW_blk w D15 none 0)
  go_upto_region 2 with (refine wpList_boxW rfl _ _ rfl w rfl D15 none 0 rfl rfl ?_)
  generalize boxW w D15 none 0 = w0 at *
  generalize hb0 : w.heap.size = b0 at *
  have X := xb
  have HT := Lib.hid (HT.out.ext xb.out)
  clear xb hb0
  have CA := Lib.hid (S.out.atC D15 none 0 w0 d15_ok SeenP.nil HT.out 1 (wide_small (by decide) (by decide)))
  rw [d15_1] at CA
  unfold atR lineV at CA
  dsimp only at CA
  go_wp2_with (first | (refine wpList_getW (by kernel_rfl) _ rfl b0 rfl K0.out ?_) | fail)
  refine CA.out.mono ?_
  rintro e w1a ⟨rfl, xa⟩
  clear CA
  have y := Lib.hid (xa.trans ((Ext.refl w1a).alloc (.cells #[.int .i64 0, .int .i64 10] 27)))
  have B1 := Lib.hid (show Blk (w1a.alloc (.cells #[.int .i64 0, .int .i64 10] 27)) w1a.heap.size 27 [.int .i64 0, .int .i64 10] from Blk.lit _ _ _ _ rfl)
  go_upto_region 3 with (fail)
  generalize w1a.alloc (.cells #[.int .i64 0, .int .i64 10] 27) = w1 at *
  generalize w1a.heap.size = b1 at *
  have X := Lib.hid (X.out.trans y.out)
  have HT := Lib.hid (HT.out.ext y.out)
  have K0 := Lib.hid (K0.out.ext y.out)
  clear xa y
  have CA := Lib.hid (S.out.atC D15 none 0 w1 d15_ok SeenP.nil HT.out 2 (wide_small (by decide) (by decide)))
  rw [d15_2] at CA
  unfold atR lineV at CA
  dsimp only at CA
  go_wp2_with (first | (refine wpList_getW (by kernel_rfl) _ rfl b0 rfl K0.out ?_) | fail)
  refine CA.out.mono ?_
  rintro e w2a ⟨rfl, xa⟩
  clear CA
  have y := Lib.hid (xa.trans ((Ext.refl w2a).alloc (.cells #[.int .i64 3, .int .i64 7] 27)))
  have B2 := Lib.hid (show Blk (w2a.alloc (.cells #[.int .i64 3, .int .i64 7] 27)) w2a.heap.size 27 [.int .i64 3, .int .i64 7] from Blk.lit _ _ _ _ rfl)
  go_upto_region 4 with (fail)
  generalize w2a.alloc (.cells #[.int .i64 3, .int .i64 7] 27) = w2 at *
  generalize w2a.heap.size = b2 at *
  have X := Lib.hid (X.out.trans y.out)
  have HT := Lib.hid (HT.out.ext y.out)
  have K0 := Lib.hid (K0.out.ext y.out)
  have B1 := Lib.hid (B1.out.ext y.out)
  clear xa y
  have CA := Lib.hid (S.out.atC D15 none 0 w2 d15_ok SeenP.nil HT.out 0 (wide_small (by decide) (by decide)))
  rw [d15_0] at CA
  unfold atR lineV at CA
  dsimp only at CA
  go_wp2_with (first | (refine wpList_getW (by kernel_rfl) _ rfl b0 rfl K0.out ?_) | fail)
  refine CA.out.mono ?_
  rintro e w3a ⟨rfl, xa⟩
  clear CA
  have y := Lib.hid (xa.trans ((Ext.refl w3a).alloc (.cells #[.int .i64 0, .int .i64 0] 27)))
  have B3 := Lib.hid (show Blk (w3a.alloc (.cells #[.int .i64 0, .int .i64 0] 27)) w3a.heap.size 27 [.int .i64 0, .int .i64 0] from Blk.lit _ _ _ _ rfl)
  go_upto_region 5 with (fail)
  generalize w3a.alloc (.cells #[.int .i64 0, .int .i64 0] 27) = w3 at *
  generalize w3a.heap.size = b3 at *
  have X := Lib.hid (X.out.trans y.out)
  have HT := Lib.hid (HT.out.ext y.out)
  have K0 := Lib.hid (K0.out.ext y.out)
  have B1 := Lib.hid (B1.out.ext y.out)
  have B2 := Lib.hid (B2.out.ext y.out)
  clear xa y
  have CA := Lib.hid (S.out.atC Z15 none 0 w3 z15_ok SeenP.nil HT.out 1 (wide_small (by decide) (by decide)))
  rw [z15_1] at CA
  unfold atR lineV at CA
  dsimp only at CA
  rw [z15_cells] at CA
  go_wp2_with (first | (refine wpList_getW (by kernel_rfl) _ rfl b0 rfl K0.out ?_) | fail)
  refine CA.out.mono ?_
  rintro e w4a ⟨rfl, xa⟩
  clear CA
  have y := Lib.hid (xa.trans ((Ext.refl w4a).alloc (.cells #[.int .i64 0, .int .i64 0] 27)))
  have B4 := Lib.hid (show Blk (w4a.alloc (.cells #[.int .i64 0, .int .i64 0] 27)) w4a.heap.size 27 [.int .i64 0, .int .i64 0] from Blk.lit _ _ _ _ rfl)
  go_upto_region 6 with (fail)
  generalize w4a.alloc (.cells #[.int .i64 0, .int .i64 0] 27) = w4 at *
  generalize w4a.heap.size = b4 at *
  have X := Lib.hid (X.out.trans y.out)
  have HT := Lib.hid (HT.out.ext y.out)
  have K0 := Lib.hid (K0.out.ext y.out)
  have B1 := Lib.hid (B1.out.ext y.out)
  have B2 := Lib.hid (B2.out.ext y.out)
  clear xa y
  have CF := Lib.hid (S.out.frC D15 none 0 w4 d15_ok SeenP.nil HT.out)
  rw [d15_f] at CF
  have p0 : w4.cell? ⟨b1, 0, none⟩ = some (.int .i64 0) := B1.out.cell 0
  have p1 : w4.cell? ⟨b1, 1, none⟩ = some (.int .i64 10) := B1.out.cell 1
  have q0 : w4.cell? ⟨b2, 0, none⟩ = some (.int .i64 3) := B2.out.cell 0
  have q1 : w4.cell? ⟨b2, 1, none⟩ = some (.int .i64 7) := B2.out.cell 1
  clear B1 B2 B3 B4
  go_wp2_with (first | (refine wpList_getW (by kernel_rfl) _ rfl b0 rfl K0.out ?_) | fail)
  refine CF.out.mono ?_
  rintro e w5 ⟨rfl, x5⟩
  have X := Lib.hid (X.out.trans x5)
  have CF := Lib.hid (S.out.frC Z15 none 0 w5 z15_ok SeenP.nil (HT.out.ext x5))
  rw [z15_f, z15_cells] at CF
  clear x5 p0 p1 q0 q1
  go_wp2_with fail
  refine CF.out.mono ?_
  rintro e w6 ⟨rfl, x6⟩
  have X := Lib.hid (X.out.trans x6)
  clear x6
  go_wp2_with fail
  go_ret
  exact ⟨rfl, X.out⟩
end L15
end Go.Proofs.YtaieafmgeheomaaDoor

