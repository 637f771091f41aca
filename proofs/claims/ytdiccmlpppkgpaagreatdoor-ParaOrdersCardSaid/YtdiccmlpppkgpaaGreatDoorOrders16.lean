/- ParaOrders: whether any break is ahead of any other one, and its penalty, are what the document says, whatever calls answer so. Written by gen16/orders.py. -/
import Derived.Test.YtdiccmlpppkgpaaGreatDoorAwake16
import Derived.Test.YtdiccmlpppkgpaaGreatDoorRef16
import Derived.Deep.CutBlock
import Derived.Deep.DeepCutAuto
namespace Go.Proofs.YtdiccmlpppkgpaaGreatDoor
open Go.RowKit
open Go.Lib hiding intOf
namespace ParaOrders
open L14 (LayD LayOk layC layV mayL Wide wpList_getW rg14)
open L16

def bc (b : Brk) : List Value := [.int .i64 b.1, .int .i64 b.2.1, .int .i64 b.2.2]
set_option maxRecDepth 100000 in
set_option maxHeartbeats 8000000 in
theorem all (PA : Par) (a b c : Brk) (wa : WideK a) (wb : WideK b) (wc : WideK c) (L : LayD) (SA : Option Addr) (sc : Nat) (lok : LayOk L sc) (w : World) (hT : Home w) :
    Calls Tryz.prog 4 #[brkV a, brkV b, brkV c, .agg (layC L SA sc).toArray] w (Ret w (.bool true)) := by
  obtain ⟨W1, hW1⟩ : ∃ W1, W1 = (((w.alloc (.cells #[.int .i64 a.1, .int .i64 a.2.1, .int .i64 a.2.2] 44)).alloc (.cells #[.int .i64 b.1, .int .i64 b.2.1, .int .i64 b.2.2] 44)).alloc (.cells #[.int .i64 c.1, .int .i64 c.2.1, .int .i64 c.2.2] 44)).alloc (.cells (layC L SA sc).toArray 28) := ⟨_, rfl⟩
  have x0 : Ext w W1 := by rw [hW1]; exact ((((Ext.refl _).alloc _).alloc _).alloc _).alloc _
  have KA := Lib.hid (show Blk W1 w.heap.size 44 (bc a) by rw [hW1]; exact (((Blk.lit _ _ _ _ rfl).ext ((Ext.refl _).alloc _)).ext ((Ext.refl _).alloc _)).ext ((Ext.refl _).alloc _))
  have KB := Lib.hid (show Blk W1 (w.heap.size + 1) 44 (bc b) by rw [hW1]; exact ((Blk.lit _ _ _ _ (by simp)).ext ((Ext.refl _).alloc _)).ext ((Ext.refl _).alloc _))
  have KC := Lib.hid (show Blk W1 (w.heap.size + 1 + 1) 44 (bc c) by rw [hW1]; exact (Blk.lit _ _ _ _ (by simp)).ext ((Ext.refl _).alloc _))
  have KL := Lib.hid (show Blk W1 (w.heap.size + 1 + 1 + 1) 28 (layC L SA sc) by rw [hW1]; exact Blk.lit _ _ _ _ (by simp))
  have X0 := Lib.hid x0
  have AW := Lib.hid (awake_any PA W1 (hT.ext x0))
  have AB := Lib.hid (fun w' => PA.befC a b w' wa wb)
  have BA := Lib.hid (fun w' => PA.befC b a w' wb wa)
  have BC := Lib.hid (fun w' => PA.befC b c w' wb wc)
  have AC := Lib.hid (fun w' => PA.befC a c w' wa wc)
  have PE := Lib.hid (fun w' => PA.penC L SA sc a w' lok wa)
  have RB := Lib.hid (fun w' => rbefore_any a b w')
  have RP := Lib.hid (fun w' => rpen_any L SA sc a w')
  have ONE := Lib.hid (bef_one a b)
  have TR := Lib.hid (fun h1 h2 => @bef_trans a b c h1 h2)
  have PL := Lib.hid (show plB a b = ((decide (a.1 = 0) && decide (b.1 = 0)) || (decide (a.1 ≠ 0) && (decide (b.1 ≠ 0) && (decide (a.2.1 = b.2.1) && decide (a.2.2 = b.2.2))))) from rfl)
  have HW1 := Lib.hid hW1
  obtain ⟨b0, hb0⟩ : ∃ b0, w.heap.size = b0 := ⟨_, rfl⟩
  obtain ⟨b1, hb1⟩ : ∃ b1, b0 + 1 = b1 := ⟨_, rfl⟩
  obtain ⟨b2, hb2⟩ : ∃ b2, b1 + 1 = b2 := ⟨_, rfl⟩
  obtain ⟨b3, hb3⟩ : ∃ b3, b2 + 1 = b3 := ⟨_, rfl⟩
  rw [hb0] at KA KB KC KL
  rw [hb1] at KB KC KL
  rw [hb2] at KC KL
  rw [hb3] at KL
  have H0 := Lib.hid hb0
  have H1 := Lib.hid hb1
  have H2 := Lib.hid hb2
  have H3 := Lib.hid hb3
  clear hW1 hb0 hb1 hb2 hb3 x0 hT PA wa wb wc lok
  unfold brkV at AB BA BC AC PE RB RP ⊢
  unfold bc at KA KB KC
  generalize befB a b = ab at *
  generalize befB b a = ba at *
  generalize befB b c = vbc at *
  generalize befB a c = vac at *
  generalize penV L a = pen at *
  generalize plB a b = pl at *
  obtain ⟨a1, a2, a3⟩ := a
  obtain ⟨c1, c2, c3⟩ := c
  obtain ⟨d1, d2, d3⟩ := b
  dsimp only at *
  go_enter Tryz.func4, Tryz.ntmps4
  go_upto_region 1 with (fail)
  rw [← HW1.out, H0.out, H1.out, H2.out, H3.out]
  clear HW1 H0 H1 H2 H3
  go_wp2_with fail
  refine AW.out.mono ?_
  rintro e w1 ⟨rfl, x1⟩
  have X := Lib.hid (X0.out.trans x1)
  have KA := Lib.hid (KA.out.ext x1)
  have KB := Lib.hid (KB.out.ext x1)
  have KC := Lib.hid (KC.out.ext x1)
  have KL := Lib.hid (KL.out.ext x1)
  clear x1 AW X0
  go_upto_region 2 with (fail)
  have RG := Lib.hid (range_regrown KL.out)
  have SOME := Lib.hid (some_regrown w1)
  have g0 := cell_regrown (show w1.cell? ⟨b0, 0, none⟩ = some (.int .i64 a1) from KA.out.cell 0)
  have g1 := cell_regrown (show w1.cell? ⟨b0, 1, none⟩ = some (.int .i64 a2) from KA.out.cell 1)
  have g2 := cell_regrown (show w1.cell? ⟨b0, 2, none⟩ = some (.int .i64 a3) from KA.out.cell 2)
  have h0 := cell_regrown (show w1.cell? ⟨b1, 0, none⟩ = some (.int .i64 d1) from KB.out.cell 0)
  have h1 := cell_regrown (show w1.cell? ⟨b1, 1, none⟩ = some (.int .i64 d2) from KB.out.cell 1)
  have h2 := cell_regrown (show w1.cell? ⟨b1, 2, none⟩ = some (.int .i64 d3) from KB.out.cell 2)
  refine wp_region_quiet_below (by kernel_rfl) (by kernel_rfl) ?_
  repeat (first | (go_big_quiet_want; refine quiet_load 28 b3 rfl _ RG.out SOME.out Tryz.underlying28 rfl (by kernel_rfl) ?_; go_big_quiet_op; go_big_quiet_on) | go_big_quiet_step (first | (with_reducible exact rg14 (AB.out _)) | (with_reducible exact rg14 (RB.out _)) | (with_reducible exact rg14 (PE.out _)) | (with_reducible exact rg14 (RP.out _))))
  refine wpQuiet_nil ?_
  intro _ hw'
  obtain ⟨⟨dq, osq⟩, hw''⟩ := hw'
  subst hw''
  have yy : Ext w1 (Sort.grow (redrawn w1 dq) osq) := below_regrown _ _ _
  generalize Sort.grow (redrawn w1 dq) osq = w2 at *
  have X := Lib.hid (X.out.trans yy)
  have KA := Lib.hid (KA.out.ext yy)
  have KB := Lib.hid (KB.out.ext yy)
  have KC := Lib.hid (KC.out.ext yy)
  have KL := Lib.hid (KL.out.ext yy)
  clear yy
  clear RG SOME g0 g1 g2 h0 h1 h2
  go_upto_region 3 with (fail)
  have RG := Lib.hid (range_regrown KL.out)
  have SOME := Lib.hid (some_regrown w2)
  have g0 := cell_regrown (show w2.cell? ⟨b0, 0, none⟩ = some (.int .i64 a1) from KA.out.cell 0)
  have g1 := cell_regrown (show w2.cell? ⟨b0, 1, none⟩ = some (.int .i64 a2) from KA.out.cell 1)
  have g2 := cell_regrown (show w2.cell? ⟨b0, 2, none⟩ = some (.int .i64 a3) from KA.out.cell 2)
  have h0 := cell_regrown (show w2.cell? ⟨b1, 0, none⟩ = some (.int .i64 d1) from KB.out.cell 0)
  have h1 := cell_regrown (show w2.cell? ⟨b1, 1, none⟩ = some (.int .i64 d2) from KB.out.cell 1)
  have h2 := cell_regrown (show w2.cell? ⟨b1, 2, none⟩ = some (.int .i64 d3) from KB.out.cell 2)
  refine wp_region_quiet_below (by kernel_rfl) (by kernel_rfl) ?_
  repeat (first | (go_big_quiet_want; refine quiet_load 28 b3 rfl _ RG.out SOME.out Tryz.underlying28 rfl (by kernel_rfl) ?_; go_big_quiet_op; go_big_quiet_on) | go_big_quiet_step (first | (with_reducible exact rg14 (AB.out _)) | (with_reducible exact rg14 (BA.out _))))
  refine wpQuiet_nil ?_
  intro _ hw'
  obtain ⟨⟨dq, osq⟩, hw''⟩ := hw'
  subst hw''
  have yy : Ext w2 (Sort.grow (redrawn w2 dq) osq) := below_regrown _ _ _
  generalize Sort.grow (redrawn w2 dq) osq = w3 at *
  have X := Lib.hid (X.out.trans yy)
  have KA := Lib.hid (KA.out.ext yy)
  have KB := Lib.hid (KB.out.ext yy)
  have KC := Lib.hid (KC.out.ext yy)
  have KL := Lib.hid (KL.out.ext yy)
  clear yy
  clear RG SOME g0 g1 g2 h0 h1 h2
  go_upto_region 4 with (fail)
  have g0 : w3.cell? ⟨b0, 0, none⟩ = some (.int .i64 a1) := KA.out.cell 0
  have g1 : w3.cell? ⟨b0, 1, none⟩ = some (.int .i64 a2) := KA.out.cell 1
  have g2 : w3.cell? ⟨b0, 2, none⟩ = some (.int .i64 a3) := KA.out.cell 2
  have h0 : w3.cell? ⟨b1, 0, none⟩ = some (.int .i64 d1) := KB.out.cell 0
  have h1 : w3.cell? ⟨b1, 1, none⟩ = some (.int .i64 d2) := KB.out.cell 1
  have h2 : w3.cell? ⟨b1, 2, none⟩ = some (.int .i64 d3) := KB.out.cell 2
  go_cut [12] from 37 to 68 (fun v wx => v = .bool pl ∧ wx = w3)
  case first =>
    clear AB BA BC AC PE RB RP ONE TR
    by_cases h1 : a1 = 0
    · subst h1
      by_cases h2 : d1 = 0
      · subst h2
        have PV := Lib.hid (show pl = true by rw [PL.out]; simp_all)
        clear PL
        go_wp2_with fail
        go_meet
        exact ⟨by rw [PV.out], rfl⟩
      · have k2 : (d1 == 0) = false := by simpa using h2
        have k3 : (d1 != 0) = true := by simpa using h2
        have PV := Lib.hid (show pl = false by rw [PL.out]; simp_all)
        clear PL
        go_wp2_with fail
        go_meet
        exact ⟨by rw [PV.out], rfl⟩
    · have k1 : (a1 == 0) = false := by simpa using h1
      have k0 : (a1 != 0) = true := by simpa using h1
      by_cases h2 : d1 = 0
      · subst h2
        have PV := Lib.hid (show pl = false by rw [PL.out]; simp_all)
        clear PL
        go_wp2_with fail
        go_meet
        exact ⟨by rw [PV.out], rfl⟩
      · have k2 : (d1 == 0) = false := by simpa using h2
        have k3 : (d1 != 0) = true := by simpa using h2
        by_cases h3 : a2 = d2
        · subst h3
          by_cases h4 : a3 = d3
          · subst h4
            have PV := Lib.hid (show pl = true by rw [PL.out]; simp_all)
            clear PL
            go_wp2_with fail
            go_meet
            exact ⟨by rw [PV.out], rfl⟩
          · have k4 : (a3 == d3) = false := by simpa using h4
            have PV := Lib.hid (show pl = false by rw [PL.out]; simp_all)
            clear PL
            go_wp2_with fail
            go_meet
            exact ⟨by rw [PV.out], rfl⟩
        · have k4 : (a2 == d2) = false := by simpa using h3
          have PV := Lib.hid (show pl = false by rw [PL.out]; simp_all)
          clear PL
          go_wp2_with fail
          go_meet
          exact ⟨by rw [PV.out], rfl⟩
  case rest =>
    obtain ⟨rfl, rfl⟩ := hcut
    have i0 : wc.cell? ⟨b2, 0, none⟩ = some (.int .i64 c1) := KC.out.cell 0
    have i1 : wc.cell? ⟨b2, 1, none⟩ = some (.int .i64 c2) := KC.out.cell 1
    have i2 : wc.cell? ⟨b2, 2, none⟩ = some (.int .i64 c3) := KC.out.cell 2
    clear PL PE RP RB BA
    cases ab with
    | false =>
      have ONE := ONE.out
      cases ba with
      | false =>
        cases pl with
        | false => exact absurd ONE (by decide)
        | true =>
          clear ONE TR
          go_wp2_with fail
          refine (AB.out wc).mono ?_
          rintro e w4 ⟨rfl, xx⟩
          have X := Lib.hid (X.out.trans xx)
          clear xx
          go_wp2_with fail
          go_ret
          exact ⟨rfl, X.out⟩
      | true =>
        cases pl with
        | true => exact absurd ONE (by decide)
        | false =>
          clear ONE TR
          go_wp2_with fail
          refine (AB.out wc).mono ?_
          rintro e w4 ⟨rfl, xx⟩
          have X := Lib.hid (X.out.trans xx)
          clear xx
          go_wp2_with fail
          go_ret
          exact ⟨rfl, X.out⟩
    | true =>
      have ONE := ONE.out
      have TV := Lib.hid (TR.out rfl)
      clear TR
      cases ba with
      | false =>
        cases pl with
        | true => exact absurd ONE (by decide)
        | false =>
          clear ONE
          go_wp2_with fail
          refine (AB.out wc).mono ?_
          rintro e w4 ⟨rfl, xx⟩
          have X := Lib.hid (X.out.trans xx)
          have g0 := xx.at g0
          have g1 := xx.at g1
          have g2 := xx.at g2
          have h0 := xx.at h0
          have h1 := xx.at h1
          have h2 := xx.at h2
          have i0 := xx.at i0
          have i1 := xx.at i1
          have i2 := xx.at i2
          clear xx
          cases vbc with
          | false =>
            clear TV
            go_wp2_with fail
            refine (BC.out w4).mono ?_
            rintro e w5 ⟨rfl, xx⟩
            have X := Lib.hid (X.out.trans xx)
            clear xx
            go_wp2_with fail
            go_ret
            exact ⟨rfl, X.out⟩
          | true =>
            have TQ : vac = true := TV.out rfl
            clear TV
            subst TQ
            go_wp2_with fail
            refine (BC.out w4).mono ?_
            rintro e w5 ⟨rfl, xx⟩
            have X := Lib.hid (X.out.trans xx)
            have g0 := xx.at g0
            have g1 := xx.at g1
            have g2 := xx.at g2
            have h0 := xx.at h0
            have h1 := xx.at h1
            have h2 := xx.at h2
            have i0 := xx.at i0
            have i1 := xx.at i1
            have i2 := xx.at i2
            clear xx
            go_wp2_with fail
            refine (AC.out w5).mono ?_
            rintro e w6 ⟨rfl, xx⟩
            have X := Lib.hid (X.out.trans xx)
            clear xx
            go_wp2_with fail
            go_ret
            exact ⟨rfl, X.out⟩
      | true =>
        cases pl with
        | false => exact absurd ONE (by decide)
        | true =>
          clear ONE
          go_wp2_with fail
          refine (AB.out wc).mono ?_
          rintro e w4 ⟨rfl, xx⟩
          have X := Lib.hid (X.out.trans xx)
          have g0 := xx.at g0
          have g1 := xx.at g1
          have g2 := xx.at g2
          have h0 := xx.at h0
          have h1 := xx.at h1
          have h2 := xx.at h2
          have i0 := xx.at i0
          have i1 := xx.at i1
          have i2 := xx.at i2
          clear xx
          cases vbc with
          | false =>
            clear TV
            go_wp2_with fail
            refine (BC.out w4).mono ?_
            rintro e w5 ⟨rfl, xx⟩
            have X := Lib.hid (X.out.trans xx)
            clear xx
            go_wp2_with fail
            go_ret
            exact ⟨rfl, X.out⟩
          | true =>
            have TQ : vac = true := TV.out rfl
            clear TV
            subst TQ
            go_wp2_with fail
            refine (BC.out w4).mono ?_
            rintro e w5 ⟨rfl, xx⟩
            have X := Lib.hid (X.out.trans xx)
            have g0 := xx.at g0
            have g1 := xx.at g1
            have g2 := xx.at g2
            have h0 := xx.at h0
            have h1 := xx.at h1
            have h2 := xx.at h2
            have i0 := xx.at i0
            have i1 := xx.at i1
            have i2 := xx.at i2
            clear xx
            go_wp2_with fail
            refine (AC.out w5).mono ?_
            rintro e w6 ⟨rfl, xx⟩
            have X := Lib.hid (X.out.trans xx)
            clear xx
            go_wp2_with fail
            go_ret
            exact ⟨rfl, X.out⟩
end ParaOrders
end Go.Proofs.YtdiccmlpppkgpaaGreatDoor

