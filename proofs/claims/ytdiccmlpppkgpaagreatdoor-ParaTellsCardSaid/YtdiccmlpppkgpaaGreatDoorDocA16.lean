/- The document's breaks of a word. Written by gen16/of.py. -/
import Derived.Test.YtdiccmlpppkgpaaGreatDoorPara16
import Derived.Test.YtdiccmlpppkgpaaGreatDoorGH16
import Derived.Test.YtdiccmlpppkgpaaGreatDoorGG16
import Derived.Deep.QuietTactic
namespace Go.Proofs.YtdiccmlpppkgpaaGreatDoor
open Go.RowKit
open Go.Lib hiding intOf
namespace L16
open L10 (TN patB tn)
open L12 (pointsL RPointsQ)
open L13 (TW tw)
open L14 (LayD layC LayOk mayL wpList_getW)

theorem mem_take_succ {l : List Int} {k : Nat} (h : k < l.length) (x : Int) : x ∈ l.take (k + 1) ↔ x ∈ l.take k ∨ x = l.getD k 0 := by
  rw [List.take_succ_eq_append_getElem h, List.mem_append, List.mem_singleton]
  simp [List.getD, h]
set_option maxRecDepth 100000 in
set_option maxHeartbeats 4000000 in
theorem rhas_any (A : Option Addr) (l : List Int) (n c : Nat) (m : Int) (w : World) (hs : SeenL w A l) (hn : n = l.length) (hm : n ≤ 1000000) :
    Calls Tryz.prog 51 #[.slice A n c, .int .i64 m] w (Ret w (.bool (decide (m ∈ l)))) := by
  have HS := Lib.hid hs
  have HN := Lib.hid hn
  have hn64 : (n : Int) ≤ 1000000 := by omega
  clear hs hn hm
  go_enter Tryz.func51, Tryz.ntmps51
  go_wp2_with fail
  go_loopw [5] (fun i wr => ∃ (k : Nat), k ≤ n ∧ i = .int .i64 k ∧ Hid (m ∉ l.take k) ∧ Hid (Ext w wr)) (fun i _ => n - (intOf i).toNat)
  case atStart => exact ⟨0, by omega, rfl, Lib.hid (by simp), Lib.hid (Ext.refl _)⟩
  case round =>
    obtain ⟨k, hk, rfl, ha, HX⟩ := hrel
    obtain ⟨wo, rfl⟩ : ∃ wo : World, wo = wr := ⟨_, rfl⟩
    by_cases hlt : k < n
    · have hk64 : (k : Int) < (n : Int) := by omega
      have hkl : k < l.length := by have := HN.out; omega
      obtain ⟨ad, rfl, c0⟩ := (HS.out.ext HX.out).get hkl
      have MS := Lib.hid (mem_take_succ hkl m)
      have IN := Lib.hid (show l.getD k 0 ∈ l from by simp [List.getD, hkl])
      generalize l.getD k 0 = x at *
      clear hkl
      by_cases h2 : x = m
      · subst h2
        have NO : Hid (true = decide (x ∈ l)) := Lib.hid (decide_eq_true IN.out).symm
        clear MS IN ha
        go_wp2_with fail
        go_ret
        exact ⟨ret_b NO.out, HX.out⟩
      · have HA := Lib.hid (show m ∉ l.take (k + 1) from fun h => (MS.out.1 h).elim ha.out (fun e => h2 e.symm))
        clear MS IN ha
        go_wp2_with fail
        go_roundw
        case rel => exact ⟨k + 1, by omega, by go_num, HA, HX⟩
        case measure => simp [intOf]; omega
    · obtain rfl : k = n := by omega
      have NO : Hid (false = decide (m ∈ l)) := Lib.hid (decide_eq_false (by
        have := ha.out
        rwa [List.take_of_length_le (by have := HN.out; omega)] at this)).symm
      go_wp2_with fail
      go_ret
      exact ⟨ret_b NO.out, HX.out⟩
/-- Own breaks, made since the call, as the answer. -/
def BrksQ (w : World) (l : List Brk) (e : Ending) (w' : World) : Prop := ∃ v, e = .returned v ∧ OwnK w w' v l
theorem ret_v {a b : Value} (h : a = b) : Ending.returned a = .returned b := by rw [h]
set_option maxRecDepth 100000 in
set_option maxHeartbeats 16000000 in
theorem rof_any (D : PatsD) (P : PatsP) (w : World) (sn : SeenPats w D P) (hp : ∀ x ∈ D.l, patB (tn x) = true) (hdn : D.l.length ≤ 400) (A : Option Addr) (l : List WP) (n c : Nat) (hs : SeenW w A l) (hn : n = l.length) (hm : n ≤ 1000000)
    (ok : ∀ x ∈ l, x.Ok ∧ x.ns.length ≤ 900000) (L : LayD) (SA : Option Addr) (sc : Nat) (x : CW) (s1 : SeenL w x.A x.cs) (s2 : SeenL w x.B x.ss) (z0 : 1 ≤ x.cs.length) (z1 : x.cs.length ≤ 1000) (z2 : x.ss.length ≤ 1000) (q : Nat) (parted : Bool)
    (hps : (pointsW (D.l.map tn) (l.map tn) (L.v 7) (L.v 8) (tw x) parted).length ≤ 1000000) :
    Calls Tryz.prog 38 #[patsV D P, .slice A n c, .agg (layC L SA sc).toArray, cwV x, .int .i64 (q : Int), .bool parted] w (BrksQ w (ofW (D.l.map tn) (l.map tn) (L.v 7) (L.v 8) (tw x) parted q)) := by
  obtain ⟨W1, hW1⟩ : ∃ W1, W1 = ((w.alloc (.cells #[.slice P.x D.l.length P.c, .slice P.y D.m.length P.d] 25)).alloc (.cells (layC L SA sc).toArray 28)).alloc (.cells #[.slice x.A x.cs.length x.c, .slice x.B x.ss.length x.d] 50) := ⟨_, rfl⟩
  have x0 : Ext w W1 := by rw [hW1]; exact (((Ext.refl _).alloc _).alloc _).alloc _
  have KP := Lib.hid (show Blk W1 w.heap.size 25 [.slice P.x D.l.length P.c, .slice P.y D.m.length P.d] by rw [hW1]; exact ((Blk.lit _ _ _ _ rfl).ext ((Ext.refl _).alloc _)).ext ((Ext.refl _).alloc _))
  have KL := Lib.hid (show Blk W1 (w.heap.size + 1) 28 (layC L SA sc) by rw [hW1]; exact (Blk.lit _ _ _ _ (by simp)).ext ((Ext.refl _).alloc _))
  have KW := Lib.hid (show Blk W1 (w.heap.size + 1 + 1) 50 [.slice x.A x.cs.length x.c, .slice x.B x.ss.length x.d] by rw [hW1]; exact Blk.lit _ _ _ _ (by simp))
  have RP := Lib.hid (L12.rpoints_any D P W1 (sn.ext x0) hp hdn A l n c (hs.ext x0) hn hm ok x.A x.cs x.cs.length x.c (s1.ext x0) rfl (by omega) (L.v 7) (L.v 8))
  have S1 := Lib.hid (s1.ext x0)
  have S2 := Lib.hid (s2.ext x0)
  have X := Lib.hid x0
  have HW1 := Lib.hid hW1
  obtain ⟨b0, hb0⟩ : ∃ b0, w.heap.size = b0 := ⟨_, rfl⟩
  obtain ⟨b1, hb1⟩ : ∃ b1, b0 + 1 = b1 := ⟨_, rfl⟩
  obtain ⟨b2, hb2⟩ : ∃ b2, b1 + 1 = b2 := ⟨_, rfl⟩
  rw [hb0] at KP KL KW
  rw [hb1] at KL KW
  rw [hb2] at KW
  have H0 := Lib.hid hb0
  have H1 := Lib.hid hb1
  have H2 := Lib.hid hb2
  have EP0 := Lib.hid (show ∀ y, y = pointsW (D.l.map tn) (l.map tn) (L.v 7) (L.v 8) (tw x) parted → y = if parted = true ∧ x.ss = [] then pointsL (D.l.map tn) (l.map tn) x.cs (L.v 7) (L.v 8) else [] from fun y h => h)
  obtain ⟨ps, hps0⟩ : ∃ ps, ps = pointsW (D.l.map tn) (l.map tn) (L.v 7) (L.v 8) (tw x) parted := ⟨_, rfl⟩
  have EV := Lib.hid (show ofW (D.l.map tn) (l.map tn) (L.v 7) (L.v 8) (tw x) parted q = ofTo (tw x) ps q x.cs.length by rw [hps0]; rfl)
  have EP := Lib.hid (EP0.out ps hps0)
  rw [← hps0] at hps
  clear hW1 hb0 hb1 hb2 sn hp hdn hs hn hm ok s1 s2 x0 hps0 EP0
  rw [EV.out]
  clear EV
  have KI := Lib.hid (fun i => show kindA (tw x) ps i = if (i : Int) ∈ x.ss then 3 else if x.cs.getD (i - 1) 0 = 45 then 4 else if (i : Int) ∈ ps then 2 else 0 from rfl)
  have SUC := Lib.hid (ofTo_succ (tw x) ps q)
  have LEN := Lib.hid (ofTo_length (tw x) ps q)
  have ONE := Lib.hid (ofTo_one (tw x) ps q)
  generalize tw x = tx at *
  obtain ⟨xcs, xA, xc, xss, xB, xd⟩ := x
  unfold cwV patsV
  dsimp only at *
  generalize hn1 : xcs.length = n1 at *
  generalize hn2 : xss.length = n2 at *
  have E1 := Lib.hid hn1
  have E2 := Lib.hid hn2
  have c64 : (n1 : Int) ≤ 1000 := by omega
  have s64 : (n2 : Int) ≤ 1000 := by omega
  clear hn1 hn2
  go_enter Tryz.func38, Tryz.ntmps38
  go_upto_region 1 with (fail)
  rw [← HW1.out, H0.out, H1.out, H2.out]
  clear HW1 H0 H1 H2
  cases parted with
  | false =>
    have hp0 : ps = [] := by rw [EP.out, if_neg (by simp)]
    have SP := Lib.hid (show SeenL W1 none ps by rw [hp0]; exact SeenL.nil)
    have NPL := Lib.hid (show 0 = ps.length by rw [hp0]; rfl)
    clear hp0 EP RP
    go_wp2_with fail
    go_loopw [14, 15] (fun v i wr => ∃ k : Nat, 1 ≤ k ∧ k ≤ n1 ∧ i = .int .i64 k ∧ Hid (OwnK W1 wr v (ofTo tx ps q k))) (fun _ i _ => n1 - (intOf i).toNat)
    case atStart => exact ⟨1, Nat.le_refl _, z0, rfl, Lib.hid (by rw [ONE.out]; exact OwnK.nil (Ext.refl _))⟩
    case round =>
      obtain ⟨k, k1, k2, rfl, HO⟩ := hrel
      have HX := Lib.hid HO.out.2
      obtain ⟨wo, rfl⟩ : ∃ wo : World, wo = wr := ⟨_, rfl⟩
      by_cases hlt : k < n1
      · obtain ⟨j, rfl⟩ : ∃ j, k = j + 1 := ⟨k - 1, by omega⟩
        have hk64 : (j : Int) + 1 < (n1 : Int) := by omega
        have hj64 : (j : Int) < (n1 : Int) := by omega
        have hjn : j < n1 := by omega
        have wj : IntKind.i64.wrap (j : Int) = (j : Int) := IntWalk.i64_in _ (by omega)
        have q0 : wo.cell? ⟨b2, 0, none⟩ = some (.slice xA n1 xc) := (KW.out.ext HX.out).cell 0
        have q1 : wo.cell? ⟨b2, 1, none⟩ = some (.slice xB n2 xd) := (KW.out.ext HX.out).cell 1
        have HAS1 := Lib.hid (rhas_any xB xss n2 xd ((j + 1 : Nat) : Int) wo (S2.out.ext HX.out) E2.out.symm (by omega))
        have KK := Lib.hid (KI.out (j + 1))
        have SU := Lib.hid (SUC.out (j + 1))
        have LN := Lib.hid (LEN.out (j + 1))
        go_wp2_with fail
        refine HAS1.out.mono ?_
        rintro e w4 ⟨rfl, x4⟩
        have HO := Lib.hid (HO.out.over x4)
        have HX := Lib.hid (HX.out.trans x4)
        have HAS2 := Lib.hid (rhas_any none ps 0 0 ((j + 1 : Nat) : Int) w4 (SP.out.ext HX.out) NPL.out (by omega))
        clear x4 HAS1 q0 q1
        generalize hbs : decide (((j + 1 : Nat) : Int) ∈ xss) = bs at *
        go_wp2_with fail
        refine HAS2.out.mono ?_
        rintro e w5 ⟨rfl, x5⟩
        have HO := Lib.hid (HO.out.over x5)
        have HX := Lib.hid (HX.out.trans x5)
        have q0 : w5.cell? ⟨b2, 0, none⟩ = some (.slice xA n1 xc) := (KW.out.ext HX.out).cell 0
        clear x5 HAS2
        generalize hbp : decide (((j + 1 : Nat) : Int) ∈ ps) = bp at *
        obtain ⟨ad, rfl, c0⟩ := (S1.out.ext HX.out).get (k := j) (by rw [E1.out]; exact hjn)
        have KK := Lib.hid (show kindA tx ps (j + 1) = if bs = true then 3 else if xcs.getD j 0 = 45 then 4 else if bp = true then 2 else 0 by
          rw [KK.out, ← hbs, ← hbp]
          simp only [decide_eq_true_eq, Nat.add_sub_cancel])
        clear hbs hbp
        generalize xcs.getD j 0 = y at *
        have LN2 := Lib.hid (show (ofTo tx ps q (j + 1)).length + 1 ≤ 1000000 by have := LN.out; omega)
        have PUT := Lib.hid (fun z => HO.out.put (z, (q : Int), ((j + 1 : Nat) : Int)) LN2.out 37)
        have NEXT := Lib.hid (fun (z : Int) (hz : z ≠ 0) (h : kindA tx ps (j + 1) = z) => show ofTo tx ps q (j + 1 + 1) = ofTo tx ps q (j + 1) ++ [(z, (q : Int), ((j + 1 : Nat) : Int))] by rw [SU.out, if_pos ⟨Nat.succ_pos _, by rw [h]; exact hz⟩, h])
        cases bs with
        | true =>
          have KV := Lib.hid (NEXT.out 3 (by decide) (by rw [KK.out, if_pos rfl]))
          obtain ⟨v', w6, hr, ho⟩ := PUT.out 3
          have HO2 := Lib.hid (show OwnK W1 w6 v' (ofTo tx ps q (j + 1 + 1)) by rw [KV.out]; exact ho)
          clear PUT NEXT KK SU LN LN2 KV HO ho
          go_wp2_with (first | (at_builtin; refine wpList_ran rfl _ _ rfl hr ?_) | fail)
          go_roundw
          case rel => exact ⟨j + 1 + 1, by omega, by omega, by go_num, HO2⟩
          case measure => simp [intOf]; omega
        | false =>
          by_cases hy : y = 45
          · subst hy
            have KV := Lib.hid (NEXT.out 4 (by decide) (by rw [KK.out]; simp))
            obtain ⟨v', w6, hr, ho⟩ := PUT.out 4
            have HO2 := Lib.hid (show OwnK W1 w6 v' (ofTo tx ps q (j + 1 + 1)) by rw [KV.out]; exact ho)
            clear PUT NEXT KK SU LN LN2 KV HO ho
            go_wp2_with (first | (at_builtin; refine wpList_ran rfl _ _ rfl hr ?_) | fail)
            go_roundw
            case rel => exact ⟨j + 1 + 1, by omega, by omega, by go_num, HO2⟩
            case measure => simp [intOf]; omega
          · cases bp with
            | true =>
              have KV := Lib.hid (NEXT.out 2 (by decide) (by rw [KK.out]; simp [hy]))
              obtain ⟨v', w6, hr, ho⟩ := PUT.out 2
              have HO2 := Lib.hid (show OwnK W1 w6 v' (ofTo tx ps q (j + 1 + 1)) by rw [KV.out]; exact ho)
              clear PUT NEXT KK SU LN LN2 KV HO ho
              go_wp2_with (first | (at_builtin; refine wpList_ran rfl _ _ rfl hr ?_) | fail)
              go_roundw
              case rel => exact ⟨j + 1 + 1, by omega, by omega, by go_num, HO2⟩
              case measure => simp [intOf]; omega
            | false =>
              have KV := Lib.hid (show ofTo tx ps q (j + 1 + 1) = ofTo tx ps q (j + 1) by
                have h0 : kindA tx ps (j + 1) = 0 := by rw [KK.out]; simp [hy]
                rw [SU.out, if_neg (fun h => h.2 h0), List.append_nil])
              have HO2 := Lib.hid (show OwnK W1 w5 _ (ofTo tx ps q (j + 1 + 1)) by rw [KV.out]; exact HO.out)
              clear PUT NEXT KK SU LN LN2 KV
              go_wp2_with fail
              go_roundw
              case rel => exact ⟨j + 1 + 1, by omega, by omega, by go_num, HO2⟩
              case measure => simp [intOf]; omega
      · obtain rfl : k = n1 := by omega
        have hk64 : ¬ (k : Int) < (k : Int) := by omega
        have q0 : wo.cell? ⟨b2, 0, none⟩ = some (.slice xA k xc) := (KW.out.ext HX.out).cell 0
        go_wp2_with fail
        go_ret
        exact ⟨_, rfl, OwnK.down X.out HO.out⟩
  | true =>
    by_cases h2 : n2 = 0
    · subst h2
      have hx0 : xss = [] := List.length_eq_zero_iff.1 E2.out
      have EP := Lib.hid (EP.out.trans (if_pos ⟨rfl, hx0⟩))
      have q1 : W1.cell? ⟨b2, 1, none⟩ = some (.slice xB 0 xd) := KW.out.cell 1
      have q0 : W1.cell? ⟨b2, 0, none⟩ = some (.slice xA n1 xc) := KW.out.cell 0
      have q7 : W1.cell? ⟨b1, 7, none⟩ = some (.int .i64 (L.v 7)) := KL.out.cell 7
      have q8 : W1.cell? ⟨b1, 8, none⟩ = some (.int .i64 (L.v 8)) := KL.out.cell 8
      have p0 : W1.cell? ⟨b0, 0, none⟩ = some (.slice P.x D.l.length P.c) := KP.out.cell 0
      have p1 : W1.cell? ⟨b0, 1, none⟩ = some (.slice P.y D.m.length P.d) := KP.out.cell 1
      rw [← EP.out] at RP
      unfold patsV at RP
      clear hx0 EP
      go_wp2_with fail
      refine RP.out.mono ?_
      rintro e w3 ⟨x3, PA, PC, rfl, sp⟩
      have X := Lib.hid (X.out.trans x3)
      have KW := Lib.hid (KW.out.ext x3)
      have S1 := Lib.hid (S1.out.ext x3)
      have S2 := Lib.hid (S2.out.ext x3)
      have SP := Lib.hid sp
      clear x3 sp q0 q1 q7 q8 p0 p1 RP
      go_wp2_with fail
      go_loopw [14, 15] (fun v i wr => ∃ k : Nat, 1 ≤ k ∧ k ≤ n1 ∧ i = .int .i64 k ∧ Hid (OwnK w3 wr v (ofTo tx ps q k))) (fun _ i _ => n1 - (intOf i).toNat)
      case atStart => exact ⟨1, Nat.le_refl _, z0, rfl, Lib.hid (by rw [ONE.out]; exact OwnK.nil (Ext.refl _))⟩
      case round =>
        obtain ⟨k, k1, k2, rfl, HO⟩ := hrel
        have HX := Lib.hid HO.out.2
        obtain ⟨wo, rfl⟩ : ∃ wo : World, wo = wr := ⟨_, rfl⟩
        by_cases hlt : k < n1
        · obtain ⟨j, rfl⟩ : ∃ j, k = j + 1 := ⟨k - 1, by omega⟩
          have hk64 : (j : Int) + 1 < (n1 : Int) := by omega
          have hj64 : (j : Int) < (n1 : Int) := by omega
          have hjn : j < n1 := by omega
          have wj : IntKind.i64.wrap (j : Int) = (j : Int) := IntWalk.i64_in _ (by omega)
          have q0 : wo.cell? ⟨b2, 0, none⟩ = some (.slice xA n1 xc) := (KW.out.ext HX.out).cell 0
          have q1 : wo.cell? ⟨b2, 1, none⟩ = some (.slice xB 0 xd) := (KW.out.ext HX.out).cell 1
          have HAS1 := Lib.hid (rhas_any xB xss 0 xd ((j + 1 : Nat) : Int) wo (S2.out.ext HX.out) E2.out.symm (by omega))
          have KK := Lib.hid (KI.out (j + 1))
          have SU := Lib.hid (SUC.out (j + 1))
          have LN := Lib.hid (LEN.out (j + 1))
          go_wp2_with fail
          refine HAS1.out.mono ?_
          rintro e w4 ⟨rfl, x4⟩
          have HO := Lib.hid (HO.out.over x4)
          have HX := Lib.hid (HX.out.trans x4)
          have HAS2 := Lib.hid (rhas_any PA ps ps.length PC ((j + 1 : Nat) : Int) w4 (SP.out.ext HX.out) rfl (by omega))
          clear x4 HAS1 q0 q1
          generalize hbs : decide (((j + 1 : Nat) : Int) ∈ xss) = bs at *
          go_wp2_with fail
          refine HAS2.out.mono ?_
          rintro e w5 ⟨rfl, x5⟩
          have HO := Lib.hid (HO.out.over x5)
          have HX := Lib.hid (HX.out.trans x5)
          have q0 : w5.cell? ⟨b2, 0, none⟩ = some (.slice xA n1 xc) := (KW.out.ext HX.out).cell 0
          clear x5 HAS2
          generalize hbp : decide (((j + 1 : Nat) : Int) ∈ ps) = bp at *
          obtain ⟨ad, rfl, c0⟩ := (S1.out.ext HX.out).get (k := j) (by rw [E1.out]; exact hjn)
          have KK := Lib.hid (show kindA tx ps (j + 1) = if bs = true then 3 else if xcs.getD j 0 = 45 then 4 else if bp = true then 2 else 0 by
            rw [KK.out, ← hbs, ← hbp]
            simp only [decide_eq_true_eq, Nat.add_sub_cancel])
          clear hbs hbp
          generalize xcs.getD j 0 = y at *
          have LN2 := Lib.hid (show (ofTo tx ps q (j + 1)).length + 1 ≤ 1000000 by have := LN.out; omega)
          have PUT := Lib.hid (fun z => HO.out.put (z, (q : Int), ((j + 1 : Nat) : Int)) LN2.out 37)
          have NEXT := Lib.hid (fun (z : Int) (hz : z ≠ 0) (h : kindA tx ps (j + 1) = z) => show ofTo tx ps q (j + 1 + 1) = ofTo tx ps q (j + 1) ++ [(z, (q : Int), ((j + 1 : Nat) : Int))] by rw [SU.out, if_pos ⟨Nat.succ_pos _, by rw [h]; exact hz⟩, h])
          cases bs with
          | true =>
            have KV := Lib.hid (NEXT.out 3 (by decide) (by rw [KK.out, if_pos rfl]))
            obtain ⟨v', w6, hr, ho⟩ := PUT.out 3
            have HO2 := Lib.hid (show OwnK w3 w6 v' (ofTo tx ps q (j + 1 + 1)) by rw [KV.out]; exact ho)
            clear PUT NEXT KK SU LN LN2 KV HO ho
            go_wp2_with (first | (at_builtin; refine wpList_ran rfl _ _ rfl hr ?_) | fail)
            go_roundw
            case rel => exact ⟨j + 1 + 1, by omega, by omega, by go_num, HO2⟩
            case measure => simp [intOf]; omega
          | false =>
            by_cases hy : y = 45
            · subst hy
              have KV := Lib.hid (NEXT.out 4 (by decide) (by rw [KK.out]; simp))
              obtain ⟨v', w6, hr, ho⟩ := PUT.out 4
              have HO2 := Lib.hid (show OwnK w3 w6 v' (ofTo tx ps q (j + 1 + 1)) by rw [KV.out]; exact ho)
              clear PUT NEXT KK SU LN LN2 KV HO ho
              go_wp2_with (first | (at_builtin; refine wpList_ran rfl _ _ rfl hr ?_) | fail)
              go_roundw
              case rel => exact ⟨j + 1 + 1, by omega, by omega, by go_num, HO2⟩
              case measure => simp [intOf]; omega
            · cases bp with
              | true =>
                have KV := Lib.hid (NEXT.out 2 (by decide) (by rw [KK.out]; simp [hy]))
                obtain ⟨v', w6, hr, ho⟩ := PUT.out 2
                have HO2 := Lib.hid (show OwnK w3 w6 v' (ofTo tx ps q (j + 1 + 1)) by rw [KV.out]; exact ho)
                clear PUT NEXT KK SU LN LN2 KV HO ho
                go_wp2_with (first | (at_builtin; refine wpList_ran rfl _ _ rfl hr ?_) | fail)
                go_roundw
                case rel => exact ⟨j + 1 + 1, by omega, by omega, by go_num, HO2⟩
                case measure => simp [intOf]; omega
              | false =>
                have KV := Lib.hid (show ofTo tx ps q (j + 1 + 1) = ofTo tx ps q (j + 1) by
                  have h0 : kindA tx ps (j + 1) = 0 := by rw [KK.out]; simp [hy]
                  rw [SU.out, if_neg (fun h => h.2 h0), List.append_nil])
                have HO2 := Lib.hid (show OwnK w3 w5 _ (ofTo tx ps q (j + 1 + 1)) by rw [KV.out]; exact HO.out)
                clear PUT NEXT KK SU LN LN2 KV
                go_wp2_with fail
                go_roundw
                case rel => exact ⟨j + 1 + 1, by omega, by omega, by go_num, HO2⟩
                case measure => simp [intOf]; omega
        · obtain rfl : k = n1 := by omega
          have hk64 : ¬ (k : Int) < (k : Int) := by omega
          have q0 : wo.cell? ⟨b2, 0, none⟩ = some (.slice xA k xc) := (KW.out.ext HX.out).cell 0
          go_wp2_with fail
          go_ret
          exact ⟨_, rfl, OwnK.down X.out HO.out⟩
    · have h2z : ¬ (n2 : Int) = 0 := by omega
      have h2b : ((n2 : Int) == 0) = false := by simpa using h2
      have h2d : decide ((n2 : Int) = 0) = false := by simpa using h2
      have q1 : W1.cell? ⟨b2, 1, none⟩ = some (.slice xB n2 xd) := KW.out.cell 1
      have hp0 : ps = [] := by rw [EP.out, if_neg (by rintro ⟨_, h⟩; rw [h] at E2; exact h2 E2.out.symm)]
      have SP := Lib.hid (show SeenL W1 none ps by rw [hp0]; exact SeenL.nil)
      have NPL := Lib.hid (show 0 = ps.length by rw [hp0]; rfl)
      clear hp0 EP RP
      go_wp2_with fail
      go_loopw [14, 15] (fun v i wr => ∃ k : Nat, 1 ≤ k ∧ k ≤ n1 ∧ i = .int .i64 k ∧ Hid (OwnK W1 wr v (ofTo tx ps q k))) (fun _ i _ => n1 - (intOf i).toNat)
      case atStart => exact ⟨1, Nat.le_refl _, z0, rfl, Lib.hid (by rw [ONE.out]; exact OwnK.nil (Ext.refl _))⟩
      case round =>
        obtain ⟨k, k1, k2, rfl, HO⟩ := hrel
        have HX := Lib.hid HO.out.2
        obtain ⟨wo, rfl⟩ : ∃ wo : World, wo = wr := ⟨_, rfl⟩
        by_cases hlt : k < n1
        · obtain ⟨j, rfl⟩ : ∃ j, k = j + 1 := ⟨k - 1, by omega⟩
          have hk64 : (j : Int) + 1 < (n1 : Int) := by omega
          have hj64 : (j : Int) < (n1 : Int) := by omega
          have hjn : j < n1 := by omega
          have wj : IntKind.i64.wrap (j : Int) = (j : Int) := IntWalk.i64_in _ (by omega)
          have q0 : wo.cell? ⟨b2, 0, none⟩ = some (.slice xA n1 xc) := (KW.out.ext HX.out).cell 0
          have q1 : wo.cell? ⟨b2, 1, none⟩ = some (.slice xB n2 xd) := (KW.out.ext HX.out).cell 1
          have HAS1 := Lib.hid (rhas_any xB xss n2 xd ((j + 1 : Nat) : Int) wo (S2.out.ext HX.out) E2.out.symm (by omega))
          have KK := Lib.hid (KI.out (j + 1))
          have SU := Lib.hid (SUC.out (j + 1))
          have LN := Lib.hid (LEN.out (j + 1))
          go_wp2_with fail
          refine HAS1.out.mono ?_
          rintro e w4 ⟨rfl, x4⟩
          have HO := Lib.hid (HO.out.over x4)
          have HX := Lib.hid (HX.out.trans x4)
          have HAS2 := Lib.hid (rhas_any none ps 0 0 ((j + 1 : Nat) : Int) w4 (SP.out.ext HX.out) NPL.out (by omega))
          clear x4 HAS1 q0 q1
          generalize hbs : decide (((j + 1 : Nat) : Int) ∈ xss) = bs at *
          go_wp2_with fail
          refine HAS2.out.mono ?_
          rintro e w5 ⟨rfl, x5⟩
          have HO := Lib.hid (HO.out.over x5)
          have HX := Lib.hid (HX.out.trans x5)
          have q0 : w5.cell? ⟨b2, 0, none⟩ = some (.slice xA n1 xc) := (KW.out.ext HX.out).cell 0
          clear x5 HAS2
          generalize hbp : decide (((j + 1 : Nat) : Int) ∈ ps) = bp at *
          obtain ⟨ad, rfl, c0⟩ := (S1.out.ext HX.out).get (k := j) (by rw [E1.out]; exact hjn)
          have KK := Lib.hid (show kindA tx ps (j + 1) = if bs = true then 3 else if xcs.getD j 0 = 45 then 4 else if bp = true then 2 else 0 by
            rw [KK.out, ← hbs, ← hbp]
            simp only [decide_eq_true_eq, Nat.add_sub_cancel])
          clear hbs hbp
          generalize xcs.getD j 0 = y at *
          have LN2 := Lib.hid (show (ofTo tx ps q (j + 1)).length + 1 ≤ 1000000 by have := LN.out; omega)
          have PUT := Lib.hid (fun z => HO.out.put (z, (q : Int), ((j + 1 : Nat) : Int)) LN2.out 37)
          have NEXT := Lib.hid (fun (z : Int) (hz : z ≠ 0) (h : kindA tx ps (j + 1) = z) => show ofTo tx ps q (j + 1 + 1) = ofTo tx ps q (j + 1) ++ [(z, (q : Int), ((j + 1 : Nat) : Int))] by rw [SU.out, if_pos ⟨Nat.succ_pos _, by rw [h]; exact hz⟩, h])
          cases bs with
          | true =>
            have KV := Lib.hid (NEXT.out 3 (by decide) (by rw [KK.out, if_pos rfl]))
            obtain ⟨v', w6, hr, ho⟩ := PUT.out 3
            have HO2 := Lib.hid (show OwnK W1 w6 v' (ofTo tx ps q (j + 1 + 1)) by rw [KV.out]; exact ho)
            clear PUT NEXT KK SU LN LN2 KV HO ho
            go_wp2_with (first | (at_builtin; refine wpList_ran rfl _ _ rfl hr ?_) | fail)
            go_roundw
            case rel => exact ⟨j + 1 + 1, by omega, by omega, by go_num, HO2⟩
            case measure => simp [intOf]; omega
          | false =>
            by_cases hy : y = 45
            · subst hy
              have KV := Lib.hid (NEXT.out 4 (by decide) (by rw [KK.out]; simp))
              obtain ⟨v', w6, hr, ho⟩ := PUT.out 4
              have HO2 := Lib.hid (show OwnK W1 w6 v' (ofTo tx ps q (j + 1 + 1)) by rw [KV.out]; exact ho)
              clear PUT NEXT KK SU LN LN2 KV HO ho
              go_wp2_with (first | (at_builtin; refine wpList_ran rfl _ _ rfl hr ?_) | fail)
              go_roundw
              case rel => exact ⟨j + 1 + 1, by omega, by omega, by go_num, HO2⟩
              case measure => simp [intOf]; omega
            · cases bp with
              | true =>
                have KV := Lib.hid (NEXT.out 2 (by decide) (by rw [KK.out]; simp [hy]))
                obtain ⟨v', w6, hr, ho⟩ := PUT.out 2
                have HO2 := Lib.hid (show OwnK W1 w6 v' (ofTo tx ps q (j + 1 + 1)) by rw [KV.out]; exact ho)
                clear PUT NEXT KK SU LN LN2 KV HO ho
                go_wp2_with (first | (at_builtin; refine wpList_ran rfl _ _ rfl hr ?_) | fail)
                go_roundw
                case rel => exact ⟨j + 1 + 1, by omega, by omega, by go_num, HO2⟩
                case measure => simp [intOf]; omega
              | false =>
                have KV := Lib.hid (show ofTo tx ps q (j + 1 + 1) = ofTo tx ps q (j + 1) by
                  have h0 : kindA tx ps (j + 1) = 0 := by rw [KK.out]; simp [hy]
                  rw [SU.out, if_neg (fun h => h.2 h0), List.append_nil])
                have HO2 := Lib.hid (show OwnK W1 w5 _ (ofTo tx ps q (j + 1 + 1)) by rw [KV.out]; exact HO.out)
                clear PUT NEXT KK SU LN LN2 KV
                go_wp2_with fail
                go_roundw
                case rel => exact ⟨j + 1 + 1, by omega, by omega, by go_num, HO2⟩
                case measure => simp [intOf]; omega
        · obtain rfl : k = n1 := by omega
          have hk64 : ¬ (k : Int) < (k : Int) := by omega
          have q0 : wo.cell? ⟨b2, 0, none⟩ = some (.slice xA k xc) := (KW.out.ext HX.out).cell 0
          go_wp2_with fail
          go_ret
          exact ⟨_, rfl, OwnK.down X.out HO.out⟩
end L16
end Go.Proofs.YtdiccmlpppkgpaaGreatDoor

