/- The document's Cut of layer 17. Written by gen17/cut.py. -/
import Derived.Test.YtmmgmcfhlhghoaaPiece17
import Derived.Deep.CutBlock
import Derived.Deep.DeepCutAuto
namespace Go.Proofs.Ytmmgmcfhlhghoaa
open Go.RowKit
namespace L17
open L13 (TW tw checkB wordB)
open L16 (Brk befB brkV)

/-- Own lists, made since the call, as the answer. -/
def RowsQ (w : World) (l : List (List Int)) (e : Ending) (w' : World) : Prop := ∃ v rs, e = .returned v ∧ OwnR w w' v rs ∧ nsL rs = l
set_option maxRecDepth 100000 in
set_option maxHeartbeats 8000000 in
theorem rcut_any (WA : Option Addr) (wl : List CW) (d : Nat) (a b : Brk) (w : World) (sw : SeenC w WA wl) (hn : wl.length ≤ 110) (hc : ∀ x ∈ wl, x.cs.length ≤ 1000) :
    Calls Try.prog 23 #[.slice WA wl.length d, brkV a, brkV b] w (RowsQ w (cutL a b (wl.map tw))) := by
  obtain ⟨a1, a2, a3⟩ := a
  obtain ⟨d1, d2, d3⟩ := b
  obtain ⟨W1, hW1⟩ : ∃ W1, W1 = (w.alloc (.cells #[.int .i64 a1, .int .i64 a2, .int .i64 a3] 24)).alloc (.cells #[.int .i64 d1, .int .i64 d2, .int .i64 d3] 24) := ⟨_, rfl⟩
  have x0 : Ext w W1 := by rw [hW1]; exact ((Ext.refl _).alloc _).alloc _
  have KA := Lib.hid (show Blk W1 w.heap.size 24 [.int .i64 a1, .int .i64 a2, .int .i64 a3] by rw [hW1]; exact (Blk.lit _ _ _ _ rfl).ext ((Ext.refl _).alloc _))
  have KB := Lib.hid (show Blk W1 (w.heap.size + 1) 24 [.int .i64 d1, .int .i64 d2, .int .i64 d3] by rw [hW1]; exact Blk.lit _ _ _ _ (by simp))
  have SW := Lib.hid (sw.ext x0)
  have X0 := Lib.hid x0
  have HC := Lib.hid hc
  have HW1 := Lib.hid hW1
  obtain ⟨b0, hb0⟩ : ∃ b0, w.heap.size = b0 := ⟨_, rfl⟩
  obtain ⟨b1, hb1⟩ : ∃ b1, b0 + 1 = b1 := ⟨_, rfl⟩
  rw [hb0] at KA KB
  rw [hb1] at KB
  have H0 := Lib.hid hb0
  have H1 := Lib.hid hb1
  have n64 : (wl.length : Int) ≤ 110 := by omega
  have GD := Lib.hid (fun k (hk : k < wl.length) => show ((wl.map tw).getD k ([], [])).1 = wl[k].cs by simp [List.getD, hk]; rfl)
  have RS := Lib.hid (rowsTo_succ (a1, a2, a3) (d1, d2, d3) (wl.map tw))
  have RL := Lib.hid (rowsTo_len (a1, a2, a3) (d1, d2, d3) (wl.map tw))
  have CV := Lib.hid (show cutL (a1, a2, a3) (d1, d2, d3) (wl.map tw) = if rowsTo (a1, a2, a3) (d1, d2, d3) (wl.map tw) wl.length ≠ [] ∧ hyB (d1, d2, d3) = true then putH (rowsTo (a1, a2, a3) (d1, d2, d3) (wl.map tw) wl.length) else rowsTo (a1, a2, a3) (d1, d2, d3) (wl.map tw) wl.length by
    have e : (wl.map tw).length = wl.length := List.length_map ..
    unfold cutL
    rw [e])
  have CS := Lib.hid (fun k cs j => cutTo_succ (a1, a2, a3) (d1, d2, d3) k cs j)
  have CN := Lib.hid (fun k cs j => cutTo_len (a1, a2, a3) (d1, d2, d3) k cs j)
  have CW0 := Lib.hid (fun k cs => show cutW (a1, a2, a3) (d1, d2, d3) k cs = cutTo (a1, a2, a3) (d1, d2, d3) k cs cs.length from rfl)
  have BE := Lib.hid (fun (k i : Nat) => show behB (a1, a2, a3) k i = (decide (a1 = 0) || (decide (a2 < (k : Int)) || (decide ((k : Int) = a2) && decide (a3 ≤ (i : Int))))) from rfl)
  have AH := Lib.hid (fun (k i : Nat) => show aheB (d1, d2, d3) k i = (decide ((k : Int) < d2) || (decide ((k : Int) = d2) && decide ((i : Int) < d3))) from rfl)
  have HY := Lib.hid (show hyB (d1, d2, d3) = (decide (d1 = 2) || decide (d1 = 3)) from rfl)
  clear hW1 hb0 hb1 x0 sw hc hn
  unfold brkV
  dsimp only
  go_enter Try.func23, Try.ntmps23
  go_upto_region 1 with (fail)
  rw [← HW1.out, H0.out, H1.out]
  clear HW1 H0 H1
  go_wp2_with fail
  go_loopw [7, 8] (fun v i wr => ∃ (k : Nat) (rs : List RI), k ≤ wl.length ∧ i = .int .i64 k ∧ Hid (OwnR W1 wr v rs) ∧ Hid (nsL rs = rowsTo (a1, a2, a3) (d1, d2, d3) (wl.map tw) k) ∧ Hid (∀ x ∈ rs, x.ns.length ≤ 1000)) (fun _ i _ => wl.length - (intOf i).toNat)
  case atStart => exact ⟨0, [], by omega, rfl, Lib.hid (OwnR.nil (Ext.refl _)), Lib.hid rfl, Lib.hid (fun x hx => by simp at hx)⟩
  case round =>
    obtain ⟨k, rs, hk, rfl, HO, HN, ZLEN⟩ := hrel
    obtain ⟨wo, rfl⟩ : ∃ wo : World, wo = wr := ⟨_, rfl⟩
    by_cases hlt : k < wl.length
    · have hk64 : (k : Int) < (wl.length : Int) := by omega
      have R1 := Lib.hid (RS.out k)
      rw [GD.out k hlt] at R1
      have HCk := HC.out _ (List.getElem_mem hlt)
      have CSk := Lib.hid (CS.out k wl[k].cs)
      have CNk := Lib.hid (CN.out k wl[k].cs)
      have CWk := Lib.hid (CW0.out k wl[k].cs)
      have BEk := Lib.hid (BE.out k)
      have AHk := Lib.hid (AH.out k)
      have cz : (wl[k].cs.length : Int) ≤ 1000 := by omega
      go_wp2_with fail
      go_loopw [9, 10] (fun v i wr => ∃ (j : Nat), j ≤ wl[k].cs.length ∧ i = .int .i64 j ∧ Hid (OwnI wo wr v (cutTo (a1, a2, a3) (d1, d2, d3) k wl[k].cs j))) (fun _ i _ => wl[k].cs.length - (intOf i).toNat)
      case atStart => exact ⟨0, by omega, rfl, Lib.hid (OwnI.nil (Ext.refl _))⟩
      case round =>
        obtain ⟨j, hj, rfl, HI⟩ := hrel
        obtain ⟨wi, rfl⟩ : ∃ wi : World, wi = wr := ⟨_, rfl⟩
        have HX := Lib.hid (HO.out.2.1.trans HI.out.2)
        obtain ⟨⟨ad, rfl, c0, _⟩, s1, _⟩ := (SW.out.ext HX.out).get hlt
        by_cases hjl : j < wl[k].cs.length
        · have hj64 : (j : Int) < (wl[k].cs.length : Int) := by omega
          obtain ⟨ae, ea, e0⟩ := s1.get hjl
          have C1 := Lib.hid (CSk.out j)
          have L1 := Lib.hid (show (cutTo (a1, a2, a3) (d1, d2, d3) k wl[k].cs j).length + 1 ≤ 1000000 by have := CNk.out j; omega)
          have BEj := Lib.hid (BEk.out j)
          have AHj := Lib.hid (AHk.out j)
          have q0 : wi.cell? ⟨b0, 0, none⟩ = some (.int .i64 a1) := (KA.out.ext HX.out).cell 0
          have q1 : wi.cell? ⟨b0, 1, none⟩ = some (.int .i64 a2) := (KA.out.ext HX.out).cell 1
          have q2 : wi.cell? ⟨b0, 2, none⟩ = some (.int .i64 a3) := (KA.out.ext HX.out).cell 2
          have r1 : wi.cell? ⟨b1, 1, none⟩ = some (.int .i64 d2) := (KB.out.ext HX.out).cell 1
          have r2 : wi.cell? ⟨b1, 2, none⟩ = some (.int .i64 d3) := (KB.out.ext HX.out).cell 2
          generalize behB (a1, a2, a3) k j = bb at *
          generalize aheB (d1, d2, d3) k j = ab at *
          rw [ea] at c0
          go_upto_region 9 with (fail)
          go_cut [11] from 29 to 49 (fun v wx => v = .bool bb ∧ wx = wi)
          case first =>
            clear AHj
            by_cases h1 : a1 = 0
            · subst h1
              have V := Lib.hid (show bb = true by rw [BEj.out]; simp_all)
              clear BEj
              go_wp2_with fail
              go_meet
              exact ⟨by rw [V.out], rfl⟩
            · have k1 : (a1 == 0) = false := by simpa using h1
              by_cases h2 : a2 < (k : Int)
              · skip
                have V := Lib.hid (show bb = true by rw [BEj.out]; simp_all)
                clear BEj
                go_wp2_with fail
                go_meet
                exact ⟨by rw [V.out], rfl⟩
              · have h2' : (k : Int) ≤ a2 := by omega
                by_cases h3 : (k : Int) = a2
                · subst h3
                  by_cases h4 : a3 ≤ (j : Int)
                  · have V := Lib.hid (show bb = true by rw [BEj.out, decide_eq_true h4]; simp)
                    clear BEj
                    go_wp2_with fail
                    go_meet
                    exact ⟨by rw [V.out], rfl⟩
                  · have h4' : (j : Int) < a3 := by omega
                    have V := Lib.hid (show bb = false by rw [BEj.out, decide_eq_false h1, decide_eq_false h2, decide_eq_false h4]; simp)
                    clear BEj
                    go_wp2_with fail
                    go_meet
                    exact ⟨by rw [V.out], rfl⟩
                · have k3 : ((k : Int) == a2) = false := by simpa using h3
                  have V := Lib.hid (show bb = false by rw [BEj.out, decide_eq_false h1, decide_eq_false h2, decide_eq_false h3]; rfl)
                  clear BEj
                  go_wp2_with fail
                  go_meet
                  exact ⟨by rw [V.out], rfl⟩
          case rest =>
            obtain ⟨rfl, rfl⟩ := hcut
            go_upto_region 10 with (fail)
            go_cut [12] from 50 to 65 (fun v wx => v = .bool ab ∧ wx = wc)
            case first =>
              by_cases h2 : (k : Int) < d2
              · have V := Lib.hid (show ab = true by rw [AHj.out, decide_eq_true h2]; rfl)
                clear AHj
                go_wp2_with fail
                go_meet
                exact ⟨by rw [V.out], rfl⟩
              · have h2' : d2 ≤ (k : Int) := by omega
                by_cases h3 : (k : Int) = d2
                · subst h3
                  by_cases h4 : (j : Int) < d3
                  · have V := Lib.hid (show ab = true by rw [AHj.out, decide_eq_true h4]; simp)
                    clear AHj
                    go_wp2_with fail
                    go_meet
                    exact ⟨by rw [V.out], rfl⟩
                  · have h4' : d3 ≤ (j : Int) := by omega
                    have V := Lib.hid (show ab = false by rw [AHj.out, decide_eq_false h2, decide_eq_false h4]; simp)
                    clear AHj
                    go_wp2_with fail
                    go_meet
                    exact ⟨by rw [V.out], rfl⟩
                · have k3 : ((k : Int) == d2) = false := by simpa using h3
                  have V := Lib.hid (show ab = false by rw [AHj.out, decide_eq_false h2, decide_eq_false h3]; rfl)
                  clear AHj
                  go_wp2_with fail
                  go_meet
                  exact ⟨by rw [V.out], rfl⟩
            case rest =>
              obtain ⟨rfl, rfl⟩ := hcut
              clear q0 q1 q2 r1 r2
              generalize wl[k].cs.getD j 0 = y at *
              cases bb with
              | false =>
                have HI2 := Lib.hid (show OwnI wo _ u9 (cutTo (a1, a2, a3) (d1, d2, d3) k wl[k].cs (j + 1)) by rw [C1.out]; simpa using HI.out)
                clear C1 L1
                go_wp2_with fail
                go_roundw
                case rel => exact ⟨j + 1, by omega, by go_num, HI2⟩
                case measure => simp [intOf]; omega
              | true =>
                cases ab with
                | false =>
                  have HI2 := Lib.hid (show OwnI wo _ u9 (cutTo (a1, a2, a3) (d1, d2, d3) k wl[k].cs (j + 1)) by rw [C1.out]; simpa using HI.out)
                  clear C1 L1
                  go_wp2_with fail
                  go_roundw
                  case rel => exact ⟨j + 1, by omega, by go_num, HI2⟩
                  case measure => simp [intOf]; omega
                | true =>
                  obtain ⟨v', w4, hr, ho⟩ := HI.out.put y L1.out 36
                  have HI2 := Lib.hid (show OwnI wo w4 v' (cutTo (a1, a2, a3) (d1, d2, d3) k wl[k].cs (j + 1)) by rw [C1.out]; exact ho)
                  clear C1 L1 HI ho
                  go_wp2_with (first | (at_builtin; refine wpList_ran rfl _ _ rfl hr ?_) | fail)
                  go_roundw
                  case rel => exact ⟨j + 1, by omega, by go_num, HI2⟩
                  case measure => simp [intOf]; omega
        · have hjn : j = wl[k].cs.length := by omega
          subst hjn
          have hj64 : ¬ (wl[k].cs.length : Int) < (wl[k].cs.length : Int) := by omega
          obtain ⟨Al, cl, rfl, sl, _⟩ := HI.out.seen
          have TY := Lib.hid (OwnI.typed HI.out)
          have HO := Lib.hid (HO.out.over HI.out.2)
          have RN := Lib.hid (RL.out k)
          have LR := Lib.hid (show rs.length ≤ 110 by have h := congrArg List.length HN.out; simp [nsL] at h; have := RN.out; omega)
          have R1 := Lib.hid (show rowsTo (a1, a2, a3) (d1, d2, d3) (wl.map tw) (k + 1) = rowsTo (a1, a2, a3) (d1, d2, d3) (wl.map tw) k ++ if cutTo (a1, a2, a3) (d1, d2, d3) k wl[k].cs wl[k].cs.length = [] then [] else [cutTo (a1, a2, a3) (d1, d2, d3) k wl[k].cs wl[k].cs.length] by rw [R1.out, CWk.out])
          have SL := Lib.hid sl
          have LZ := Lib.hid (Nat.le_trans (CNk.out wl[k].cs.length) HCk)
          clear CSk CNk CWk BEk AHk HCk HI sl
          generalize cutTo (a1, a2, a3) (d1, d2, d3) k wl[k].cs wl[k].cs.length = ln at *
          by_cases hz : ln = []
          · subst hz
            have HN2 := Lib.hid (show nsL rs = rowsTo (a1, a2, a3) (d1, d2, d3) (wl.map tw) (k + 1) by rw [R1.out, HN.out]; simp)
            clear R1
            go_wp2_with fail
            go_roundw
            case rel => exact ⟨k + 1, rs, by omega, by go_num, HO, HN2, ZLEN⟩
            case measure => simp [intOf]; omega
          · have hz64 : 0 < (ln.length : Int) := by have := List.length_pos_iff.2 hz; omega
            have hz65 : 0 < ln.length := List.length_pos_iff.2 hz
            obtain ⟨v', w4, hr, ho⟩ := HO.out.put ⟨ln, Al, cl⟩ SL.out TY.out (by have := LR.out; omega) 27
            have HN2 := Lib.hid (show nsL (rs ++ [⟨ln, Al, cl⟩]) = rowsTo (a1, a2, a3) (d1, d2, d3) (wl.map tw) (k + 1) by rw [R1.out, if_neg hz, ← HN.out]; simp [nsL])
            have HO2 := Lib.hid ho
            have hz := Lib.hid hz
            clear R1 HO ho SL TY
            unfold riV at hr
            dsimp only at hr
            go_wp2_with (first | (at_builtin; refine wpList_ran rfl _ _ rfl hr ?_) | fail)
            go_roundw
            case rel => exact ⟨k + 1, rs ++ [⟨ln, Al, cl⟩], by omega, by go_num, HO2, HN2, Lib.hid (fun x hx => by
              rcases List.mem_append.1 hx with h | h
              · exact ZLEN.out x h
              · rw [List.mem_singleton.1 h]; exact LZ.out)⟩
            case measure => simp [intOf]; omega
    · have hkn : k = wl.length := by omega
      subst hkn
      have hk64 : ¬ (wl.length : Int) < (wl.length : Int) := by omega
      have q0 : wo.cell? ⟨b1, 0, none⟩ = some (.int .i64 d1) := (KB.out.ext HO.out.2.1).cell 0
      have CQ := Lib.hid (show cutL (a1, a2, a3) (d1, d2, d3) (wl.map tw) = if nsL rs ≠ [] ∧ hyB (d1, d2, d3) = true then putH (nsL rs) else nsL rs by rw [CV.out, HN.out])
      have RN := Lib.hid (RL.out wl.length)
      have LR := Lib.hid (show rs.length ≤ 110 by have h := congrArg List.length HN.out; simp [nsL] at h; have := RN.out; omega)
      clear CV RS RL GD CS CN CW0 BE AH HC SW
      rcases List.eq_nil_or_concat rs with hz | ⟨rs', z, hz⟩
      · subst hz
        obtain ⟨A7, c7, rfl, _⟩ := HO.out.seen
        have e0 : (if nsL ([] : List RI) ≠ [] ∧ hyB (d1, d2, d3) = true then putH (nsL []) else nsL []) = [] := by simp [nsL]
        have CE := Lib.hid (CQ.out.trans e0)
        clear CQ e0
        go_wp2_with fail
        go_ret
        exact ⟨_, [], rfl, OwnR.down X0.out HO.out, CE.out.symm⟩
      · rw [List.concat_eq_append] at hz
        subst hz
        obtain ⟨g, cap, rfl, c0, f0⟩ := HO.out.form
        have hp : 0 < (rs'.length : Int) + 1 := by omega
        have wl1 : IntKind.i64.wrap (rs'.length : Int) = (rs'.length : Int) := IntWalk.i64_in _ (by have := LR.out; simp at this; omega)
        have hne : nsL (rs' ++ [z]) ≠ [] := by simp [nsL]
        by_cases hh : hyB (d1, d2, d3) = true
        · have CE := Lib.hid (CQ.out.trans (if_pos ⟨hne, hh⟩))
          clear CQ
          have hg : g < wo.heap.size := World.block_lt_of_cell? wo _ c0
          have zz := HO.out.2.2 z (by simp)
          have SZ := Lib.hid zz.1
          have E1 := Lib.hid (OwnI.empty (Ext.refl wo))
          have ZL := Lib.hid (ZLEN.out z (by simp))
          obtain ⟨v2, w2, r2, o2⟩ := E1.out.puts z.A z.ns z.ns.length z.c (SZ.out.ext ((Ext.refl wo).alloc _)) rfl (by have := ZL.out; simp; omega) 36
          obtain ⟨v3, w3, r3, o3⟩ := o2.put 45 (by have := ZL.out; simp; omega) 36
          have ES := Lib.hid (show ([] : List Int) ++ z.ns ++ [45] = z.ns ++ [45] by simp)
          rw [ES.out] at o3
          obtain ⟨A3, c3, rfl, s3, _⟩ := o3.seen
          have HO3 := HO.out.over o3.2
          obtain ⟨g', cap', eg, c3', f3'⟩ := HO3.form
          simp only [Value.slice.injEq, Option.some.injEq, Addr.mk.injEq, true_and, and_true] at eg
          obtain ⟨rfl, rfl⟩ := eg
          have LAST := Lib.hid (OwnR.last HO3 ⟨z.ns ++ [45], A3, c3⟩ s3 (OwnI.typed o3))
          unfold riV at c0 c3' LAST
          dsimp only at LAST
          have e45 : (z.ns ++ [45]).length = z.ns.length + 1 := by simp
          rw [e45] at LAST
          clear e45
          have PH := Lib.hid (show nsL (rs' ++ [⟨z.ns ++ [45], A3, c3⟩]) = putH (nsL (rs' ++ [z])) by simp [nsL, putH])
          have d2 : d1 = 2 ∨ d1 = 3 := by rw [HY.out] at hh; simpa using hh
          clear zz SZ E1 ZL o2 o3 s3 HO3 ES HN LR hne hh HY KA KB
          rcases d2 with rfl | rfl
          · go_wp2_with (first | (at_builtin; refine wpList_ran rfl _ _ rfl r2 ?_) | (at_builtin; refine wpList_ran rfl _ _ rfl r3 ?_) | fail)
            go_ret
            exact ⟨_, _, rfl, OwnR.down X0.out LAST.out, PH.out.trans CE.out.symm⟩
          · go_wp2_with (first | (at_builtin; refine wpList_ran rfl _ _ rfl r2 ?_) | (at_builtin; refine wpList_ran rfl _ _ rfl r3 ?_) | fail)
            go_ret
            exact ⟨_, _, rfl, OwnR.down X0.out LAST.out, PH.out.trans CE.out.symm⟩
        · have CE := Lib.hid (CQ.out.trans (if_neg (fun h => hh h.2)))
          clear CQ
          have d2 : ¬ d1 = 2 ∧ ¬ d1 = 3 := by rw [HY.out] at hh; simpa using hh
          have k2 : (d1 == 2) = false := by simpa using d2.1
          have k3 : (d1 == 3) = false := by simpa using d2.2
          clear HN LR hne hh HY KA KB d2 c0 f0
          go_wp2_with fail
          go_ret
          exact ⟨_, _, rfl, OwnR.down X0.out HO.out, CE.out.symm⟩
end L17
end Go.Proofs.Ytmmgmcfhlhghoaa

