/- PieceBack: whichever of a paragraph's breaks lines end at, their pieces, put together again, are the words, whatever calls answer so. -/
import Derived.Test.YtmmgmcfhlhghoaaGreatDoorAwake17
import Derived.Test.YtmmgmcfhlhghoaaGreatDoorLnS17
import Derived.Test.YtmmgmcfhlhghoaaGreatDoorBackQ17
import Derived.Test.YtmmgmcfhlhghoaaGreatDoorBackS17
import Derived.Test.YtmmgmcfhlhghoaaGreatDoorPar16
import Derived.Test.YtmmgmcfhlhghoaaGreatDoorGE16
import Derived.Test.YtmmgmcfhlhghoaaGreatDoorGG16
import Derived.Deep.RegionHeld3
import Derived.BigQuiet
import Derived.Deep.CutBlock
import Derived.Deep.DeepCutAuto
namespace Go.Proofs.YtmmgmcfhlhghoaaGreatDoor
open Go.RowKit
open Go.Lib hiding intOf
namespace PieceBack
open L10 (TN tn patB rd patsB fewD fewp_any few_len)
open L11 (NewQ new_yes new_no TrieAt)
open L12 (St)
open L13 (TW tw checkB rfew_any)
open L14 (LayD LayOk layC layV mayL Wide wpList_getW rg14)
open L16 L17

/-- The last break that a line ended at, ahead of break j. -/
def LastK (rl : List Brk) (j : Nat) (a : Brk) : Prop := ∃ q, ∃ h : q < rl.length, q < j ∧ a = rl[q] ∧ (j = rl.length → q + 1 = rl.length)
set_option maxRecDepth 100000 in
set_option maxHeartbeats 8000000 in
theorem all (PA : Par) (PI : Pie) (D : PatsD) (P : PatsP) (okp : PatsOk D P) (WA : Option Addr) (wl : List CW) (d : Nat) (hwd : wl.length ≤ d) (hdm : d ≤ maxLen) (wok : ∀ x ∈ wl, x.Ok) (tk : Int) (w : World) (sn : SeenPats w D P) (sw : SeenC w WA wl) (hT : Home w) :
    Calls Tryz.prog 3 #[patsV D P, .slice WA wl.length d, .int .u64 tk] w (Ret w (.bool true)) := by
  obtain ⟨W1, hW1⟩ : ∃ W1, W1 = w.alloc (.cells #[.slice P.x D.l.length P.c, .slice P.y D.m.length P.d] 25) := ⟨_, rfl⟩
  have x0 : Ext w W1 := by rw [hW1]; exact (Ext.refl _).alloc _
  have KP := Lib.hid (show Blk W1 w.heap.size 25 [.slice P.x D.l.length P.c, .slice P.y D.m.length P.d] by rw [hW1]; exact Blk.lit _ _ _ _ rfl)
  have X0 := Lib.hid x0
  have AW := Lib.hid (awake_any PI W1)
  generalize hf1 : fewD D = f1 at *
  generalize hf3 : L13.fewB (wl.map tw) = f3 at *
  generalize hpb : patsB (rd D) = pb at *
  have FEW1 := Lib.hid (fun w' (x : Ext W1 w') => show Calls Tryz.prog 5 #[.agg #[.slice P.x D.l.length P.c, .slice P.y D.m.length P.d]] w' (Ret w' (.bool f1)) from hf1 ▸ fewp_any D P w' (sn.ext (x0.trans x)))
  have FEW3 := Lib.hid (fun w' (x : Ext W1 w') => show Calls Tryz.prog 6 #[.slice WA wl.length d] w' (Ret w' (.bool f3)) from hf3 ▸ rfew_any WA wl wl.length d w' (sw.ext (x0.trans x)) rfl)
  have FL1 := Lib.hid (fun h : f1 = true => few_len (hf1.trans h))
  have NN := Lib.hid (fun (h1 : f1 = true) (h : pb = false) w' (x : Ext W1 w') => show Calls Tryz.prog 7 #[.agg #[.slice P.x D.l.length P.c, .slice P.y D.m.length P.d]] w' (Ret w' (.tuple #[.pointer none, .int .i64 100])) from
    new_no D P okp.li okp.mi w' (sn.ext (x0.trans x)) (by have := (few_len (hf1.trans h1)).1; omega) (by have := (few_len (hf1.trans h1)).2.1; omega) (hpb.trans h))
  have NY := Lib.hid (fun (h1 : f1 = true) (h : pb = true) w' (x : Ext W1 w') => show Calls Tryz.prog 7 #[.agg #[.slice P.x D.l.length P.c, .slice P.y D.m.length P.d]] w' (NewQ w' (D.l.map tn)) from
    new_yes D P okp.li okp.mi w' (sn.ext (x0.trans x)) (by have := (few_len (hf1.trans h1)).1; omega) (by have := (few_len (hf1.trans h1)).2.1; omega) (hpb.trans h))
  have HW1 := Lib.hid hW1
  obtain ⟨b0, hb0⟩ : ∃ b0, w.heap.size = b0 := ⟨_, rfl⟩
  rw [hb0] at KP
  have H0 := Lib.hid hb0
  have SN := Lib.hid sn
  have SW := Lib.hid sw
  have HT := Lib.hid hT
  have OKP := Lib.hid okp
  have WOK := Lib.hid wok
  have HWD := Lib.hid hwd
  have HDM := Lib.hid hdm
  have S := Lib.hid PA
  have SP := Lib.hid PI
  clear hW1 x0 hb0 sn sw hT okp wok hwd hdm hf1 hf3 hpb PA PI
  unfold patsV
  go_enter Tryz.func3, Tryz.ntmps3
  go_upto_region 1 with (fail)
  rw [← HW1.out, H0.out]
  clear HW1 H0
  go_wp2_with fail
  refine AW.out.mono ?_
  rintro e w1 ⟨rfl, x1⟩
  have X1 := Lib.hid x1
  have p0 : w1.cell? ⟨b0, 0, none⟩ = some (.slice P.x D.l.length P.c) := (KP.out.ext X1.out).cell 0
  have p1 : w1.cell? ⟨b0, 1, none⟩ = some (.slice P.y D.m.length P.d) := (KP.out.ext X1.out).cell 1
  clear x1 AW
  go_wp2_with fail
  refine (FEW1.out w1 X1.out).mono ?_
  rintro e w2 ⟨rfl, x2⟩
  have X2 := Lib.hid (X1.out.trans x2)
  clear x2 X1 FEW1 p0 p1
  cases f1 with
  | false =>
    clear NN NY FL1
    go_wp2_with fail
    go_ret
    exact ⟨rfl, X0.out.trans X2.out⟩
  | true =>
  have FM1 := Lib.hid (FL1.out rfl)
  have NN1 := Lib.hid (NN.out rfl)
  have NY1 := Lib.hid (NY.out rfl)
  clear FL1 NN NY
  go_wp2_with fail
  refine (FEW3.out w2 X2.out).mono ?_
  rintro e w3 ⟨rfl, x3⟩
  have X3 := Lib.hid (X2.out.trans x3)
  clear x3 X2 FEW3
  cases f3 with
  | false =>
    clear NN1 NY1
    go_wp2_with fail
    go_ret
    exact ⟨rfl, X0.out.trans X3.out⟩
  | true =>
  have p0 : w3.cell? ⟨b0, 0, none⟩ = some (.slice P.x D.l.length P.c) := (KP.out.ext X3.out).cell 0
  have p1 : w3.cell? ⟨b0, 1, none⟩ = some (.slice P.y D.m.length P.d) := (KP.out.ext X3.out).cell 1
  cases pb with
  | false =>
    have NO := Lib.hid (NN1.out rfl w3 X3.out)
    clear NN1 NY1
    go_wp2_with fail
    refine NO.out.mono ?_
    rintro e w5 ⟨rfl, x5⟩
    go_wp2_with fail
    go_ret
    exact ⟨rfl, X0.out.trans (X3.out.trans x5)⟩
  | true =>
  have NEW := Lib.hid (NY1.out rfl w3 X3.out)
  clear NN1 NY1
  go_wp2_with fail
  refine NEW.out.mono ?_
  rintro e w5 hq
  obtain ⟨B, rfl, s5, x5, _⟩ := St.new X3.out hq
  have S5 := Lib.hid s5
  have X5 := Lib.hid (X3.out.trans x5)
  clear hq s5 x5 NEW p0 p1 X3
  have OKX := Lib.hid (show ∀ x ∈ D.m, x.Ok ∧ x.ns.length ≤ 900000 from fun x hx => ⟨OKP.out.mi x hx, by have := (FM1.out.2.2 x (List.mem_append_right _ hx)).2; omega⟩)
  have C1 := S.out.brC W1 w5 B (D.l.map tn) S5.out P.y D.m D.m.length P.d rfl (by have := FM1.out.2.1; omega) OKX.out D16 none 0 d16_ok WA wl wl.length d rfl HWD.out HDM.out WOK.out (fun w' x => let y := X0.out.trans (st_old S5.out x); ⟨SN.out.m.ext y, fun i hi => absurd hi (Nat.not_lt_zero _), SW.out.ext y, HT.out.ext y⟩) true
  rw [d16_cells] at C1
  have C1 := Lib.hid C1
  have p1 : w5.cell? ⟨b0, 1, none⟩ = some (.slice P.y D.m.length P.d) := (KP.out.ext X5.out).cell 1
  have CS := Lib.hid (brks_cases (D.l.map tn) (D.m.map tn) D16 (wl.map tw) true)
  generalize hR : brksA (D.l.map tn) (D.m.map tn) D16 (wl.map tw) true = r at *
  obtain ⟨rl, re⟩ := r
  have CT := Lib.hid (show (rl = [] ∧ re ≠ 0) ∨ (re = 0 ∧ checkB (wl.map tw) = true ∧ rl = allL (D.l.map tn) (D.m.map tn) (D16.v 7) (D16.v 8) true (wl.map tw) ∧ rl.length ≤ 200) by
    rcases CS.out with ⟨_, h⟩ | ⟨_, _, h⟩ | ⟨_, _, _, h⟩ | ⟨h1, hm, h2, h⟩
    · exact .inl ⟨congrArg Prod.fst h, by rw [show re = 130 from congrArg Prod.snd h]; decide⟩
    · exact .inl ⟨congrArg Prod.fst h, by rw [show re = 140 from congrArg Prod.snd h]; decide⟩
    · exact .inl ⟨congrArg Prod.fst h, by rw [show re = 160 from congrArg Prod.snd h]; decide⟩
    · have e := congrArg Prod.fst h
      dsimp only at e
      exact .inr ⟨congrArg Prod.snd h, h1, e, by rw [e]; exact h2⟩)
  clear hR CS
  go_wp2_with fail
  refine C1.out.mono ?_
  rintro e w6 ⟨s6, _, A6, c6, rfl, k6⟩
  have X6 := Lib.hid (X0.out.trans s6.x)
  have K6 := Lib.hid k6.1
  dsimp only at K6
  clear C1 s6 k6 OKX p1 X5 S5
  rcases CT.out with ⟨hr, he⟩ | ⟨hr, hcb, hal, hlen⟩
  · subst hr
    have k1 : (re != 0) = true := by simpa using he
    have k2 : (re == 0) = false := by simpa using he
    clear CT
    go_wp2_with fail
    go_ret
    exact ⟨rfl, X6.out⟩
  subst hr
  have STD := Lib.hid (show ∀ b ∈ rl, stB (wl.map tw) b = true from fun b hb => all_stand hcb (by rw [← hal]; exact hb))
  have PRW := Lib.hid (show rl.Pairwise fun a b => befB a b = true by rw [hal]; exact all_rises _ _ _ _ _ _)
  have R0 := Lib.hid (show ∃ t, rl = (0, 0, 0) :: t from ⟨_, hal⟩)
  have h1w : 1 ≤ (wl.map tw).length := by
    have h := hcb
    simp only [checkB, Bool.and_eq_true, decide_eq_true_eq] at h
    omega
  have LST := Lib.hid (show ∃ pre e, rl = pre ++ [e] ∧ e.1 = 5 by
    obtain ⟨pre, e, h1, h2, _⟩ := all_last (D.l.map tn) (D.m.map tn) (D16.v 7) (D16.v 8) true h1w
    exact ⟨pre, e, hal.trans h1, h2⟩)
  have L2 := Lib.hid (show 2 ≤ rl.length by
    obtain ⟨t, h1⟩ := R0.out
    obtain ⟨pre, e, h2, h3⟩ := LST.out
    rcases pre with _ | ⟨x, pre⟩
    · rw [h1] at h2
      simp only [List.nil_append, List.cons.injEq] at h2
      rw [← h2.1] at h3
      cases h3
    · rw [h2]; simp)
  have LEND := Lib.hid (fun (q : Nat) (h : q < rl.length) (e : q + 1 = rl.length) => show rl[q].1 = 5 by
    obtain ⟨pre, e5, h2, h3⟩ := LST.out
    have h4 : q = pre.length := by rw [h2] at e; simp at e; omega
    subst h4
    simp only [h2]
    simpa using h3)
  have LINE := Lib.hid (fun (q j : Nat) (hq : q < rl.length) (hj : j < rl.length) (h : q < j) => line_any (STD.out _ (List.getElem_mem hq)) (STD.out _ (List.getElem_mem hj)) (List.pairwise_iff_getElem.1 PRW.out q j hq hj h))
  have E0 : rl[0]'(Nat.lt_of_lt_of_le (by decide) L2.out) = (0, 0, 0) := by
    obtain ⟨t, h1⟩ := R0.out
    simp [h1]
  have z64 : (rl.length : Int) ≤ 200 := by omega
  have z65 : 2 ≤ (rl.length : Int) := by have := L2.out; omega
  have w64 : (wl.length : Int) ≤ 110 := by
    have h := hcb
    simp only [checkB, Bool.and_eq_true, decide_eq_true_eq, List.length_map] at h
    omega
  have WFT := Lib.hid (words_fit hcb)
  obtain ⟨ad, rfl, c0, c1, c2⟩ := K6.out.get (k := 0) (Nat.lt_of_lt_of_le (by decide) L2.out)
  rw [E0] at c0 c1 c2
  have c0 : w6.cell? ad = some (.int .i64 0) := by simpa [Addr.add] using c0
  have c1 : w6.cell? ⟨ad.block, ad.off + 1, none⟩ = some (.int .i64 0) := by simpa [Addr.add] using c1
  have c2 : w6.cell? ⟨ad.block, ad.off + 2, none⟩ = some (.int .i64 0) := by simpa [Addr.add] using c2
  have EZ := Lib.hid E0
  clear E0 hal hcb CT PRW R0 LST h1w hlen
  dsimp only
  obtain ⟨w7, hw7⟩ : ∃ w7, w7 = w6.alloc (.cells #[.int .i64 0, .int .i64 0, .int .i64 0] 43) := ⟨_, rfl⟩
  have x7 : Ext w6 w7 := by rw [hw7]; exact (Ext.refl _).alloc _
  have LS0 := Lib.hid (show LnS w6 w7 w6.heap.size (.slice none 0 0) [] (.slice none 0 0) [] (0, 0, 0) from LnS.new x7 (Nat.le_refl _) (by rw [hw7]; exact Blk.lit _ _ _ _ rfl))
  have HW7 := Lib.hid hw7
  obtain ⟨bL, hbL⟩ : ∃ b, w6.heap.size = b := ⟨_, rfl⟩
  rw [hbL] at LS0
  have HBL := Lib.hid hbL
  clear hw7 x7 hbL
  go_upto_region 13 with (fail)
  rw [← HW7.out, HBL.out]
  clear HW7 HBL c0 c1 c2
  go_wp2_with fail
  go_loopw [12, 13, 15] (fun vl ve i wr => ∃ (j : Nat) (LS : List RR) (ES : List Brk) (a : Brk), 1 ≤ j ∧ j ≤ rl.length ∧ i = .int .i64 j ∧ Hid (LnS w6 wr bL vl LS ve ES a) ∧ Hid (Upto (wl.map tw) (nnL LS) ES a) ∧ Hid (LastK rl j a) ∧ Hid (LS.length < j) ∧ Hid (∀ x ∈ LS, ∀ y ∈ x.rs, y.ns.length ≤ y.c)) (fun _ _ i _ => rl.length - (intOf i).toNat)
  case atStart =>
    exact ⟨1, [], [], (0, 0, 0), Nat.le_refl _, by have := L2.out; omega, rfl, LS0, Lib.hid (upto_start _), Lib.hid ⟨0, Nat.lt_of_lt_of_le (by decide) L2.out, by decide, EZ.out.symm, fun h => by omega⟩, Lib.hid (by decide), Lib.hid (fun x hx => by simp at hx)⟩
  case round =>
    clear LS0
    obtain ⟨j, LS, ES, a, hj1, hj2, rfl, HL, HU, HK, HC, CP⟩ := hrel
    obtain ⟨wo, rfl⟩ : ∃ wo : World, wo = wr := ⟨_, rfl⟩
    by_cases hjz : j < rl.length
    · have hj64 : (j : Int) < (rl.length : Int) := by omega
      have wl1 : IntKind.i64.wrap ((rl.length : Int) - 1) = (rl.length : Int) - 1 := IntWalk.i64_in _ (by omega)
      obtain ⟨r, hr⟩ : ∃ r : Nat, r = j % 60 := ⟨_, rfl⟩
      have r60 : r < 60 := by omega
      have T1 : Int.tmod (j : Int) 60 = (r : Int) := by rw [hr]; rfl
      have T2 : (j : Int) % 60 = (r : Int) := by rw [hr]; omega
      have T3 : IntKind.u64.wrap (r : Int) = (r : Int) := IntWalk.u64_in _ (by omega)
      have HR := Lib.hid hr
      clear hr
      go_upto_region 16 with (fail)
      go_cut [91] from 78 to 91 (fun v wx => ∃ b : Bool, v = .bool b ∧ wx = wo ∧ Hid (b = true → j + 1 < rl.length))
      case first =>
        by_cases hl : j + 1 < rl.length
        · have hl64 : (j : Int) < (rl.length : Int) - 1 := by omega
          go_wp2_with fail
          go_meet
          exact ⟨_, rfl, rfl, Lib.hid (fun _ => hl)⟩
        · have hl64 : ¬ (j : Int) < (rl.length : Int) - 1 := by omega
          go_wp2_with fail
          go_meet
          exact ⟨false, rfl, rfl, Lib.hid (fun h => by cases h)⟩
      case rest =>
      obtain ⟨sk, rfl, hwc, SK⟩ := hcut
      subst hwc
      obtain ⟨wo, rfl⟩ : ∃ wo : World, wo = wc := ⟨_, rfl⟩
      cases sk with
      | true =>
        have hl := SK.out rfl
        have HK2 := Lib.hid (show LastK rl (j + 1) a by
          obtain ⟨q, h, h1, h2, _⟩ := HK.out
          exact ⟨q, h, by omega, h2, fun e => by omega⟩)
        have HC2 := Lib.hid (show LS.length < j + 1 by have := HC.out; omega)
        have hl := Lib.hid hl
        go_wp2_with fail
        go_roundw
        case rel => exact ⟨j + 1, LS, ES, a, by omega, by omega, by go_num, HL, HU, HK2, HC2, CP⟩
        case measure => simp [intOf]; omega
      | false =>
        clear SK HR T1 T2 T3 wl1
        obtain ⟨ad', ea, c0, c1, c2⟩ := (K6.out.ext HL.out.x).get hjz
        cases ea
        have LN := Lib.hid (show Line (wl.map tw) a rl[j] (cutL a rl[j] (wl.map tw)) by
          obtain ⟨q, h, h1, h2, _⟩ := HK.out
          rw [h2]
          exact LINE.out q j h hjz h1)
        have GB := Lib.hid (fun (w' : World) (x : Ext w6 w') => (K6.out.ext x).get hjz)
        have HKN := Lib.hid (show LastK rl (j + 1) rl[j] from ⟨j, hjz, by omega, rfl, fun e => e⟩)
        clear HK
        generalize rl[j] = b at *
        generalize cutL a b (wl.map tw) = x at *
        obtain ⟨a1, a2, a3⟩ := a
        obtain ⟨k1, k2, k3⟩ := b
        have HX := Lib.hid HL.out.x
        have q0 : wo.cell? ⟨bL, 0, none⟩ = some (.int .i64 a1) := HL.out.box.cell 0
        have q1 : wo.cell? ⟨bL, 1, none⟩ = some (.int .i64 a2) := HL.out.box.cell 1
        have q2 : wo.cell? ⟨bL, 2, none⟩ = some (.int .i64 a3) := HL.out.box.cell 2
        have hjz := Lib.hid hjz
        dsimp only at c0 c1 c2
        go_wp2_with fail
        refine wp_region_noPanic ?_
        have xd : Ext wo wo.drew := (Ext.refl wo).drew
        refine wp_region_held_drew (S := fun w' => Ext wo w') (by kernel_rfl) xd (fun h0 => ?_)
        obtain ⟨w9, hw9⟩ : ∃ w9, w9 = wo.drew := ⟨_, rfl⟩
        rw [← hw9] at xd h0 ⊢
        clear hw9
        have C9 := SP.out.piC WA wl wl.length d (a1, a2, a3) (k1, k2, k3) w9 (SW.out.ext (X6.out.trans (HX.out.trans xd))) rfl HWD.out HDM.out WOK.out
        rw [LN.out.pi] at C9
        have C9 := Lib.hid C9
        unfold brkV at C9
        refine wpAnyH_take (i := 0) (oi := ?_) (v := ?_) ?_ (by kernel_rfl) (by kernel_rfl) (by kernel_rfl) ?_ ?_ h0 ?_
        rotate_left 2
        · simp only [List.getElem?_toArray, List.getElem?_cons_zero]; rfl
        · exact fun _ _ _ h => h
        · refine Or.inl ⟨by rfl, ?_⟩
          intro w hSw
          (try dsimp only at hSw)
          go_simp
          (try with_reducible rfl)
        (try simp only [Act.put, List.setIfInBounds_toArray, List.set_cons_zero, List.set_cons_succ])
        refine wpAnyH_take (i := 1) (oi := ?_) (v := ?_) ?_ (by kernel_rfl) (by kernel_rfl) (by kernel_rfl) ?_ ?_ h0 ?_
        rotate_left 2
        · simp only [List.getElem?_toArray, List.getElem?_cons_zero, List.getElem?_cons_succ]; rfl
        · exact fun _ _ _ h => h
        · refine Or.inl ⟨by rfl, ?_⟩
          intro w hSw
          (try dsimp only at hSw)
          have q0 := Ext.at hSw q0
          have q1 := Ext.at hSw q1
          have q2 := Ext.at hSw q2
          go_simp
          (try with_reducible rfl)
        (try simp only [Act.put, List.setIfInBounds_toArray, List.set_cons_zero, List.set_cons_succ])
        refine wpAnyH_take (i := 2) (oi := ?_) (v := ?_) ?_ (by kernel_rfl) (by kernel_rfl) (by kernel_rfl) ?_ ?_ h0 ?_
        rotate_left 2
        · simp only [List.getElem?_toArray, List.getElem?_cons_zero, List.getElem?_cons_succ]; rfl
        · exact fun _ _ _ h => h
        · refine Or.inl ⟨by rfl, ?_⟩
          intro w hSw
          (try dsimp only at hSw)
          go_simp
          (try with_reducible rfl)
        (try simp only [Act.put, List.setIfInBounds_toArray, List.set_cons_zero, List.set_cons_succ])
        refine wpAnyH_take (i := 3) (oi := ?_) (v := ?_) ?_ (by kernel_rfl) (by kernel_rfl) (by kernel_rfl) ?_ ?_ h0 ?_
        rotate_left 2
        · simp only [List.getElem?_toArray, List.getElem?_cons_zero, List.getElem?_cons_succ]; rfl
        · exact fun _ _ _ h => h
        · refine Or.inl ⟨by rfl, ?_⟩
          intro w hSw
          (try dsimp only at hSw)
          go_simp
          (try with_reducible rfl)
        (try simp only [Act.put, List.setIfInBounds_toArray, List.set_cons_zero, List.set_cons_succ])
        refine wpAnyH_take (i := 4) (oi := ?_) (v := ?_) ?_ (by kernel_rfl) (by kernel_rfl) (by kernel_rfl) ?_ ?_ h0 ?_
        rotate_left 2
        · simp only [List.getElem?_toArray, List.getElem?_cons_zero, List.getElem?_cons_succ]; rfl
        · exact fun _ _ _ h => h
        · refine Or.inl ⟨by rfl, ?_⟩
          intro w hSw
          (try dsimp only at hSw)
          go_simp
          (try with_reducible rfl)
        (try simp only [Act.put, List.setIfInBounds_toArray, List.set_cons_zero, List.set_cons_succ])
        refine wpAnyH_take (i := 5) (oi := ?_) (v := ?_) ?_ (by kernel_rfl) (by kernel_rfl) (by kernel_rfl) ?_ ?_ h0 ?_
        rotate_left 2
        · simp only [List.getElem?_toArray, List.getElem?_cons_zero, List.getElem?_cons_succ]; rfl
        · exact fun _ _ _ h => h
        · refine Or.inl ⟨by rfl, ?_⟩
          intro w hSw
          (try dsimp only at hSw)
          have c0 := Ext.at hSw c0
          have c1 := Ext.at hSw c1
          have c2 := Ext.at hSw c2
          go_simp
          (try with_reducible rfl)
        (try simp only [Act.put, List.setIfInBounds_toArray, List.set_cons_zero, List.set_cons_succ])
        refine wpAnyH_ready (rs := [6]) (by kernel_rfl) (by simp) ?_
        refine AllReadyH.cons (o := ?_) ?_ (fun K hK => ?_) AllReadyH.nil
        rotate_left
        · simp only [List.getElem?_toArray, List.getElem?_cons_zero, List.getElem?_cons_succ]; rfl
        go_simp
        refine C9.out.mono ?_
        rintro e w10 ⟨x10, A', rs, c', rfl, rd, hn⟩
        have RD := Lib.hid rd
        have RN := Lib.hid hn
        have HL := Lib.hid (HL.out.ext (xd.trans x10))
        refine hK.out _ _ (xd.trans x10) (fun h1 => ?_)
        clear hK K q0 q1 q2 c0 c1 c2 x10 rd hn C9 HX
        dsimp only at h1 ⊢
        (try simp only [Act.put, List.setIfInBounds_toArray, List.set_cons_zero, List.set_cons_succ])
        refine wpAnyH_take (i := 7) (oi := ?_) (v := ?_) ?_ (by kernel_rfl) (by kernel_rfl) (by kernel_rfl) ?_ ?_ h1 ?_
        rotate_left 2
        · simp only [List.getElem?_toArray, List.getElem?_cons_zero, List.getElem?_cons_succ]; rfl
        · exact fun _ _ _ h => h
        · refine Or.inl ⟨by rfl, ?_⟩
          intro w hSw
          (try dsimp only at hSw)
          go_simp
          (try with_reducible rfl)
        (try simp only [Act.put, List.setIfInBounds_toArray, List.set_cons_zero, List.set_cons_succ])
        refine wpAnyH_take (i := 8) (oi := ?_) (v := ?_) ?_ (by kernel_rfl) (by kernel_rfl) (by kernel_rfl) ?_ ?_ h1 ?_
        rotate_left 2
        · simp only [List.getElem?_toArray, List.getElem?_cons_zero, List.getElem?_cons_succ]; rfl
        · exact fun _ _ _ h => h
        · refine Or.inl ⟨by rfl, ?_⟩
          intro w hSw
          (try dsimp only at hSw)
          go_simp
          (try with_reducible rfl)
        (try simp only [Act.put, List.setIfInBounds_toArray, List.set_cons_zero, List.set_cons_succ])
        refine wpAnyH_take (i := 9) (oi := ?_) (v := ?_) ?_ (by kernel_rfl) (by kernel_rfl) (by kernel_rfl) ?_ ?_ h1 ?_
        rotate_left 2
        · simp only [List.getElem?_toArray, List.getElem?_cons_zero, List.getElem?_cons_succ]; rfl
        · exact fun _ _ _ h => h
        · refine Or.inl ⟨by rfl, ?_⟩
          intro w hSw
          (try dsimp only at hSw)
          go_simp
          (try with_reducible rfl)
        (try simp only [Act.put, List.setIfInBounds_toArray, List.set_cons_zero, List.set_cons_succ])
        refine wpAnyH_take (i := 10) (oi := ?_) (v := ?_) ?_ (by kernel_rfl) (by kernel_rfl) (by kernel_rfl) ?_ ?_ h1 ?_
        rotate_left 2
        · simp only [List.getElem?_toArray, List.getElem?_cons_zero, List.getElem?_cons_succ]; rfl
        · exact fun _ _ _ h => h
        · refine Or.inl ⟨by rfl, ?_⟩
          intro w hSw
          (try dsimp only at hSw)
          go_simp
          (try with_reducible rfl)
        (try simp only [Act.put, List.setIfInBounds_toArray, List.set_cons_zero, List.set_cons_succ])
        refine wpAnyH_take (i := 11) (oi := ?_) (v := ?_) ?_ (by kernel_rfl) (by kernel_rfl) (by kernel_rfl) ?_ ?_ h1 ?_
        rotate_left 2
        · simp only [List.getElem?_toArray, List.getElem?_cons_zero, List.getElem?_cons_succ]; rfl
        · exact fun _ _ _ h => h
        · refine Or.inl ⟨by rfl, ?_⟩
          intro w hSw
          (try dsimp only at hSw)
          go_simp
          (try with_reducible rfl)
        (try simp only [Act.put, List.setIfInBounds_toArray, List.set_cons_zero, List.set_cons_succ])
        refine wpAnyH_done (by kernel_rfl) ?_ _
        refine NoPanic.normal ?_
        clear h0 h1 xd
        have hx0 : 0 < x.length := List.length_pos_iff.2 LN.out.some
        have hxz : ((x.length : Int) == 0) = false := by simp [LN.out.some]
        have x64 : (x.length : Int) ≤ 600 := by have := LN.out.long; omega
        go_wp2_with fail
        go_loopw [18] (fun i wr => ∃ (k : Nat), k ≤ x.length ∧ i = .int .i64 k ∧ wr = w10) (fun i _ => x.length - (intOf i).toNat)
        case atStart => exact ⟨0, by omega, rfl, rfl⟩
        case round =>
          obtain ⟨k, hk, rfl, hwr⟩ := hrel
          subst hwr
          obtain ⟨w10, rfl⟩ : ∃ w10 : World, w10 = wr := ⟨_, rfl⟩
          by_cases hkx : k < x.length
          · have hk64 : (k : Int) < (x.length : Int) := by omega
            have hkr : k < rs.length := by rw [nsL_len RN.out]; exact hkx
            obtain ⟨⟨ae, rfl, e0⟩, -⟩ := RD.out.1.get hkr
            have NE := Lib.hid (LN.out.full rs[k].ns (by rw [← RN.out]; exact List.mem_map_of_mem (List.getElem_mem hkr)))
            generalize rs[k] = y at *
            obtain ⟨ys, yA, yc⟩ := y
            unfold riV at e0
            dsimp only at e0 NE
            have ynz : ((ys.length : Int) == 0) = false := by simp [NE.out]
            have hkx := Lib.hid hkx
            go_wp2_with fail
            go_roundw
            case rel => exact ⟨k + 1, by have := hkx.out; omega, by go_num, by trivial⟩
            case measure => have := hkx.out; simp [intOf]; omega
          · obtain rfl : k = x.length := by omega
            have hk64 : ¬ (x.length : Int) < (x.length : Int) := by omega
            obtain ⟨v11, w11, r11, h11⟩ := HL.out.putL ⟨rs, A', c'⟩ ⟨RD.out.1, RD.out.2.2.2, RD.out.2.1⟩ (by have := HC.out; omega) 41
            unfold rrV at r11
            dsimp only at r11
            rw [nsL_len RN.out] at r11
            obtain ⟨ad', ea, c0, c1, c2⟩ := GB.out w11 h11.x
            cases ea
            have LES := Lib.hid (show ES.length < 200 by have h1 := HU.out.len; have h2 := HC.out; simp only [nnL, List.length_map] at h1; omega)
            obtain ⟨v12, w12, r12, h12⟩ := h11.putE (k1, k2, k3) (by have := LES.out; omega) 35
            obtain ⟨ad', ea, d0, d1, d2⟩ := GB.out w12 h12.x
            cases ea
            have u0 : w12.cell? ⟨bL, 0, none⟩ = some (.int .i64 a1) := h12.box.cell 0
            have u1 : w12.cell? ⟨bL, 1, none⟩ = some (.int .i64 a2) := h12.box.cell 1
            have u2 : w12.cell? ⟨bL, 2, none⟩ = some (.int .i64 a3) := h12.box.cell 2
            have v0 := h12.box.free 0
            have v1 := h12.box.free 1
            have v2 := h12.box.free 2
            have HLN := Lib.hid (show LnS w6 (((w12.setCell ⟨bL, 0, none⟩ (.int .i64 k1)).setCell ⟨bL, 1, none⟩ (.int .i64 k2)).setCell ⟨bL, 2, none⟩ (.int .i64 k3)) bL v11 (LS ++ [⟨rs, A', c'⟩]) v12 (ES ++ [(k1, k2, k3)]) (k1, k2, k3) from h12.setB (k1, k2, k3))
            have HUN := Lib.hid (show Upto (wl.map tw) (nnL (LS ++ [⟨rs, A', c'⟩])) (ES ++ [(k1, k2, k3)]) (k1, k2, k3) by
              have h := LN.out.up _ _ HU.out
              rw [show nnL (LS ++ [⟨rs, A', c'⟩]) = nnL LS ++ [x] by simp [nnL, RN.out]]
              exact h)
            have HCN := Lib.hid (show (LS ++ [(⟨rs, A', c'⟩ : RR)]).length < j + 1 by have := HC.out; simp; omega)
            have CPN := Lib.hid (show ∀ z ∈ LS ++ [(⟨rs, A', c'⟩ : RR)], ∀ y ∈ z.rs, y.ns.length ≤ y.c from fun z hz => by
              rcases List.mem_append.1 hz with hz | hz
              · exact CP.out z hz
              · rw [List.mem_singleton.1 hz]; exact RD.out.2.2.1)
            dsimp only at c0 c1 c2 d0 d1 d2 r12
            clear h11 h12 HL HU HC CP RD LN
            go_wp2_with (first | (at_builtin; refine wpList_ran rfl _ _ rfl r11 ?_) | (at_builtin; refine wpList_ran rfl _ _ rfl r12 ?_) | fail)
            go_roundw
            case rel => exact ⟨j + 1, LS ++ [⟨rs, A', c'⟩], ES ++ [(k1, k2, k3)], (k1, k2, k3), by omega, by have := hjz.out; omega, by go_num, HLN, HUN, HKN, HCN, CPN⟩
            case measure => have := hjz.out; simp [intOf]; omega
    · obtain rfl : j = rl.length := by omega
      have hj64 : ¬ (rl.length : Int) < (rl.length : Int) := by omega
      have WH := Lib.hid (show whL (nnL LS) ES = (wl.map tw).map (·.1) by
        obtain ⟨q, h, h1, h2, h3⟩ := HK.out
        have hu := HU.out
        rw [h2] at hu
        exact upto_end (STD.out _ (List.getElem_mem h)) (LEND.out q h (h3 rfl)) hu)
      have SZ := Lib.hid (show szL (nnL LS) ≤ 900000 ∧ LS.length ≤ 200 ∧ ES.length ≤ 200 by
        have h1 := HU.out.sz
        have h2 := HU.out.len
        have h3 := HC.out
        simp only [nnL, List.length_map] at h1 h2 ⊢
        omega)
      have SWo := Lib.hid (SW.out.ext (X6.out.trans HL.out.x))
      obtain ⟨AL, cL, AE, cE, rfl, rfl, sL, sE⟩ := HL.out.seen
      have SL := Lib.hid sL
      have SE := Lib.hid sE
      have X6o := Lib.hid (X6.out.trans HL.out.x)
      clear sL sE HU HK HC HL LINE LEND STD
      go_wp2_with fail
      go_loopw [19, 20] (fun v i wr => ∃ (k : Nat) (RS : List RI), k ≤ wl.length ∧ i = .int .i64 k ∧ Hid (OwnV wo wr v RS) ∧ Hid (nsL RS = ((wl.map tw).map (·.1)).take k)) (fun _ i _ => wl.length - (intOf i).toNat)
      case atStart => exact ⟨0, [], by omega, rfl, Lib.hid (OwnV.nil (Ext.refl _)), Lib.hid rfl⟩
      case round =>
        obtain ⟨k, RS, hk, rfl, HV, HR⟩ := hrel
        obtain ⟨wi, rfl⟩ : ∃ wi : World, wi = wr := ⟨_, rfl⟩
        have LR := Lib.hid (show RS.length = k by
          have h := congrArg List.length HR.out
          simp only [nsL, List.length_map, List.length_take] at h
          omega)
        by_cases hkl : k < wl.length
        · have hk64 : (k : Int) < (wl.length : Int) := by omega
          obtain ⟨⟨ae, rfl, e0, -⟩, -, -⟩ := (SWo.out.ext HV.out.2.1).get hkl
          obtain ⟨_, s1, -⟩ := SWo.out.get hkl
          obtain ⟨v', w5, hr, ho⟩ := HV.out.put ⟨wl[k].cs, wl[k].A, wl[k].c⟩ s1 (by have := LR.out; omega) 45
          have HV2 := Lib.hid ho
          have HR2 := Lib.hid (show nsL (RS ++ [⟨wl[k].cs, wl[k].A, wl[k].c⟩]) = ((wl.map tw).map (·.1)).take (k + 1) by
            rw [List.take_succ_eq_append_getElem (show k < ((wl.map tw).map (·.1)).length by simpa using hkl), ← HR.out]
            simp [nsL, tw])
          unfold riV at hr
          dsimp only at hr
          have hkl := Lib.hid hkl
          clear HV HR ho s1 LR
          generalize (⟨wl[k].cs, wl[k].A, wl[k].c⟩ : RI) = y at HV2 HR2
          go_wp2_with (first | (at_builtin; refine wpList_ran rfl _ _ rfl hr ?_) | fail)
          go_roundw
          case rel => exact ⟨k + 1, RS ++ [y], by have := hkl.out; omega, by go_num, HV2, HR2⟩
          case measure => have := hkl.out; simp [intOf]; omega
        · obtain rfl : k = wl.length := by omega
          have hk64 : ¬ (wl.length : Int) < (wl.length : Int) := by omega
          have NR := Lib.hid (show nsL RS = (wl.map tw).map (·.1) by rw [HR.out]; exact List.take_of_length_le (by simp))
          have CW := SP.out.whC AL LS LS.length cL AE ES ES.length cE wi (SL.out.ext HV.out.2.1) rfl (by have := SZ.out; omega) (SE.out.ext HV.out.2.1) rfl (by have := SZ.out; omega) CP.out SZ.out.1
          rw [WH.out] at CW
          have CW := Lib.hid CW
          have WL := Lib.hid (show ((wl.map tw).map (·.1)).length ≤ 1000000 ∧ ∀ x ∈ (wl.map tw).map (·.1), x.length ≤ 1000000 by
            refine ⟨by simp only [List.length_map]; omega, fun x hx => ?_⟩
            rw [List.map_map] at hx
            obtain ⟨y, hy, rfl⟩ := List.mem_map.1 hx
            have h := (WFT.out.2 y hy).2
            have e : ((fun x => x.1) ∘ tw) y = y.cs := rfl
            rw [e]
            omega)
          obtain ⟨AV, cV, rfl, sV⟩ := HV.out.seen
          have SV := Lib.hid sV
          have HX := Lib.hid HV.out.2.1
          have LW := Lib.hid (show RS.length = ((wl.map tw).map (·.1)).length by rw [LR.out]; simp)
          clear WH HV HR sV SL SE SWo LR WFT CP
          generalize (wl.map tw).map (·.1) = ws at *
          generalize RS.length = rsl at *
          go_wp2_with fail
          refine CW.out.mono ?_
          rintro e w8 ⟨x8, A8, r8, c8, rfl, k8, n8⟩
          have C8 := Lib.hid (same_yes (c := c8) (d := cV) k8 (SV.out.ext x8) n8 NR.out rfl LW.out WL.out.1 WL.out.2)
          have X8 := Lib.hid (HX.out.trans x8)
          clear k8 n8 x8 CW SV NR LW WL HX
          generalize ws.length = wsl at *
          go_wp2_with fail
          refine C8.out.mono ?_
          rintro e w9 ⟨rfl, x9⟩
          go_wp2_with fail
          go_ret
          exact ⟨rfl, X6o.out.trans (X8.out.trans x9)⟩
end PieceBack
end Go.Proofs.YtmmgmcfhlhghoaaGreatDoor

