/- ParaCounts: as many spaces as words less one, as many breaks by hand as words say, whatever calls answer so. Written by gen16/counts.py. -/
import Derived.Test.YtdiccmlpppkgpaaGreatDoorAwake16
import Derived.Test.YtdiccmlpppkgpaaGreatDoorCount16
import Derived.Test.YtdiccmlpppkgpaaGreatDoorGE16
import Derived.Test.YtdiccmlpppkgpaaGreatDoorGG16
import Derived.Deep.CutBlock
import Derived.Deep.DeepCutAuto
namespace Go.Proofs.YtdiccmlpppkgpaaGreatDoor
open Go.RowKit
open Go.Lib hiding intOf
namespace ParaCounts
open L10 (TN tn patB rd patsB fewD fewp_any few_len)
open L11 (NewQ new_yes new_no TrieAt)
open L12 (St)
open L13 (TW tw checkB rfew_any)
open L14 (LayD LayOk layC layV mayL Wide wpList_getW rg14)
open L16
/-- Patterns that may be: each may be. -/
theorem pats_parts {D : PatsD} (hp : patsB (rd D) = true) : D.l.length ≤ 300 ∧ ∀ x ∈ D.l, patB (tn x) = true := by
  have h1 := L10.patsB_rd D
  rw [hp] at h1
  have h2 := h1.symm
  simp only [Bool.and_eq_true, decide_eq_true_eq, List.all_eq_true] at h2
  exact ⟨by omega, h2.2.1⟩
/-- Words that may be: each may be. -/
theorem words_parts {l : List TW} (h : checkB l = true) : (1 ≤ l.length ∧ l.length ≤ 100) ∧ ∀ w ∈ l, L13.wordB w = true := by
  simp only [checkB, Bool.and_eq_true, decide_eq_true_eq, List.all_eq_true] at h
  exact ⟨h.1, h.2.1⟩
theorem cnt_take {l : List Brk} {i : Nat} (h : i < l.length) (k : Int) : cntK k (l.take (i + 1)) = cntK k (l.take i) + if l[i].1 = k then 1 else 0 := by
  rw [List.take_succ_eq_append_getElem h, cntK_append, cntK_one]
set_option maxRecDepth 100000 in
set_option maxHeartbeats 8000000 in
theorem all (PA : Par) (D : PatsD) (P : PatsP) (okp : PatsOk D P) (L : LayD) (SA : Option Addr) (sc : Nat) (lok : LayOk L sc) (WA : Option Addr) (wl : List CW) (d : Nat) (hwd : wl.length ≤ d) (hdm : d ≤ maxLen) (wok : ∀ x ∈ wl, x.Ok) (w : World) (sn : SeenPats w D P) (ls : SeenP w SA L.n L.sh) (sw : SeenC w WA wl) (hT : Home w) :
    Calls Tryz.prog 6 #[patsV D P, .agg (layC L SA sc).toArray, .slice WA wl.length d] w (Ret w (.bool true)) := by
  obtain ⟨W1, hW1⟩ : ∃ W1, W1 = (w.alloc (.cells #[.slice P.x D.l.length P.c, .slice P.y D.m.length P.d] 25)).alloc (.cells (layC L SA sc).toArray 28) := ⟨_, rfl⟩
  have x0 : Ext w W1 := by rw [hW1]; exact ((Ext.refl _).alloc _).alloc _
  have KP := Lib.hid (show Blk W1 w.heap.size 25 [.slice P.x D.l.length P.c, .slice P.y D.m.length P.d] by rw [hW1]; exact (Blk.lit _ _ _ _ rfl).ext ((Ext.refl _).alloc _))
  have KL := Lib.hid (show Blk W1 (w.heap.size + 1) 28 (layC L SA sc) by rw [hW1]; exact Blk.lit _ _ _ _ (by simp))
  have X0 := Lib.hid x0
  have AW := Lib.hid (awake_any PA W1 (hT.ext x0))
  generalize hf1 : fewD D = f1 at *
  generalize hf3 : L13.fewB (wl.map tw) = f3 at *
  generalize hpb : patsB (rd D) = pb at *
  have FEW1 := Lib.hid (fun w' (x : Ext W1 w') => show Calls Tryz.prog 9 #[.agg #[.slice P.x D.l.length P.c, .slice P.y D.m.length P.d]] w' (Ret w' (.bool f1)) from hf1 ▸ fewp_any D P w' (sn.ext (x0.trans x)))
  have FEW3 := Lib.hid (fun w' (x : Ext W1 w') => show Calls Tryz.prog 10 #[.slice WA wl.length d] w' (Ret w' (.bool f3)) from hf3 ▸ rfew_any WA wl wl.length d w' (sw.ext (x0.trans x)) rfl)
  have FL1 := Lib.hid (fun h : f1 = true => few_len (hf1.trans h))
  have NN := Lib.hid (fun (h1 : f1 = true) (h : pb = false) w' (x : Ext W1 w') => show Calls Tryz.prog 11 #[.agg #[.slice P.x D.l.length P.c, .slice P.y D.m.length P.d]] w' (Ret w' (.tuple #[.pointer none, .int .i64 100])) from
    new_no D P okp.li okp.mi w' (sn.ext (x0.trans x)) (by have := (few_len (hf1.trans h1)).1; omega) (by have := (few_len (hf1.trans h1)).2.1; omega) (hpb.trans h))
  have NY := Lib.hid (fun (h1 : f1 = true) (h : pb = true) w' (x : Ext W1 w') => show Calls Tryz.prog 11 #[.agg #[.slice P.x D.l.length P.c, .slice P.y D.m.length P.d]] w' (NewQ w' (D.l.map tn)) from
    new_yes D P okp.li okp.mi w' (sn.ext (x0.trans x)) (by have := (few_len (hf1.trans h1)).1; omega) (by have := (few_len (hf1.trans h1)).2.1; omega) (hpb.trans h))
  have PP := Lib.hid (fun h : pb = true => pats_parts (hpb.trans h))
  have HW1 := Lib.hid hW1
  obtain ⟨b0, hb0⟩ : ∃ b0, w.heap.size = b0 := ⟨_, rfl⟩
  obtain ⟨b1, hb1⟩ : ∃ b1, b0 + 1 = b1 := ⟨_, rfl⟩
  rw [hb0] at KP KL
  rw [hb1] at KL
  have H0 := Lib.hid hb0
  have H1 := Lib.hid hb1
  have SN := Lib.hid sn
  have SW := Lib.hid sw
  have LS := Lib.hid ls
  have HT := Lib.hid hT
  have OKP := Lib.hid okp
  have LOK := Lib.hid lok
  have WOK := Lib.hid wok
  have HWD := Lib.hid hwd
  have HDM := Lib.hid hdm
  have S := Lib.hid PA
  clear hW1 x0 hb0 hb1 sn sw ls hT okp lok wok hwd hdm hf1 hf3 hpb PA
  unfold patsV
  go_enter Tryz.func6, Tryz.ntmps6
  go_upto_region 1 with (fail)
  rw [← HW1.out, H0.out, H1.out]
  clear HW1 H0 H1
  go_wp2_with fail
  refine AW.out.mono ?_
  rintro e w1 ⟨rfl, x1⟩
  have X1 := Lib.hid x1
  have p0 : w1.cell? ⟨b0, 0, none⟩ = some (.slice P.x D.l.length P.c) := (KP.out.ext X1.out).cell 0
  have p1 : w1.cell? ⟨b0, 1, none⟩ = some (.slice P.y D.m.length P.d) := (KP.out.ext X1.out).cell 1
  clear x1 AW
  go_wp2_with fail
  refine (FEW1.out w1 X1.out).mono ?_
  rintro e w2 ⟨rfl, x2⟩
  have X2 := Lib.hid (X1.out.trans x2)
  clear x2 X1 FEW1 p0 p1
  cases f1 with
  | false =>
    clear NN NY FL1
    go_wp2_with fail
    go_ret
    exact ⟨rfl, X0.out.trans X2.out⟩
  | true =>
  have FM1 := Lib.hid (FL1.out rfl)
  have NN1 := Lib.hid (NN.out rfl)
  have NY1 := Lib.hid (NY.out rfl)
  clear FL1 NN NY
  have a4 : w2.cell? ⟨b1, 4, none⟩ = some (.slice SA L.n sc) := (KL.out.ext X2.out).cell 4
  go_wp2_with fail
  refine (FEW3.out w2 X2.out).mono ?_
  rintro e w3 ⟨rfl, x3⟩
  have X3 := Lib.hid (X2.out.trans x3)
  clear x3 X2 FEW3 a4
  cases f3 with
  | false =>
    clear NN1 NY1
    go_wp2_with fail
    go_ret
    exact ⟨rfl, X0.out.trans X3.out⟩
  | true =>
  have a4 : w3.cell? ⟨b1, 4, none⟩ = some (.slice SA L.n sc) := (KL.out.ext X3.out).cell 4
  by_cases hL : 100 < L.n
  · have hL64 : (100 : Int) < (L.n : Int) := by omega
    clear NN1 NY1
    go_wp2_with fail
    go_ret
    exact ⟨rfl, X0.out.trans X3.out⟩
  have hL64 : ¬ (100 : Int) < (L.n : Int) := by omega
  have p0 : w3.cell? ⟨b0, 0, none⟩ = some (.slice P.x D.l.length P.c) := (KP.out.ext X3.out).cell 0
  have p1 : w3.cell? ⟨b0, 1, none⟩ = some (.slice P.y D.m.length P.d) := (KP.out.ext X3.out).cell 1
  cases pb with
  | false =>
    have NO := Lib.hid (NN1.out rfl w3 X3.out)
    clear NN1 NY1 PP
    go_wp2_with fail
    refine NO.out.mono ?_
    rintro e w5 ⟨rfl, x5⟩
    go_wp2_with fail
    go_ret
    exact ⟨rfl, X0.out.trans (X3.out.trans x5)⟩
  | true =>
  have PQ := Lib.hid (PP.out rfl)
  have NEW := Lib.hid (NY1.out rfl w3 X3.out)
  clear NN1 NY1 PP
  go_wp2_with fail
  refine NEW.out.mono ?_
  rintro e w5 hq
  obtain ⟨B, rfl, s5, x5, _⟩ := St.new X3.out hq
  have S5 := Lib.hid s5
  have X5 := Lib.hid (X3.out.trans x5)
  clear hq s5 x5 NEW p0 p1 a4 X3
  have OKX := Lib.hid (show ∀ x ∈ D.m, x.Ok ∧ x.ns.length ≤ 900000 from fun x hx => ⟨OKP.out.mi x hx, by have := (FM1.out.2.2 x (List.mem_append_right _ hx)).2; omega⟩)
  have CA := Lib.hid (S.out.brC W1 w5 B (D.l.map tn) S5.out P.y D.m D.m.length P.d rfl (by have := FM1.out.2.1; omega) OKX.out L SA sc LOK.out WA wl wl.length d rfl HWD.out HDM.out WOK.out (fun w' x => let y := X0.out.trans (st_old S5.out x); ⟨SN.out.m.ext y, LS.out.ext y, SW.out.ext y, HT.out.ext y⟩) true)
  have KL5 := Lib.hid (KL.out.ext X5.out)
  have p1 : w5.cell? ⟨b0, 1, none⟩ = some (.slice P.y D.m.length P.d) := (KP.out.ext X5.out).cell 1
  have CS := Lib.hid (brks_cases (D.l.map tn) (D.m.map tn) L (wl.map tw) true)
  generalize brksA (D.l.map tn) (D.m.map tn) L (wl.map tw) true = r at *
  obtain ⟨rl, re⟩ := r
  have CS := Lib.hid (show (rl = [] ∧ re ≠ 0) ∨ (re = 0 ∧ checkB (wl.map tw) = true ∧ rl = allL (D.l.map tn) (D.m.map tn) (L.v 7) (L.v 8) true (wl.map tw) ∧ rl.length ≤ 200) by
    rcases CS.out with ⟨_, h⟩ | ⟨_, _, h⟩ | ⟨_, _, _, h⟩ | ⟨h1, _, h2, h⟩
    · exact .inl ⟨congrArg Prod.fst h, by rw [show re = 130 from congrArg Prod.snd h]; decide⟩
    · exact .inl ⟨congrArg Prod.fst h, by rw [show re = 140 from congrArg Prod.snd h]; decide⟩
    · exact .inl ⟨congrArg Prod.fst h, by rw [show re = 160 from congrArg Prod.snd h]; decide⟩
    · have e := congrArg Prod.fst h
      dsimp only at e
      exact .inr ⟨congrArg Prod.snd h, h1, e, by rw [e]; exact h2⟩)
  go_wp2_with (first | (refine wpList_getW (by kernel_rfl) _ rfl b1 rfl KL5.out ?_) | fail)
  refine CA.out.mono ?_
  rintro e w6 ⟨s6, _, A6, c6, rfl, k6⟩
  have X6 := Lib.hid (X0.out.trans s6.x)
  have K6 := Lib.hid k6.1
  have SW6 := Lib.hid (SW.out.ext X6.out)
  clear CA KL5 s6 k6 p1 OKX
  rcases CS.out with ⟨hr, he⟩ | ⟨hr, hcb, hal, hlen⟩
  · subst hr
    have k1 : (re != 0) = true := by simpa using he
    have k2 : (re == 0) = false := by simpa using he
    clear CS
    go_wp2_with fail
    go_ret
    exact ⟨rfl, X6.out⟩
  subst hr
  have CB := Lib.hid hcb
  have hwb := (words_parts hcb).2
  have hn0 := (words_parts hcb).1
  rw [List.length_map] at hn0
  have SP := Lib.hid (show cntK 1 rl = wl.length - 1 by rw [hal, allL, all_spaces _ _ _ _ _ _ _ (Nat.le_refl _), if_pos rfl, List.length_map])
  have SF := Lib.hid (show cntK 3 rl = sumS (wl.map tw) wl.length by rw [hal, allL, all_softs _ _ _ _ _ hwb _ (Nat.le_refl _), List.length_map])
  have PD := Lib.hid (fun i (hi : i < rl.length) (h2 : rl[i].1 = 2) => show ∃ j, j < wl.length ∧ rl[i].2.1 = (j : Int) ∧ ∀ hj : j < wl.length, wl[j].ss = [] from by
    have hm : rl[i] ∈ allL (D.l.map tn) (D.m.map tn) (L.v 7) (L.v 8) true (wl.map tw) := by rw [← hal]; exact List.getElem_mem hi
    obtain ⟨j, h3, h4, h5, _⟩ := all_parted hm h2
    rw [List.length_map] at h3
    refine ⟨j, h3, h4, fun hj => ?_⟩
    rw [show (wl.map tw).getD j ([], []) = tw wl[j] by simp [List.getD, hj]] at h5
    exact h5)
  have SS := Lib.hid (fun k (hk : k < wl.length) => show sumS (wl.map tw) (k + 1) = sumS (wl.map tw) k + wl[k].ss.length by
    rw [sumS_succ (by rw [List.length_map]; exact hk), show (wl.map tw).getD k ([], []) = tw wl[k] by simp [List.getD, hk]]; rfl)
  have SL := Lib.hid (fun k (hk : k ≤ wl.length) => sumS_le hwb k (by rw [List.length_map]; exact hk))
  have CT := Lib.hid (fun i (hi : i < rl.length) k => cnt_take hi k)
  have CL := Lib.hid (fun i k => cntK_le k (rl.take i))
  have w64 : (wl.length : Int) ≤ 100 := by have := (words_parts hcb).1; rw [List.length_map] at this; omega
  have w65 : 1 ≤ (wl.length : Int) := by omega
  clear hcb hal hwb hn0 CS
  have z64 : (rl.length : Int) ≤ 200 := by omega
  dsimp only at K6
  go_wp2_with fail
  go_loopw [13, 14] (fun v i wr => ∃ (k : Nat) (y : Int), k ≤ wl.length ∧ i = .int .i64 k ∧ v = .int .i64 y ∧ Hid (y = -(sumS (wl.map tw) k : Int)) ∧ Hid (Ext w6 wr)) (fun _ i _ => wl.length - (intOf i).toNat)
  case atStart => exact ⟨0, 0, by omega, rfl, rfl, Lib.hid (by rw [sumS_zero]; rfl), Lib.hid (Ext.refl _)⟩
  case round =>
    obtain ⟨k, y, hk, rfl, rfl, HY, HX⟩ := hrel
    obtain ⟨wo, rfl⟩ : ∃ wo : World, wo = wr := ⟨_, rfl⟩
    by_cases hlt : k < wl.length
    · have hk64 : (k : Int) < (wl.length : Int) := by omega
      obtain ⟨⟨ad, rfl, c0, c1⟩, _, _⟩ := (SW6.out.ext HX.out).get hlt
      have S1 := SS.out k (by omega)
      have S2 := SL.out (k + 1) (by omega)
      generalize hss : wl[k].ss.length = m at *
      have wy : IntKind.i64.wrap (y - (m : Int)) = y - m := IntWalk.i64_in _ (by have := HY.out; omega)
      have HY2 := Lib.hid (show y - (m : Int) = -(sumS (wl.map tw) (k + 1) : Int) by rw [HY.out, S1]; omega)
      clear S1 S2 hss HY
      go_wp2_with fail
      go_roundw
      case rel => exact ⟨k + 1, y - m, by omega, by go_num, rfl, HY2, HX⟩
      case measure => simp [intOf]; omega
    · have hkn : k = wl.length := by omega
      subst hkn
      have hk64 : ¬ (wl.length : Int) < (wl.length : Int) := by omega
      go_wp2_with fail
      go_loopw [12, 13, 15] (fun vs vf i wr => ∃ (j : Nat) (p q : Int), j ≤ rl.length ∧ i = .int .i64 j ∧ vs = .int .i64 p ∧ vf = .int .i64 q ∧ Hid (p = (cntK 1 (rl.take j) : Int)) ∧ Hid (q = y + (cntK 3 (rl.take j) : Int)) ∧ Hid (Ext w6 wr)) (fun _ _ i _ => rl.length - (intOf i).toNat)
      case atStart => exact ⟨0, 0, y, by omega, rfl, rfl, rfl, Lib.hid (by simp [cntK]), Lib.hid (by simp [cntK]), HX⟩
      case round =>
        clear HX
        obtain ⟨j, p, q, hj, rfl, rfl, rfl, HP, HQ, HX⟩ := hrel
        obtain ⟨wi, rfl⟩ : ∃ wi : World, wi = wr := ⟨_, rfl⟩
        by_cases hjz : j < rl.length
        · have hj64 : (j : Int) < (rl.length : Int) := by omega
          obtain ⟨ad, rfl, c0, c1, c2⟩ := (K6.out.ext HX.out).get hjz
          have C1 := CT.out j hjz 1
          have C3 := CT.out j hjz 3
          have PJ := Lib.hid (PD.out j hjz)
          have L1 := CL.out (j + 1) 1
          have L3 := CL.out (j + 1) 3
          have tl : (rl.take (j + 1)).length ≤ 200 := by rw [List.length_take]; omega
          have yb := SL.out wl.length (Nat.le_refl _)
          generalize rl[j] = b at *
          obtain ⟨b1', b2', b3'⟩ := b
          dsimp only at *
          have wp : IntKind.i64.wrap (p + 1) = p + 1 := IntWalk.i64_in _ (by have := HP.out; omega)
          have wq : IntKind.i64.wrap (q + 1) = q + 1 := IntWalk.i64_in _ (by have := HQ.out; have := HY.out; omega)
          clear L1 L3 tl yb
          by_cases h1 : b1' = 1
          · subst h1
            have HP2 := Lib.hid (show p + 1 = (cntK 1 (rl.take (j + 1)) : Int) by rw [C1, if_pos rfl, HP.out]; omega)
            have HQ2 := Lib.hid (show q = y + (cntK 3 (rl.take (j + 1)) : Int) by rw [C3, if_neg (by decide), HQ.out]; omega)
            clear C1 C3 PJ HP HQ
            go_wp2_with fail
            go_roundw
            case rel => exact ⟨j + 1, p + 1, q, by omega, by go_num, rfl, rfl, HP2, HQ2, HX⟩
            case measure => simp [intOf]; omega
          · have k1 : (b1' == 1) = false := by simpa using h1
            have HP2 := Lib.hid (show p = (cntK 1 (rl.take (j + 1)) : Int) by rw [C1, if_neg h1, HP.out]; omega)
            by_cases h3 : b1' = 3
            · subst h3
              have HQ2 := Lib.hid (show q + 1 = y + (cntK 3 (rl.take (j + 1)) : Int) by rw [C3, if_pos rfl, HQ.out]; omega)
              clear C1 C3 PJ HP HQ
              go_wp2_with fail
              go_roundw
              case rel => exact ⟨j + 1, p, q + 1, by omega, by go_num, rfl, rfl, HP2, HQ2, HX⟩
              case measure => simp [intOf]; omega
            · have k3 : (b1' == 3) = false := by simpa using h3
              have HQ2 := Lib.hid (show q = y + (cntK 3 (rl.take (j + 1)) : Int) by rw [C3, if_neg h3, HQ.out]; omega)
              clear C1 C3 HP HQ
              by_cases h2 : b1' = 2
              · subst h2
                obtain ⟨m, hm, e2, e3⟩ := PJ.out rfl
                obtain rfl : b2' = (m : Int) := e2
                have hm64 : (m : Int) < (wl.length : Int) := by omega
                obtain ⟨⟨ae, rfl, d0, d1⟩, _, _⟩ := (SW6.out.ext HX.out).get hm
                rw [e3 hm] at d1
                clear PJ e3
                go_wp2_with fail
                go_roundw
                case rel => exact ⟨j + 1, p, q, by omega, by go_num, rfl, rfl, HP2, HQ2, HX⟩
                case measure => simp [intOf]; omega
              · have k2 : (b1' == 2) = false := by simpa using h2
                clear PJ
                go_wp2_with fail
                go_roundw
                case rel => exact ⟨j + 1, p, q, by omega, by go_num, rfl, rfl, HP2, HQ2, HX⟩
                case measure => simp [intOf]; omega
        · have hjn : j = rl.length := by omega
          subst hjn
          have hj64 : ¬ (rl.length : Int) < (rl.length : Int) := by omega
          have ht : rl.take rl.length = rl := List.take_of_length_le (Nat.le_refl _)
          have ep : p = (wl.length : Int) - 1 := by rw [HP.out, ht, SP.out]; omega
          have eq : q = 0 := by rw [HQ.out, ht, SF.out, HY.out]; omega
          have wk1 : IntKind.i64.wrap ((wl.length : Int) - 1) = (wl.length : Int) - 1 := IntWalk.i64_in _ (by omega)
          subst ep
          subst eq
          clear HP HQ ht
          go_wp2_with fail
          go_ret
          exact ⟨rfl, X6.out.trans HX.out⟩
end ParaCounts
end Go.Proofs.YtdiccmlpppkgpaaGreatDoor

