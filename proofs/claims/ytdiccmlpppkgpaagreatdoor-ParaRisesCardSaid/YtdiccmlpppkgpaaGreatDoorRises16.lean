/- ParaRises: breaks stand each before the next one, and without parted words there are the same ones but those, whatever calls answer so. Written by gen16/rises.py. -/
import Derived.Test.YtdiccmlpppkgpaaGreatDoorAwake16
import Derived.Test.YtdiccmlpppkgpaaGreatDoorRise16
import Derived.Test.YtdiccmlpppkgpaaGreatDoorGE16
import Derived.Test.YtdiccmlpppkgpaaGreatDoorGG16
import Derived.Deep.CutBlock
import Derived.Deep.DeepCutAuto
namespace Go.Proofs.YtdiccmlpppkgpaaGreatDoor
open Go.RowKit
open Go.Lib hiding intOf
namespace ParaRises
open L10 (TN tn patB rd patsB fewD fewp_any few_len)
open L11 (NewQ new_yes new_no TrieAt)
open L12 (St)
open L13 (TW tw checkB rfew_any)
open L14 (LayD LayOk layC layV mayL Wide wpList_getW rg14)
open L16
/-- Patterns that may be: each may be. -/
theorem pats_parts {D : PatsD} (hp : patsB (rd D) = true) : D.l.length ≤ 300 ∧ ∀ x ∈ D.l, patB (tn x) = true := by
  have h1 := L10.patsB_rd D
  rw [hp] at h1
  have h2 := h1.symm
  simp only [Bool.and_eq_true, decide_eq_true_eq, List.all_eq_true] at h2
  exact ⟨by omega, h2.2.1⟩
/-- Words that may be: each may be. -/
theorem words_parts {l : List TW} (h : checkB l = true) : (1 ≤ l.length ∧ l.length ≤ 100) ∧ ∀ w ∈ l, L13.wordB w = true := by
  simp only [checkB, Bool.and_eq_true, decide_eq_true_eq, List.all_eq_true] at h
  exact ⟨h.1, h.2.1⟩
theorem all_kind {p but : List TN} {lf rg : Int} {parted : Bool} {l : List TW} {b : Brk} (h : b ∈ allL p but lf rg parted l) : 0 ≤ b.1 ∧ b.1 ≤ 5 := by
  rcases all_mem h with rfl | ⟨j, _, hb | rfl⟩
  · decide
  · obtain ⟨i, _, _, _, k⟩ := rise_of_mem hb
    omega
  · unfold endK
    dsimp only
    split <;> decide
/-- What a round is told of its break. -/
structure At (rl : List Brk) (wl : List CW) (j : Nat) (hj : j < rl.length) : Prop where
  kind : 0 ≤ rl[j].1 ∧ rl[j].1 ≤ 5
  first : rl[j].1 = 0 ↔ j = 0
  last : rl[j].1 = 5 ↔ j + 1 = rl.length
  word : ∃ m : Nat, ∃ h : m < wl.length, ∃ t : Nat, rl[j].2.1 = (m : Int) ∧ rl[j].2.2 = (t : Int) ∧ t ≤ wl[m].cs.length ∧ t ≤ 60
  prev : ∀ q (e : j = q + 1), befB (rl[q]'(by omega)) rl[j] = true
theorem at_any {p but : List TN} {lf rg : Int} {rl : List Brk} {wl : List CW} (hr : rl = allL p but lf rg true (wl.map tw)) (hw : ∀ w ∈ wl.map tw, L13.wordB w = true) (h1 : 1 ≤ wl.length) (j : Nat) (hj : j < rl.length) : At rl wl j hj := by
  subst hr
  have hm := List.getElem_mem hj
  have pr := all_rises p but lf rg true (wl.map tw)
  have z0 : (allL p but lf rg true (wl.map tw))[0]'(by omega) = (0, 0, 0) := rfl
  refine ⟨all_kind hm, ⟨fun h => ?_, fun h => ?_⟩, ?_, ?_, fun q e => ?_⟩
  · by_cases hj0 : j = 0
    · exact hj0
    · have h2 := List.pairwise_iff_getElem.1 pr 0 j (by omega) hj (by omega)
      rw [bef_iff, z0] at h2
      dsimp only at h2
      omega
  · subst h; rfl
  · obtain ⟨pre, e, he, h5, hp⟩ := all_last p but lf rg true (l := wl.map tw) (by rw [List.length_map]; exact h1)
    have hlen : (allL p but lf rg true (wl.map tw)).length = pre.length + 1 := by rw [he]; simp
    constructor
    · intro h
      by_cases hc : j < pre.length
      · have e2 : (allL p but lf rg true (wl.map tw))[j] = pre[j] := by simp only [he]; exact List.getElem_append_left hc
        rw [e2] at h
        exact absurd h (hp _ (List.getElem_mem hc))
      · omega
    · intro h
      have e2 : (allL p but lf rg true (wl.map tw))[j] = e := by
        have : j = pre.length := by omega
        subst this
        simp [he]
      rw [e2]; exact h5
  · obtain ⟨m, h2, h3, h4, h5⟩ := all_where hm (by rw [List.length_map]; exact h1)
    rw [List.length_map] at h2
    have e3 : (wl.map tw).getD m ([], []) = tw wl[m] := by simp [List.getD, h2]
    rw [e3] at h5
    have hwm := hw (tw wl[m]) (List.mem_map.2 ⟨_, List.getElem_mem h2, rfl⟩)
    simp only [L13.wordB, Bool.and_eq_true, decide_eq_true_eq] at hwm
    have e4 : (tw wl[m]).1.length = wl[m].cs.length := rfl
    exact ⟨m, h2, ((allL p but lf rg true (wl.map tw))[j].2.2).toNat, h3, by omega, by omega, by omega⟩
  · subst e
    exact List.pairwise_iff_getElem.1 pr q (q + 1) (by omega) hj (by omega)
theorem plain_take {l : List Brk} {i : Nat} (h : i < l.length) : plainK (l.take (i + 1)) = plainK (l.take i) ++ if l[i].1 = 2 then [] else [l[i]] := by
  rw [List.take_succ_eq_append_getElem h, plain_append]
  congr 1
  by_cases h2 : l[i].1 = 2
  · rw [if_pos h2]; simp [plainK, h2]
  · rw [if_neg h2]; simp [plainK, h2]
set_option maxRecDepth 100000 in
set_option maxHeartbeats 8000000 in
theorem all (PA : Par) (D : PatsD) (P : PatsP) (okp : PatsOk D P) (L : LayD) (SA : Option Addr) (sc : Nat) (lok : LayOk L sc) (WA : Option Addr) (wl : List CW) (d : Nat) (hwd : wl.length ≤ d) (hdm : d ≤ maxLen) (wok : ∀ x ∈ wl, x.Ok) (w : World) (sn : SeenPats w D P) (ls : SeenP w SA L.n L.sh) (sw : SeenC w WA wl) (hT : Home w) :
    Calls Tryz.prog 5 #[patsV D P, .agg (layC L SA sc).toArray, .slice WA wl.length d] w (Ret w (.bool true)) := by
  obtain ⟨W1, hW1⟩ : ∃ W1, W1 = (w.alloc (.cells #[.slice P.x D.l.length P.c, .slice P.y D.m.length P.d] 25)).alloc (.cells (layC L SA sc).toArray 28) := ⟨_, rfl⟩
  have x0 : Ext w W1 := by rw [hW1]; exact ((Ext.refl _).alloc _).alloc _
  have KP := Lib.hid (show Blk W1 w.heap.size 25 [.slice P.x D.l.length P.c, .slice P.y D.m.length P.d] by rw [hW1]; exact (Blk.lit _ _ _ _ rfl).ext ((Ext.refl _).alloc _))
  have KL := Lib.hid (show Blk W1 (w.heap.size + 1) 28 (layC L SA sc) by rw [hW1]; exact Blk.lit _ _ _ _ (by simp))
  have X0 := Lib.hid x0
  have AW := Lib.hid (awake_any PA W1 (hT.ext x0))
  generalize hf1 : fewD D = f1 at *
  generalize hf3 : L13.fewB (wl.map tw) = f3 at *
  generalize hpb : patsB (rd D) = pb at *
  have FEW1 := Lib.hid (fun w' (x : Ext W1 w') => show Calls Tryz.prog 9 #[.agg #[.slice P.x D.l.length P.c, .slice P.y D.m.length P.d]] w' (Ret w' (.bool f1)) from hf1 ▸ fewp_any D P w' (sn.ext (x0.trans x)))
  have FEW3 := Lib.hid (fun w' (x : Ext W1 w') => show Calls Tryz.prog 10 #[.slice WA wl.length d] w' (Ret w' (.bool f3)) from hf3 ▸ rfew_any WA wl wl.length d w' (sw.ext (x0.trans x)) rfl)
  have FL1 := Lib.hid (fun h : f1 = true => few_len (hf1.trans h))
  have NN := Lib.hid (fun (h1 : f1 = true) (h : pb = false) w' (x : Ext W1 w') => show Calls Tryz.prog 11 #[.agg #[.slice P.x D.l.length P.c, .slice P.y D.m.length P.d]] w' (Ret w' (.tuple #[.pointer none, .int .i64 100])) from
    new_no D P okp.li okp.mi w' (sn.ext (x0.trans x)) (by have := (few_len (hf1.trans h1)).1; omega) (by have := (few_len (hf1.trans h1)).2.1; omega) (hpb.trans h))
  have NY := Lib.hid (fun (h1 : f1 = true) (h : pb = true) w' (x : Ext W1 w') => show Calls Tryz.prog 11 #[.agg #[.slice P.x D.l.length P.c, .slice P.y D.m.length P.d]] w' (NewQ w' (D.l.map tn)) from
    new_yes D P okp.li okp.mi w' (sn.ext (x0.trans x)) (by have := (few_len (hf1.trans h1)).1; omega) (by have := (few_len (hf1.trans h1)).2.1; omega) (hpb.trans h))
  have PP := Lib.hid (fun h : pb = true => pats_parts (hpb.trans h))
  have HW1 := Lib.hid hW1
  obtain ⟨b0, hb0⟩ : ∃ b0, w.heap.size = b0 := ⟨_, rfl⟩
  obtain ⟨b1, hb1⟩ : ∃ b1, b0 + 1 = b1 := ⟨_, rfl⟩
  rw [hb0] at KP KL
  rw [hb1] at KL
  have H0 := Lib.hid hb0
  have H1 := Lib.hid hb1
  have SN := Lib.hid sn
  have SW := Lib.hid sw
  have LS := Lib.hid ls
  have HT := Lib.hid hT
  have OKP := Lib.hid okp
  have LOK := Lib.hid lok
  have WOK := Lib.hid wok
  have HWD := Lib.hid hwd
  have HDM := Lib.hid hdm
  have S := Lib.hid PA
  clear hW1 x0 hb0 hb1 sn sw ls hT okp lok wok hwd hdm hf1 hf3 hpb PA
  unfold patsV
  go_enter Tryz.func5, Tryz.ntmps5
  go_upto_region 1 with (fail)
  rw [← HW1.out, H0.out, H1.out]
  clear HW1 H0 H1
  go_wp2_with fail
  refine AW.out.mono ?_
  rintro e w1 ⟨rfl, x1⟩
  have X1 := Lib.hid x1
  have p0 : w1.cell? ⟨b0, 0, none⟩ = some (.slice P.x D.l.length P.c) := (KP.out.ext X1.out).cell 0
  have p1 : w1.cell? ⟨b0, 1, none⟩ = some (.slice P.y D.m.length P.d) := (KP.out.ext X1.out).cell 1
  clear x1 AW
  go_wp2_with fail
  refine (FEW1.out w1 X1.out).mono ?_
  rintro e w2 ⟨rfl, x2⟩
  have X2 := Lib.hid (X1.out.trans x2)
  clear x2 X1 FEW1 p0 p1
  cases f1 with
  | false =>
    clear NN NY FL1
    go_wp2_with fail
    go_ret
    exact ⟨rfl, X0.out.trans X2.out⟩
  | true =>
  have FM1 := Lib.hid (FL1.out rfl)
  have NN1 := Lib.hid (NN.out rfl)
  have NY1 := Lib.hid (NY.out rfl)
  clear FL1 NN NY
  have a4 : w2.cell? ⟨b1, 4, none⟩ = some (.slice SA L.n sc) := (KL.out.ext X2.out).cell 4
  go_wp2_with fail
  refine (FEW3.out w2 X2.out).mono ?_
  rintro e w3 ⟨rfl, x3⟩
  have X3 := Lib.hid (X2.out.trans x3)
  clear x3 X2 FEW3 a4
  cases f3 with
  | false =>
    clear NN1 NY1
    go_wp2_with fail
    go_ret
    exact ⟨rfl, X0.out.trans X3.out⟩
  | true =>
  have a4 : w3.cell? ⟨b1, 4, none⟩ = some (.slice SA L.n sc) := (KL.out.ext X3.out).cell 4
  by_cases hL : 100 < L.n
  · have hL64 : (100 : Int) < (L.n : Int) := by omega
    clear NN1 NY1
    go_wp2_with fail
    go_ret
    exact ⟨rfl, X0.out.trans X3.out⟩
  have hL64 : ¬ (100 : Int) < (L.n : Int) := by omega
  have p0 : w3.cell? ⟨b0, 0, none⟩ = some (.slice P.x D.l.length P.c) := (KP.out.ext X3.out).cell 0
  have p1 : w3.cell? ⟨b0, 1, none⟩ = some (.slice P.y D.m.length P.d) := (KP.out.ext X3.out).cell 1
  cases pb with
  | false =>
    have NO := Lib.hid (NN1.out rfl w3 X3.out)
    clear NN1 NY1 PP
    go_wp2_with fail
    refine NO.out.mono ?_
    rintro e w5 ⟨rfl, x5⟩
    go_wp2_with fail
    go_ret
    exact ⟨rfl, X0.out.trans (X3.out.trans x5)⟩
  | true =>
  have PQ := Lib.hid (PP.out rfl)
  have NEW := Lib.hid (NY1.out rfl w3 X3.out)
  clear NN1 NY1 PP
  go_wp2_with fail
  refine NEW.out.mono ?_
  rintro e w5 hq
  obtain ⟨B, rfl, s5, x5, _⟩ := St.new X3.out hq
  have S5 := Lib.hid s5
  have X5 := Lib.hid (X3.out.trans x5)
  clear hq s5 x5 NEW p0 p1 a4 X3
  have OKX := Lib.hid (show ∀ x ∈ D.m, x.Ok ∧ x.ns.length ≤ 900000 from fun x hx => ⟨OKP.out.mi x hx, by have := (FM1.out.2.2 x (List.mem_append_right _ hx)).2; omega⟩)
  have CA := Lib.hid (fun w' (s : St W1 w' B (D.l.map tn)) parted => S.out.brC W1 w' B (D.l.map tn) s P.y D.m D.m.length P.d rfl (by have := FM1.out.2.1; omega) OKX.out L SA sc LOK.out WA wl wl.length d rfl HWD.out HDM.out WOK.out (fun w' x => let y := X0.out.trans (st_old s x); ⟨SN.out.m.ext y, LS.out.ext y, SW.out.ext y, HT.out.ext y⟩) parted)
  have C1 := Lib.hid (CA.out w5 S5.out true)
  have KL5 := Lib.hid (KL.out.ext X5.out)
  have p1 : w5.cell? ⟨b0, 1, none⟩ = some (.slice P.y D.m.length P.d) := (KP.out.ext X5.out).cell 1
  have CS := Lib.hid (brks_cases (D.l.map tn) (D.m.map tn) L (wl.map tw) true)
  generalize hR : brksA (D.l.map tn) (D.m.map tn) L (wl.map tw) true = r at *
  obtain ⟨rl, re⟩ := r
  have CT := Lib.hid (show (rl = [] ∧ re ≠ 0) ∨ (re = 0 ∧ checkB (wl.map tw) = true ∧ mayL L = true ∧ rl = allL (D.l.map tn) (D.m.map tn) (L.v 7) (L.v 8) true (wl.map tw) ∧ rl.length ≤ 200) by
    rcases CS.out with ⟨_, h⟩ | ⟨_, _, h⟩ | ⟨_, _, _, h⟩ | ⟨h1, hm, h2, h⟩
    · exact .inl ⟨congrArg Prod.fst h, by rw [show re = 130 from congrArg Prod.snd h]; decide⟩
    · exact .inl ⟨congrArg Prod.fst h, by rw [show re = 140 from congrArg Prod.snd h]; decide⟩
    · exact .inl ⟨congrArg Prod.fst h, by rw [show re = 160 from congrArg Prod.snd h]; decide⟩
    · have e := congrArg Prod.fst h
      dsimp only at e
      exact .inr ⟨congrArg Prod.snd h, h1, hm, e, by rw [e]; exact h2⟩)
  clear hR CS
  go_wp2_with (first | (refine wpList_getW (by kernel_rfl) _ rfl b1 rfl KL5.out ?_) | fail)
  refine C1.out.mono ?_
  rintro e w6 ⟨s6, _, A6, c6, rfl, k6⟩
  have X6 := Lib.hid (X0.out.trans s6.x)
  have K6 := Lib.hid k6
  have C2 := Lib.hid (CA.out w6 s6 false)
  have KL6 := Lib.hid (KL.out.ext s6.x)
  have p1 : w6.cell? ⟨b0, 1, none⟩ = some (.slice P.y D.m.length P.d) := (KP.out.ext s6.x).cell 1
  dsimp only at K6
  clear CA C1 KL5 s6 k6 OKX
  rcases CT.out with ⟨hr, he⟩ | ⟨hr, hcb, hmy, hal, hlen⟩
  · subst hr
    have k1 : (re != 0) = true := by simpa using he
    have k2 : (re == 0) = false := by simpa using he
    clear CT C2 KL6 p1
    go_wp2_with fail
    go_ret
    exact ⟨rfl, X6.out⟩
  subst hr
  have hwb := (words_parts hcb).2
  have hn0 := (words_parts hcb).1
  rw [List.length_map] at hn0
  have EB := Lib.hid (show brksA (D.l.map tn) (D.m.map tn) L (wl.map tw) false = (plainK rl, 0) by rw [hal]; exact brks_plain hcb hmy (by rw [← hal]; exact hlen))
  rw [EB.out] at C2
  have AT := Lib.hid (fun j hj => at_any hal hwb hn0.1 j hj)
  have PT := Lib.hid (fun j (hj : j < rl.length) => plain_take hj)
  have MORE := Lib.hid (show wl.length < (plainK rl).length by
    have e := all_plain (D.l.map tn) (D.m.map tn) (L.v 7) (L.v 8) (wl.map tw) (wl.map tw).length
    have h := all_more (D.l.map tn) (D.m.map tn) (L.v 7) (L.v 8) false (wl.map tw) (wl.map tw).length
    rw [← e, List.length_map] at h
    rw [hal]
    simpa [allL] using h)
  have PLN := Lib.hid (fun (l : List Brk) => show (plainK l).length ≤ l.length from List.length_filter_le _ _)
  have w64 : (wl.length : Int) ≤ 100 := by omega
  have w65 : 1 ≤ (wl.length : Int) := by omega
  have z64 : (rl.length : Int) ≤ 200 := by omega
  have z65 : 2 ≤ (rl.length : Int) := by have := MORE.out; have := PLN.out rl; omega
  clear hcb hmy hal hwb hn0 CT EB hlen
  go_wp2_with (first | (refine wpList_getW (by kernel_rfl) _ rfl b1 rfl KL6.out ?_) | fail)
  refine C2.out.mono ?_
  rintro e w7 ⟨s7, b7, A7, c7, rfl, k7⟩
  have X7 := Lib.hid (X0.out.trans s7.x)
  have K6 := Lib.hid (K6.out.ask b7).1
  have K7 := Lib.hid k7.1
  have SW7 := Lib.hid (SW.out.ext X7.out)
  dsimp only at K7
  clear C2 KL6 s7 b7 k7 p1 X6
  generalize hyl : (plainK rl).length = yl at *
  have HYL := Lib.hid hyl
  have y64 : (wl.length : Int) < (yl : Int) := by have := MORE.out; omega
  clear hyl MORE
  go_wp2_with fail
  go_loopw [14, 15] (fun v i wr => ∃ j : Nat, j ≤ rl.length ∧ i = .int .i64 j ∧ Hid (OwnK w7 wr v (plainK (rl.take j)))) (fun _ i _ => rl.length - (intOf i).toNat)
  case atStart => exact ⟨0, by omega, rfl, Lib.hid (by simpa [plainK] using OwnK.nil (Ext.refl w7))⟩
  case round =>
    obtain ⟨j, hj, rfl, HO⟩ := hrel
    obtain ⟨wo, rfl⟩ : ∃ wo : World, wo = wr := ⟨_, rfl⟩
    by_cases hjz : j < rl.length
    · have hj64 : (j : Int) < (rl.length : Int) := by omega
      obtain ⟨ad, rfl, c0, c1, c2⟩ := (K6.out.ext HO.out.2).get hjz
      have A := AT.out j hjz
      have P1 := Lib.hid (PT.out j hjz)
      obtain ⟨m, hm, t, e1, e2, e3, e4⟩ := A.word
      have hm64 : (m : Int) < (wl.length : Int) := by omega
      obtain ⟨⟨ae, rfl, d0, _⟩, _, _⟩ := (SW7.out.ext HO.out.2).get hm
      have KD := Lib.hid A.kind
      have FI := Lib.hid A.first
      have LA := Lib.hid A.last
      have PV := Lib.hid (fun q (e : j = q + 1) (hq : q < rl.length) => show befB rl[q] rl[j] = true from A.prev q e)
      have LEN := Lib.hid (show (plainK (rl.take j)).length + 1 ≤ 1000000 by have := PLN.out (rl.take j); rw [List.length_take] at this; omega)
      generalize hb : rl[j] = b at *
      obtain ⟨kb, mb, tb⟩ := b
      dsimp only at *
      subst e1
      subst e2
      generalize wl[m].cs.length = cl at *
      generalize wl[m].A = cA at *
      generalize wl[m].c = cc at *
      generalize wl[m].ss.length = sl at *
      have t64 : (t : Int) ≤ (cl : Int) := by omega
      have HB := Lib.hid hb
      clear A hb e3
      obtain ⟨W8, hW8⟩ : ∃ W8, W8 = wo.alloc (.cells #[.int .i64 kb, .int .i64 (m : Int), .int .i64 (t : Int)] 44) := ⟨_, rfl⟩
      have x8 : Ext wo W8 := by rw [hW8]; exact (Ext.refl _).alloc _
      have KX := Lib.hid (show Blk W8 wo.heap.size 44 [.int .i64 kb, .int .i64 (m : Int), .int .i64 (t : Int)] by rw [hW8]; exact Blk.lit _ _ _ _ rfl)
      have HO := Lib.hid (HO.out.over x8)
      have D0 := Lib.hid (x8.at d0)
      have HW8 := Lib.hid hW8
      obtain ⟨bX, hbX⟩ : ∃ b, wo.heap.size = b := ⟨_, rfl⟩
      rw [hbX] at KX
      have HBX := Lib.hid hbX
      clear hW8 x8 hbX d0
      go_upto_region 16 with (fail)
      rw [← HW8.out]
      rw [HBX.out]
      clear HW8 HBX c0 c1 c2
      have wl1 : IntKind.i64.wrap ((rl.length : Int) - 1) = (rl.length : Int) - 1 := IntWalk.i64_in _ (by omega)
      have g0 := cell_regrown (show W8.cell? ⟨bX, 0, none⟩ = some (.int .i64 kb) from KX.out.cell 0)
      have g1 := cell_regrown (show W8.cell? ⟨bX, 1, none⟩ = some (.int .i64 (m : Int)) from KX.out.cell 1)
      have g2 := cell_regrown (show W8.cell? ⟨bX, 2, none⟩ = some (.int .i64 (t : Int)) from KX.out.cell 2)
      have g3 := cell_regrown D0.out
      have n1 : decide ((m : Int) < 0) = false := decide_eq_false (by omega)
      have n2 : decide ((wl.length : Int) ≤ (m : Int)) = false := decide_eq_false (by omega)
      have n3 : decide ((t : Int) < 0) = false := decide_eq_false (by omega)
      have n4 : decide ((cl : Int) < (t : Int)) = false := decide_eq_false (by omega)
      have n5 : decide (wl.length ≤ m) = false := decide_eq_false (by omega)
      have n6 : decide (cl < t) = false := decide_eq_false (by omega)
      by_cases hj0 : j = 0
      · subst hj0
        have hk0 : kb = 0 := FI.out.2 rfl
        subst hk0
        have l1 : ((0 : Int) == (rl.length : Int) - 1) = false := by simp; omega
        have l2 : decide ((0 : Int) = (rl.length : Int) - 1) = false := decide_eq_false (by omega)
        clear FI LA PV KD
        refine wp_region_quiet_below (by kernel_rfl) (by kernel_rfl) ?_
        repeat (go_big_quiet_step (fail))
        refine wpQuiet_nil ?_
        intro _ hw'
        obtain ⟨⟨dq, osq⟩, hw''⟩ := hw'
        subst hw''
        have yy : Ext W8 (Sort.grow (redrawn W8 dq) osq) := below_regrown _ _ _
        generalize Sort.grow (redrawn W8 dq) osq = w9 at *
        have HO := Lib.hid (HO.out.over yy)
        have KX := Lib.hid (KX.out.ext yy)
        clear yy g0 g1 g2 g3 n1 n2 n3 n4 n5 n6
        clear l1 l2
        have h2 : ¬ (0 : Int) = 2 := by decide
        have k9 : ((0 : Int) != 2) = true := by decide
        have e0 : w9.cell? ⟨bX, 0, none⟩ = some (.int .i64 0) := KX.out.cell 0
        have e1 : w9.cell? ⟨bX, 1, none⟩ = some (.int .i64 (m : Int)) := KX.out.cell 1
        have e2 : w9.cell? ⟨bX, 2, none⟩ = some (.int .i64 (t : Int)) := KX.out.cell 2
        obtain ⟨v', w10, hr, ho⟩ := HO.out.put (0, (m : Int), (t : Int)) LEN.out 37
        have HO2 := Lib.hid (show OwnK w7 w10 v' (plainK (rl.take (0 + 1))) by rw [P1.out, if_neg h2]; exact ho)
        clear HO ho P1 LEN
        go_wp2_with (first | (at_builtin; refine wpList_ran rfl _ _ rfl hr ?_) | fail)
        go_roundw
        case rel => exact ⟨0 + 1, by omega, by go_num, HO2⟩
        case measure => simp [intOf]; omega
      · obtain ⟨q, rfl⟩ : ∃ q, j = q + 1 := ⟨j - 1, by omega⟩
        have hql : q < rl.length := by omega
        have hq64 : (q : Int) < (rl.length : Int) := by omega
        have hk0 : ¬ kb = 0 := fun h => hj0 (FI.out.1 h)
        have k0 : (kb == 0) = false := by simpa using hk0
        have q1 : ((q : Int) + 1 == 0) = false := by simp; omega
        have q2 : decide ((q : Int) + 1 = 0) = false := decide_eq_false (by omega)
        have q3 : decide (0 < (q : Int) + 1) = true := decide_eq_true (by omega)
        have wq : IntKind.i64.wrap (q : Int) = (q : Int) := IntWalk.i64_in _ (by omega)
        obtain ⟨ad', ea, c0, c1, c2⟩ := (K6.out.ext HO.out.2).get hql
        cases ea
        have BF := PV.out q rfl hql
        have QK := Lib.hid (AT.out q hql)
        obtain ⟨m2, _, t2, f1, f2, _, f4⟩ := QK.out.word
        have qk := QK.out.kind
        have WQ := Lib.hid (show WideK rl[q] from ⟨⟨by omega, by omega⟩, ⟨by omega, by omega⟩, ⟨by omega, by omega⟩⟩)
        have WB := Lib.hid (show WideK (kb, (m : Int), (t : Int)) from ⟨⟨by have := KD.out; dsimp only; omega, by have := KD.out; dsimp only; omega⟩, ⟨by dsimp only; omega, by dsimp only; omega⟩, ⟨by dsimp only; omega, by dsimp only; omega⟩⟩)
        have BF : befB rl[q] (kb, (m : Int), (t : Int)) = true := BF
        have CB := Lib.hid (fun dd os => S.out.befC rl[q] (kb, (m : Int), (t : Int)) (Sort.grow (redrawn W8 dd) os) WQ.out WB.out)
        rw [BF] at CB
        clear BF QK f1 f2 f4 qk WQ WB PV
        generalize rl[q] = bq at *
        obtain ⟨kq, mq, tq⟩ := bq
        unfold brkV at CB
        dsimp only at c0 c1 c2 CB
        have h0 := cell_regrown c0
        have h1 := cell_regrown c1
        have h2 := cell_regrown c2
        clear c0 c1 c2
        by_cases hl : q + 1 + 1 = rl.length
        · have hk5 : kb = 5 := LA.out.2 hl
          subst hk5
          have l1 : ((q : Int) + 1 == (rl.length : Int) - 1) = true := by simp; omega
          have l2 : decide ((q : Int) + 1 = (rl.length : Int) - 1) = true := decide_eq_true (by omega)
          have hl := Lib.hid hl
          clear FI LA KD HB
          refine wp_region_quiet_below (by kernel_rfl) (by kernel_rfl) ?_
          repeat (go_big_quiet_step (first | (with_reducible exact rg14 (CB.out _ _))))
          refine wpQuiet_nil ?_
          intro _ hw'
          obtain ⟨⟨dq, osq⟩, hw''⟩ := hw'
          subst hw''
          have yy : Ext W8 (Sort.grow (redrawn W8 dq) osq) := below_regrown _ _ _
          generalize Sort.grow (redrawn W8 dq) osq = w9 at *
          have HO := Lib.hid (HO.out.over yy)
          have KX := Lib.hid (KX.out.ext yy)
          clear yy g0 g1 g2 g3 n1 n2 n3 n4 n5 n6
          clear l1 l2 h0 h1 h2 CB
          have h2 : ¬ (5 : Int) = 2 := by decide
          have k9 : ((5 : Int) != 2) = true := by decide
          have e0 : w9.cell? ⟨bX, 0, none⟩ = some (.int .i64 5) := KX.out.cell 0
          have e1 : w9.cell? ⟨bX, 1, none⟩ = some (.int .i64 (m : Int)) := KX.out.cell 1
          have e2 : w9.cell? ⟨bX, 2, none⟩ = some (.int .i64 (t : Int)) := KX.out.cell 2
          obtain ⟨v', w10, hr, ho⟩ := HO.out.put (5, (m : Int), (t : Int)) LEN.out 37
          have HO2 := Lib.hid (show OwnK w7 w10 v' (plainK (rl.take (q + 1 + 1))) by rw [P1.out, if_neg h2]; exact ho)
          clear HO ho P1 LEN
          go_wp2_with (first | (at_builtin; refine wpList_ran rfl _ _ rfl hr ?_) | fail)
          go_roundw
          case rel => exact ⟨q + 1 + 1, by omega, by go_num, HO2⟩
          case measure => simp [intOf]; omega
        · have hk5 : ¬ kb = 5 := fun h => hl (LA.out.1 h)
          have k5 : (kb == 5) = false := by simpa using hk5
          have l1 : ((q : Int) + 1 == (rl.length : Int) - 1) = false := by simp; omega
          have l2 : decide ((q : Int) + 1 = (rl.length : Int) - 1) = false := decide_eq_false (by omega)
          clear FI LA KD HB
          refine wp_region_quiet_below (by kernel_rfl) (by kernel_rfl) ?_
          repeat (go_big_quiet_step (first | (with_reducible exact rg14 (CB.out _ _))))
          refine wpQuiet_nil ?_
          intro _ hw'
          obtain ⟨⟨dq, osq⟩, hw''⟩ := hw'
          subst hw''
          have yy : Ext W8 (Sort.grow (redrawn W8 dq) osq) := below_regrown _ _ _
          generalize Sort.grow (redrawn W8 dq) osq = w9 at *
          have HO := Lib.hid (HO.out.over yy)
          have KX := Lib.hid (KX.out.ext yy)
          clear yy g0 g1 g2 g3 n1 n2 n3 n4 n5 n6
          clear l1 l2 h0 h1 h2 CB
          by_cases h2 : kb = 2
          · subst h2
            have e0 : w9.cell? ⟨bX, 0, none⟩ = some (.int .i64 2) := KX.out.cell 0
            have HO2 := Lib.hid (show OwnK w7 w9 _ (plainK (rl.take (q + 1 + 1))) by rw [P1.out, if_pos rfl, List.append_nil]; exact HO.out)
            clear HO P1 LEN
            go_wp2_with fail
            go_roundw
            case rel => exact ⟨q + 1 + 1, by omega, by go_num, HO2⟩
            case measure => simp [intOf]; omega
          · skip
            have k9 : (kb != 2) = true := by simpa using h2
            have e0 : w9.cell? ⟨bX, 0, none⟩ = some (.int .i64 kb) := KX.out.cell 0
            have e1 : w9.cell? ⟨bX, 1, none⟩ = some (.int .i64 (m : Int)) := KX.out.cell 1
            have e2 : w9.cell? ⟨bX, 2, none⟩ = some (.int .i64 (t : Int)) := KX.out.cell 2
            obtain ⟨v', w10, hr, ho⟩ := HO.out.put (kb, (m : Int), (t : Int)) LEN.out 37
            have HO2 := Lib.hid (show OwnK w7 w10 v' (plainK (rl.take (q + 1 + 1))) by rw [P1.out, if_neg h2]; exact ho)
            clear HO ho P1 LEN
            go_wp2_with (first | (at_builtin; refine wpList_ran rfl _ _ rfl hr ?_) | fail)
            go_roundw
            case rel => exact ⟨q + 1 + 1, by omega, by go_num, HO2⟩
            case measure => simp [intOf]; omega
    · have hjn : j = rl.length := by omega
      subst hjn
      have hj64 : ¬ (rl.length : Int) < (rl.length : Int) := by omega
      have HR := Lib.hid (show OwnK w7 wo _ (plainK rl) by have h := HO.out; rwa [List.take_of_length_le (Nat.le_refl _)] at h)
      obtain ⟨A8, c8, rfl, k8, _⟩ := HR.out.seen
      have SM := Lib.hid (rsame_any A8 A7 (plainK rl) (plainK rl) (plainK rl).length c8 yl c7 wo k8 (K7.out.ext HO.out.2) rfl HYL.out.symm (by have := PLN.out rl; omega))
      rw [decide_eq_true (rfl : plainK rl = plainK rl), HYL.out] at SM
      have X9 := Lib.hid (X7.out.trans HO.out.2)
      have y65 : decide ((wl.length : Int) < (yl : Int)) = true := decide_eq_true y64
      have y66 : decide (wl.length < yl) = true := decide_eq_true (by omega)
      rw [HYL.out]
      clear HO HR k8 K7
      go_wp2_with fail
      refine SM.out.mono ?_
      rintro e w9 ⟨rfl, x9⟩
      go_wp2_with fail
      go_ret
      exact ⟨rfl, X9.out.trans x9⟩
end ParaRises
end Go.Proofs.YtdiccmlpppkgpaaGreatDoor

