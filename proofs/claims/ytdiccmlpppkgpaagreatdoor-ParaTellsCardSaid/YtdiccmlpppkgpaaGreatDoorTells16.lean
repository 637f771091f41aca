/- ParaTells: where any words may be broken, by any patterns, exceptions and layout, is what the document says, whatever calls answer so. Written by gen16/tells.py. -/
import Derived.Test.YtdiccmlpppkgpaaGreatDoorAwake16
import Derived.Test.YtdiccmlpppkgpaaGreatDoorDocC16
import Derived.Test.YtdiccmlpppkgpaaGreatDoorGE16
import Derived.Test.YtdiccmlpppkgpaaGreatDoorGG16
namespace Go.Proofs.YtdiccmlpppkgpaaGreatDoor
open Go.RowKit
open Go.Lib hiding intOf
namespace ParaTells
open L10 (TN tn patB rd patsB fewD fewp_any few_len)
open L11 (NewQ new_yes new_no)
open L12 (St)
open L13 (TW tw checkB rfew_any)
open L14 (LayD LayOk layC layV mayL Wide wpList_getW rg14)
open L16
/-- Patterns that may be: each may be. -/
theorem pats_parts {D : PatsD} (hp : patsB (rd D) = true) : D.l.length ≤ 300 ∧ ∀ x ∈ D.l, patB (tn x) = true := by
  have h1 := L10.patsB_rd D
  rw [hp] at h1
  have h2 := h1.symm
  simp only [Bool.and_eq_true, decide_eq_true_eq, List.all_eq_true] at h2
  exact ⟨by omega, h2.2.1⟩
set_option maxRecDepth 100000 in
set_option maxHeartbeats 8000000 in
theorem all (PA : Par) (D : PatsD) (P : PatsP) (okp : PatsOk D P) (A : Option Addr) (l : List WP) (c : Nat) (okl : ∀ x ∈ l, x.Ok) (L : LayD) (SA : Option Addr) (sc : Nat) (lok : LayOk L sc) (WA : Option Addr) (wl : List CW) (d : Nat) (hwd : wl.length ≤ d) (hdm : d ≤ maxLen) (wok : ∀ x ∈ wl, x.Ok) (parted : Bool) (w : World) (sn : SeenPats w D P) (sl : SeenW w A l) (ls : SeenP w SA L.n L.sh) (sw : SeenC w WA wl) (hT : Home w) :
    Calls Tryz.prog 3 #[patsV D P, .slice A l.length c, .agg (layC L SA sc).toArray, .slice WA wl.length d, .bool parted] w (Ret w (.bool true)) := by
  obtain ⟨W1, hW1⟩ : ∃ W1, W1 = (w.alloc (.cells #[.slice P.x D.l.length P.c, .slice P.y D.m.length P.d] 25)).alloc (.cells (layC L SA sc).toArray 28) := ⟨_, rfl⟩
  have x0 : Ext w W1 := by rw [hW1]; exact ((Ext.refl _).alloc _).alloc _
  have KP := Lib.hid (show Blk W1 w.heap.size 25 [.slice P.x D.l.length P.c, .slice P.y D.m.length P.d] by rw [hW1]; exact (Blk.lit _ _ _ _ rfl).ext ((Ext.refl _).alloc _))
  have KL := Lib.hid (show Blk W1 (w.heap.size + 1) 28 (layC L SA sc) by rw [hW1]; exact Blk.lit _ _ _ _ (by simp))
  have X0 := Lib.hid x0
  have AW := Lib.hid (awake_any PA W1 (hT.ext x0))
  generalize hf1 : fewD D = f1 at *
  generalize hf3 : L13.fewB (wl.map tw) = f3 at *
  generalize hpb : patsB (rd D) = pb at *
  have FEW1 := Lib.hid (fun w' (x : Ext W1 w') => show Calls Tryz.prog 9 #[.agg #[.slice P.x D.l.length P.c, .slice P.y D.m.length P.d]] w' (Ret w' (.bool f1)) from hf1 ▸ fewp_any D P w' (sn.ext (x0.trans x)))
  generalize hf2 : fewD ⟨[], l⟩ = f2 at *
  have FEW2 := Lib.hid (fun w' (x : Ext W1 w') => show Calls Tryz.prog 9 #[.agg #[.slice none 0 0, .slice A l.length c]] w' (Ret w' (.bool f2)) from hf2 ▸ fewp_any ⟨[], l⟩ ⟨none, 0, A, c⟩ w' ⟨SeenW.nil, sl.ext (x0.trans x)⟩)
  have FL2 := Lib.hid (fun h : f2 = true => few_len (hf2.trans h))
  have FEW3 := Lib.hid (fun w' (x : Ext W1 w') => show Calls Tryz.prog 10 #[.slice WA wl.length d] w' (Ret w' (.bool f3)) from hf3 ▸ rfew_any WA wl wl.length d w' (sw.ext (x0.trans x)) rfl)
  have FL1 := Lib.hid (fun h : f1 = true => few_len (hf1.trans h))
  have NN := Lib.hid (fun (h1 : f1 = true) (h : pb = false) w' (x : Ext W1 w') => show Calls Tryz.prog 11 #[.agg #[.slice P.x D.l.length P.c, .slice P.y D.m.length P.d]] w' (Ret w' (.tuple #[.pointer none, .int .i64 100])) from
    new_no D P okp.li okp.mi w' (sn.ext (x0.trans x)) (by have := (few_len (hf1.trans h1)).1; omega) (by have := (few_len (hf1.trans h1)).2.1; omega) (hpb.trans h))
  have NY := Lib.hid (fun (h1 : f1 = true) (h : pb = true) w' (x : Ext W1 w') => show Calls Tryz.prog 11 #[.agg #[.slice P.x D.l.length P.c, .slice P.y D.m.length P.d]] w' (NewQ w' (D.l.map tn)) from
    new_yes D P okp.li okp.mi w' (sn.ext (x0.trans x)) (by have := (few_len (hf1.trans h1)).1; omega) (by have := (few_len (hf1.trans h1)).2.1; omega) (hpb.trans h))
  have PP := Lib.hid (fun h : pb = true => pats_parts (hpb.trans h))
  have HW1 := Lib.hid hW1
  obtain ⟨b0, hb0⟩ : ∃ b0, w.heap.size = b0 := ⟨_, rfl⟩
  obtain ⟨b1, hb1⟩ : ∃ b1, b0 + 1 = b1 := ⟨_, rfl⟩
  rw [hb0] at KP KL
  rw [hb1] at KL
  have H0 := Lib.hid hb0
  have H1 := Lib.hid hb1
  have SN := Lib.hid sn
  have SW := Lib.hid sw
  have LS := Lib.hid ls
  have HT := Lib.hid hT
  have OKP := Lib.hid okp
  have LOK := Lib.hid lok
  have WOK := Lib.hid wok
  have HWD := Lib.hid hwd
  have HDM := Lib.hid hdm
  have S := Lib.hid PA
  have SL := Lib.hid sl
  have OKL := Lib.hid okl
  clear sl okl hf2
  clear hW1 x0 hb0 hb1 sn sw ls hT okp lok wok hwd hdm hf1 hf3 hpb PA
  unfold patsV
  go_enter Tryz.func3, Tryz.ntmps3
  go_upto_region 1 with (fail)
  rw [← HW1.out, H0.out, H1.out]
  clear HW1 H0 H1
  go_wp2_with fail
  refine AW.out.mono ?_
  rintro e w1 ⟨rfl, x1⟩
  have X1 := Lib.hid x1
  have p0 : w1.cell? ⟨b0, 0, none⟩ = some (.slice P.x D.l.length P.c) := (KP.out.ext X1.out).cell 0
  have p1 : w1.cell? ⟨b0, 1, none⟩ = some (.slice P.y D.m.length P.d) := (KP.out.ext X1.out).cell 1
  clear x1 AW
  go_wp2_with fail
  refine (FEW1.out w1 X1.out).mono ?_
  rintro e w2 ⟨rfl, x2⟩
  have X2 := Lib.hid (X1.out.trans x2)
  clear x2 X1 FEW1 p0 p1
  cases f1 with
  | false =>
    clear NN NY FL1
    go_wp2_with fail
    go_ret
    exact ⟨rfl, X0.out.trans X2.out⟩
  | true =>
  have FM1 := Lib.hid (FL1.out rfl)
  have NN1 := Lib.hid (NN.out rfl)
  have NY1 := Lib.hid (NY.out rfl)
  clear FL1 NN NY
  have a4 : w2.cell? ⟨b1, 4, none⟩ = some (.slice SA L.n sc) := (KL.out.ext X2.out).cell 4
  go_wp2_with fail
  refine (FEW2.out w2 X2.out).mono ?_
  rintro e w3 ⟨rfl, x3⟩
  have X3 := Lib.hid (X2.out.trans x3)
  clear x3 X2 FEW2 a4
  cases f2 with
  | false =>
    clear NN1 NY1
    go_wp2_with fail
    go_ret
    exact ⟨rfl, X0.out.trans X3.out⟩
  | true =>
  have FM2 := Lib.hid (FL2.out rfl)
  clear FL2
  have a4 : w3.cell? ⟨b1, 4, none⟩ = some (.slice SA L.n sc) := (KL.out.ext X3.out).cell 4
  go_wp2_with fail
  refine (FEW3.out w3 X3.out).mono ?_
  rintro e w4 ⟨rfl, x4⟩
  have X4 := Lib.hid (X3.out.trans x4)
  clear x4 X3 FEW3 a4
  cases f3 with
  | false =>
    clear NN1 NY1
    go_wp2_with fail
    go_ret
    exact ⟨rfl, X0.out.trans X4.out⟩
  | true =>
  have a4 : w4.cell? ⟨b1, 4, none⟩ = some (.slice SA L.n sc) := (KL.out.ext X4.out).cell 4
  by_cases hL : 100 < L.n
  · have hL64 : (100 : Int) < (L.n : Int) := by omega
    clear NN1 NY1
    go_wp2_with fail
    go_ret
    exact ⟨rfl, X0.out.trans X4.out⟩
  have hL64 : ¬ (100 : Int) < (L.n : Int) := by omega
  have p0 : w4.cell? ⟨b0, 0, none⟩ = some (.slice P.x D.l.length P.c) := (KP.out.ext X4.out).cell 0
  have p1 : w4.cell? ⟨b0, 1, none⟩ = some (.slice P.y D.m.length P.d) := (KP.out.ext X4.out).cell 1
  cases pb with
  | false =>
    have NO := Lib.hid (NN1.out rfl w4 X4.out)
    clear NN1 NY1 PP
    go_wp2_with fail
    refine NO.out.mono ?_
    rintro e w5 ⟨rfl, x5⟩
    go_wp2_with fail
    go_ret
    exact ⟨rfl, X0.out.trans (X4.out.trans x5)⟩
  | true =>
  have PQ := Lib.hid (PP.out rfl)
  have NEW := Lib.hid (NY1.out rfl w4 X4.out)
  clear NN1 NY1 PP
  go_wp2_with fail
  refine NEW.out.mono ?_
  rintro e w5 hq
  obtain ⟨B, rfl, s5, x5, _⟩ := St.new X4.out hq
  have S5 := Lib.hid s5
  have X5 := Lib.hid (X4.out.trans x5)
  clear hq s5 x5 NEW p0 p1 a4 X4
  have OKX := Lib.hid (show ∀ x ∈ l, x.Ok ∧ x.ns.length ≤ 900000 from fun x hx => ⟨OKL.out x hx, by have := (FM2.out.2.2 x (by simpa using hx)).2; omega⟩)
  have CA := Lib.hid (S.out.brC W1 w5 B (D.l.map tn) S5.out A l l.length c rfl (by have := FM2.out.2.1; omega) OKX.out L SA sc LOK.out WA wl wl.length d rfl HWD.out HDM.out WOK.out (fun w' x => let y := X0.out.trans (st_old S5.out x); ⟨SL.out.ext y, LS.out.ext y, SW.out.ext y, HT.out.ext y⟩) parted)
  have KL5 := Lib.hid (KL.out.ext X5.out)
  have RB := Lib.hid (fun w' (y : Ext W1 w') => rbreaks_any D P w' (SN.out.ext (X0.out.trans y)) PQ.out.2 (by have := PQ.out.1; omega) A l l.length c (SL.out.ext (X0.out.trans y)) rfl (by have := FM2.out.2.1; omega) OKX.out L SA sc LOK.out (LS.out.ext (X0.out.trans y)) WA wl wl.length d (SW.out.ext (X0.out.trans y)) rfl WOK.out parted)
  have RL := Lib.hid (brks_len (D.l.map tn) (l.map tn) L (wl.map tw) parted)
  generalize brksA (D.l.map tn) (l.map tn) L (wl.map tw) parted = r at *
  obtain ⟨rl, re⟩ := r
  go_wp2_with (first | (refine wpList_getW (by kernel_rfl) _ rfl b1 rfl KL5.out ?_) | fail)
  refine CA.out.mono ?_
  rintro e w6 ⟨s6, _, A6, c6, rfl, k6⟩
  have X6 := Lib.hid s6.x
  have K6 := Lib.hid k6.1
  have RB := Lib.hid (RB.out w6 X6.out)
  have KL6 := Lib.hid (KL.out.ext X6.out)
  have p0 : w6.cell? ⟨b0, 0, none⟩ = some (.slice P.x D.l.length P.c) := (KP.out.ext X6.out).cell 0
  have p1 : w6.cell? ⟨b0, 1, none⟩ = some (.slice P.y D.m.length P.d) := (KP.out.ext X6.out).cell 1
  unfold patsV at RB
  dsimp only at K6 RL
  clear CA KL5 s6 k6
  go_wp2_with (first | (refine wpList_getW (by kernel_rfl) _ rfl b1 rfl KL6.out ?_) | fail)
  refine RB.out.mono ?_
  rintro e w7 ⟨v7, rfl, ho⟩
  obtain ⟨A7, c7, rfl, k7, _⟩ := ho.seen
  have X7 := Lib.hid (X6.out.trans ho.2)
  have SA7 := Lib.hid (rsame_any A6 A7 rl rl rl.length c6 rl.length c7 w7 (K6.out.ext ho.2) k7 rfl rfl (by have := RL.out; omega))
  rw [decide_eq_true (rfl : rl = rl)] at SA7
  clear ho k7 RB KL6 p0 p1
  go_wp2_with fail
  refine SA7.out.mono ?_
  rintro e w8 ⟨rfl, x8⟩
  have X8 := Lib.hid (X0.out.trans (X7.out.trans x8))
  go_wp2_with fail
  go_ret
  exact ⟨by simp, X8.out⟩
end ParaTells
end Go.Proofs.YtdiccmlpppkgpaaGreatDoor

