/- ParaShapes: where a paragraph may be broken does not hang on its widths and shapes, whatever calls answer so. Written by gen16/shapes.py. -/
import Derived.Test.YtdiccmlpppkgpaaGreatDoorAwake16
import Derived.Test.YtdiccmlpppkgpaaGreatDoorGE16
import Derived.Test.YtdiccmlpppkgpaaGreatDoorGG16
import Derived.Deep.CutBlock
import Derived.Deep.DeepCutAuto
namespace Go.Proofs.YtdiccmlpppkgpaaGreatDoor
open Go.RowKit
open Go.Lib hiding intOf
namespace ParaShapes
open L10 (TN tn patB rd patsB fewD fewp_any few_len)
open L11 (NewQ new_yes new_no TrieAt)
open L12 (St)
open L13 (TW tw checkB rfew_any)
open L14 (LayD LayOk layC layV mayL Wide wpList_getW rg14)
open L16
/-- Patterns that may be: each may be. -/
theorem pats_parts {D : PatsD} (hp : patsB (rd D) = true) : D.l.length ≤ 300 ∧ ∀ x ∈ D.l, patB (tn x) = true := by
  have h1 := L10.patsB_rd D
  rw [hp] at h1
  have h2 := h1.symm
  simp only [Bool.and_eq_true, decide_eq_true_eq, List.all_eq_true] at h2
  exact ⟨by omega, h2.2.1⟩
/-- A layout with the Left and Right of another one. -/
def mixL (L M : LayD) : LayD := ⟨fun k => if k = 7 then L.v 7 else if k = 8 then L.v 8 else M.v k, M.n, M.sh⟩
theorem mix_ok {L M : LayD} {sc mc : Nat} (h : LayOk L sc) (k : LayOk M mc) : LayOk (mixL L M) mc := ⟨fun j => by
  show Wide (if j = 7 then L.v 7 else if j = 8 then L.v 8 else M.v j)
  split
  · exact h.v 7
  · split
    · exact h.v 8
    · exact k.v j, k.sh, k.n, k.c⟩
theorem mix_cells (L M : LayD) (A : Option Addr) (c : Nat) : ((layC M A c).set 7 (.int .i64 (L.v 7))).set 8 (.int .i64 (L.v 8)) = layC (mixL L M) A c := rfl
/-- What is answered of the one, and of the other. -/
theorem both {p but : List TN} {L M : LayD} {l : List TW} : (brksA p but L l true).2 = 140 ∨ (brksA p but (mixL L M) l true).2 = 140 ∨ brksA p but L l true = brksA p but (mixL L M) l true := by
  have e7 : (mixL L M).v 7 = L.v 7 := rfl
  have e8 : (mixL L M).v 8 = L.v 8 := rfl
  unfold brksA
  rw [e7, e8]
  cases checkB l with
  | false => exact .inr (.inr rfl)
  | true =>
    cases mayL L with
    | false => exact .inl rfl
    | true =>
      cases mayL (mixL L M) with
      | false => exact .inr (.inl rfl)
      | true => exact .inr (.inr rfl)
set_option maxRecDepth 100000 in
set_option maxHeartbeats 8000000 in
theorem all (PA : Par) (D : PatsD) (P : PatsP) (okp : PatsOk D P) (L : LayD) (SA : Option Addr) (sc : Nat) (lok : LayOk L sc) (M : LayD) (MA : Option Addr) (mc : Nat) (mok : LayOk M mc) (WA : Option Addr) (wl : List CW) (d : Nat) (hwd : wl.length ≤ d) (hdm : d ≤ maxLen) (wok : ∀ x ∈ wl, x.Ok) (w : World) (sn : SeenPats w D P) (ls : SeenP w SA L.n L.sh) (ms : SeenP w MA M.n M.sh) (sw : SeenC w WA wl) (hT : Home w) :
    Calls Tryz.prog 7 #[patsV D P, .agg (layC L SA sc).toArray, .agg (layC M MA mc).toArray, .slice WA wl.length d] w (Ret w (.bool true)) := by
  obtain ⟨W1, hW1⟩ : ∃ W1, W1 = ((w.alloc (.cells #[.slice P.x D.l.length P.c, .slice P.y D.m.length P.d] 25)).alloc (.cells (layC L SA sc).toArray 28)).alloc (.cells (layC M MA mc).toArray 28) := ⟨_, rfl⟩
  have x0 : Ext w W1 := by rw [hW1]; exact (((Ext.refl _).alloc _).alloc _).alloc _
  have KP := Lib.hid (show Blk W1 w.heap.size 25 [.slice P.x D.l.length P.c, .slice P.y D.m.length P.d] by rw [hW1]; exact ((Blk.lit _ _ _ _ rfl).ext ((Ext.refl _).alloc _)).ext ((Ext.refl _).alloc _))
  have KL := Lib.hid (show Blk W1 (w.heap.size + 1) 28 (layC L SA sc) by rw [hW1]; exact (Blk.lit _ _ _ _ (by simp)).ext ((Ext.refl _).alloc _))
  have KM := Lib.hid (show Blk W1 (w.heap.size + 1 + 1) 28 (layC M MA mc) by rw [hW1]; exact Blk.lit _ _ _ _ (by simp))
  have X0 := Lib.hid x0
  have AW := Lib.hid (awake_any PA W1 (hT.ext x0))
  generalize hf1 : fewD D = f1 at *
  generalize hf3 : L13.fewB (wl.map tw) = f3 at *
  generalize hpb : patsB (rd D) = pb at *
  have FEW1 := Lib.hid (fun w' (x : Ext W1 w') => show Calls Tryz.prog 9 #[.agg #[.slice P.x D.l.length P.c, .slice P.y D.m.length P.d]] w' (Ret w' (.bool f1)) from hf1 ▸ fewp_any D P w' (sn.ext (x0.trans x)))
  have FEW3 := Lib.hid (fun w' (x : Ext W1 w') => show Calls Tryz.prog 10 #[.slice WA wl.length d] w' (Ret w' (.bool f3)) from hf3 ▸ rfew_any WA wl wl.length d w' (sw.ext (x0.trans x)) rfl)
  have FL1 := Lib.hid (fun h : f1 = true => few_len (hf1.trans h))
  have NN := Lib.hid (fun (h1 : f1 = true) (h : pb = false) w' (x : Ext W1 w') => show Calls Tryz.prog 11 #[.agg #[.slice P.x D.l.length P.c, .slice P.y D.m.length P.d]] w' (Ret w' (.tuple #[.pointer none, .int .i64 100])) from
    new_no D P okp.li okp.mi w' (sn.ext (x0.trans x)) (by have := (few_len (hf1.trans h1)).1; omega) (by have := (few_len (hf1.trans h1)).2.1; omega) (hpb.trans h))
  have NY := Lib.hid (fun (h1 : f1 = true) (h : pb = true) w' (x : Ext W1 w') => show Calls Tryz.prog 11 #[.agg #[.slice P.x D.l.length P.c, .slice P.y D.m.length P.d]] w' (NewQ w' (D.l.map tn)) from
    new_yes D P okp.li okp.mi w' (sn.ext (x0.trans x)) (by have := (few_len (hf1.trans h1)).1; omega) (by have := (few_len (hf1.trans h1)).2.1; omega) (hpb.trans h))
  have PP := Lib.hid (fun h : pb = true => pats_parts (hpb.trans h))
  have HW1 := Lib.hid hW1
  obtain ⟨b0, hb0⟩ : ∃ b0, w.heap.size = b0 := ⟨_, rfl⟩
  obtain ⟨b1, hb1⟩ : ∃ b1, b0 + 1 = b1 := ⟨_, rfl⟩
  obtain ⟨b2, hb2⟩ : ∃ b2, b1 + 1 = b2 := ⟨_, rfl⟩
  rw [hb0] at KP KL KM
  rw [hb1] at KL KM
  rw [hb2] at KM
  have H2 := Lib.hid hb2
  have MS := Lib.hid ms
  have MOK := Lib.hid mok
  have H1' := Lib.hid hb1
  have LW := Lib.hid (show w.heap.size ≤ b0 from Nat.le_of_eq hb0)
  have H0 := Lib.hid hb0
  have H1 := Lib.hid hb1
  have SN := Lib.hid sn
  have SW := Lib.hid sw
  have LS := Lib.hid ls
  have HT := Lib.hid hT
  have OKP := Lib.hid okp
  have LOK := Lib.hid lok
  have WOK := Lib.hid wok
  have HWD := Lib.hid hwd
  have HDM := Lib.hid hdm
  have S := Lib.hid PA
  clear hW1 x0 hb0 hb1 hb2 ms mok sn sw ls hT okp lok wok hwd hdm hf1 hf3 hpb PA
  unfold patsV
  go_enter Tryz.func7, Tryz.ntmps7
  go_upto_region 1 with (fail)
  rw [← HW1.out, H0.out, H1.out, H2.out]
  clear HW1 H0 H1
  go_wp2_with fail
  refine AW.out.mono ?_
  rintro e w1 ⟨rfl, x1⟩
  have X1 := Lib.hid x1
  have p0 : w1.cell? ⟨b0, 0, none⟩ = some (.slice P.x D.l.length P.c) := (KP.out.ext X1.out).cell 0
  have p1 : w1.cell? ⟨b0, 1, none⟩ = some (.slice P.y D.m.length P.d) := (KP.out.ext X1.out).cell 1
  clear x1 AW
  go_wp2_with fail
  refine (FEW1.out w1 X1.out).mono ?_
  rintro e w2 ⟨rfl, x2⟩
  have X2 := Lib.hid (X1.out.trans x2)
  clear x2 X1 FEW1 p0 p1
  cases f1 with
  | false =>
    clear NN NY FL1
    go_wp2_with fail
    go_ret
    exact ⟨rfl, X0.out.trans X2.out⟩
  | true =>
  have FM1 := Lib.hid (FL1.out rfl)
  have NN1 := Lib.hid (NN.out rfl)
  have NY1 := Lib.hid (NY.out rfl)
  clear FL1 NN NY
  have a4 : w2.cell? ⟨b1, 4, none⟩ = some (.slice SA L.n sc) := (KL.out.ext X2.out).cell 4
  go_wp2_with fail
  refine (FEW3.out w2 X2.out).mono ?_
  rintro e w3 ⟨rfl, x3⟩
  have X3 := Lib.hid (X2.out.trans x3)
  clear x3 X2 FEW3 a4
  cases f3 with
  | false =>
    clear NN1 NY1
    go_wp2_with fail
    go_ret
    exact ⟨rfl, X0.out.trans X3.out⟩
  | true =>
  have a4 : w3.cell? ⟨b1, 4, none⟩ = some (.slice SA L.n sc) := (KL.out.ext X3.out).cell 4
  by_cases hL : 100 < L.n
  · have hL64 : (100 : Int) < (L.n : Int) := by omega
    clear NN1 NY1
    go_wp2_with fail
    go_ret
    exact ⟨rfl, X0.out.trans X3.out⟩
  have hL64 : ¬ (100 : Int) < (L.n : Int) := by omega
  have c4 : w3.cell? ⟨b2, 4, none⟩ = some (.slice MA M.n mc) := (KM.out.ext X3.out).cell 4
  by_cases hM : 100 < M.n
  · have hM64 : (100 : Int) < (M.n : Int) := by omega
    clear NN1 NY1
    go_wp2_with fail
    go_ret
    exact ⟨rfl, X0.out.trans X3.out⟩
  have hM64 : ¬ (100 : Int) < (M.n : Int) := by omega
  have p0 : w3.cell? ⟨b0, 0, none⟩ = some (.slice P.x D.l.length P.c) := (KP.out.ext X3.out).cell 0
  have p1 : w3.cell? ⟨b0, 1, none⟩ = some (.slice P.y D.m.length P.d) := (KP.out.ext X3.out).cell 1
  cases pb with
  | false =>
    have NO := Lib.hid (NN1.out rfl w3 X3.out)
    clear NN1 NY1 PP
    go_wp2_with fail
    refine NO.out.mono ?_
    rintro e w5 ⟨rfl, x5⟩
    go_wp2_with fail
    go_ret
    exact ⟨rfl, X0.out.trans (X3.out.trans x5)⟩
  | true =>
  have PQ := Lib.hid (PP.out rfl)
  have NEW := Lib.hid (NY1.out rfl w3 X3.out)
  clear NN1 NY1 PP
  go_wp2_with fail
  refine NEW.out.mono ?_
  rintro e w5 hq
  obtain ⟨B, FB, rfl, x5, T5, hB, hF⟩ := hq
  have X5 := Lib.hid (X3.out.trans x5)
  have hb2w : b2 < w3.heap.size := (KM.out.ext X3.out).lt
  have hb1w : b1 < w3.heap.size := (KL.out.ext X3.out).lt
  have hb0w : b0 < w3.heap.size := (KP.out.ext X3.out).lt
  have LOW := Lib.hid (show w.heap.size ≤ w3.heap.size from (X0.out.trans X3.out).size)
  have NE := Lib.hid (show b0 ≠ B ∧ b1 ≠ B ∧ b2 ≠ B from ⟨by omega, by omega, by omega⟩)
  have TB := Lib.hid (fun (w' : World) (x : But (fun k => k = b2) w5 w') => show TrieAt w' B FB (D.l.map tn) from T5.keepB x (by omega) (fun k hk e => by have := hF k hk; omega))
  have HB := Lib.hid (show w.heap.size ≤ B from Nat.le_trans LOW.out hB)
  have q7 : w5.cell? ⟨b1, 7, none⟩ = some (.int .i64 (L.v 7)) := (KL.out.ext X5.out).cell 7
  have q8 : w5.cell? ⟨b1, 8, none⟩ = some (.int .i64 (L.v 8)) := (KL.out.ext X5.out).cell 8
  have m7 : w5.cell? ⟨b2, 7, none⟩ = some (.int .i64 (M.v 7)) := (KM.out.ext X5.out).cell 7
  have m8 : w5.cell? ⟨b2, 8, none⟩ = some (.int .i64 (M.v 8)) := (KM.out.ext X5.out).cell 8
  have f7 : w5.frozen? ⟨b2, 7, none⟩ = false := (KM.out.ext X5.out).free 7
  have f8 : w5.frozen? ⟨b2, 8, none⟩ = false := (KM.out.ext X5.out).free 8
  have hne : b1 ≠ b2 := by have := H2.out; omega
  have hwb : w.heap.size ≤ b2 := by have := H2.out; have := H1'.out; have := LW.out; omega
  have hne0 : b2 ≠ b0 := by have := H2.out; have := H1'.out; omega
  obtain ⟨w6, hw6⟩ : ∃ w6, w6 = (w5.setCell ⟨b2, 7, none⟩ (.int .i64 (L.v 7))).setCell ⟨b2, 8, none⟩ (.int .i64 (L.v 8)) := ⟨_, rfl⟩
  have KM6 := Lib.hid (show Blk w6 b2 28 (layC (mixL L M) MA mc) by rw [hw6, ← mix_cells]; exact ((KM.out.ext X5.out).set 7 _).set 8 _)
  have KL6 := Lib.hid (show Blk w6 b1 28 (layC L SA sc) by rw [hw6]; exact ((KL.out.ext X5.out).far (p := ⟨b2, 7, none⟩) (Ne.symm hne) _).far (p := ⟨b2, 8, none⟩) (Ne.symm hne) _)
  have KP6 := Lib.hid (show Blk w6 b0 25 [.slice P.x D.l.length P.c, .slice P.y D.m.length P.d] by rw [hw6]; exact ((KP.out.ext X5.out).far (p := ⟨b2, 7, none⟩) hne0 _).far (p := ⟨b2, 8, none⟩) hne0 _)
  have X6 := Lib.hid (show Ext w w6 by rw [hw6]; exact ((X0.out.trans X5.out).setCell (by show _ ≤ b2; exact hwb) _).setCell (by show _ ≤ b2; exact hwb) _)
  have S6 := Lib.hid (show St w w6 B (D.l.map tn) from ⟨X6.out, HB.out, FB, TB.out w6 (by rw [hw6]; exact (But.set (S := fun k => k = b2) w5 ⟨b2, 7, none⟩ _ rfl).trans (But.set (S := fun k => k = b2) _ ⟨b2, 8, none⟩ _ rfl) fun i h => .inl h)⟩)
  have HW6 := Lib.hid hw6
  clear x5 T5 hB hF hb2w hb1w hb0w NEW p0 p1 a4 c4 X3 TB hw6 KM KL KP hne hwb hne0
  go_upto_region 9 with (fail)
  rw [← HW6.out]
  clear HW6 q7 q8 m7 m8 f7 f8
  have OKX := Lib.hid (show ∀ x ∈ D.m, x.Ok ∧ x.ns.length ≤ 900000 from fun x hx => ⟨OKP.out.mi x hx, by have := (FM1.out.2.2 x (List.mem_append_right _ hx)).2; omega⟩)
  have ARG := Lib.hid (fun (w' : World) (y : Ext w w') => show Args w' P.y D.m L SA WA wl from ⟨SN.out.m.ext y, LS.out.ext y, SW.out.ext y, HT.out.ext y⟩)
  have ARM := Lib.hid (fun (w' : World) (y : Ext w w') => show Args w' P.y D.m (mixL L M) MA WA wl from ⟨SN.out.m.ext y, MS.out.ext y, SW.out.ext y, HT.out.ext y⟩)
  have CA := Lib.hid (S.out.brC w w6 B (D.l.map tn) S6.out P.y D.m D.m.length P.d rfl (by have := FM1.out.2.1; omega) OKX.out L SA sc LOK.out WA wl wl.length d rfl HWD.out HDM.out WOK.out (fun w' x => ARG.out w' (st_old S6.out x)) true)
  have CB := Lib.hid (fun w' (s : St w w' B (D.l.map tn)) => S.out.brC w w' B (D.l.map tn) s P.y D.m D.m.length P.d rfl (by have := FM1.out.2.1; omega) OKX.out (mixL L M) MA mc (mix_ok LOK.out MOK.out) WA wl wl.length d rfl HWD.out HDM.out WOK.out (fun w'' x => ARM.out w'' (st_old s x)) true)
  have BOTH := Lib.hid (@both (D.l.map tn) (D.m.map tn) L M (wl.map tw))
  have R1 := Lib.hid (brks_len (D.l.map tn) (D.m.map tn) L (wl.map tw) true)
  have R2 := Lib.hid (brks_len (D.l.map tn) (D.m.map tn) (mixL L M) (wl.map tw) true)
  generalize brksA (D.l.map tn) (D.m.map tn) L (wl.map tw) true = r at *
  generalize brksA (D.l.map tn) (D.m.map tn) (mixL L M) (wl.map tw) true = s at *
  obtain ⟨rl, re⟩ := r
  obtain ⟨tl, te⟩ := s
  dsimp only at BOTH R1 R2
  have p1 : w6.cell? ⟨b0, 1, none⟩ = some (.slice P.y D.m.length P.d) := KP6.out.cell 1
  go_wp2_with (first | (refine wpList_getW (by kernel_rfl) _ rfl b1 rfl KL6.out ?_) | fail)
  refine CA.out.mono ?_
  rintro e w7 ⟨s7, b7, A7, c7, rfl, k7⟩
  have K7 := Lib.hid k7
  have CB := Lib.hid (CB.out w7 s7)
  have KM7 := Lib.hid (b7.blk KM6.out (fun e => NE.out.2.2 e))
  have KP7 := Lib.hid (b7.blk KP6.out (fun e => NE.out.1 e))
  have p1 : w7.cell? ⟨b0, 1, none⟩ = some (.slice P.y D.m.length P.d) := KP7.out.cell 1
  clear CA k7 s7 b7 KL6 KM6 KP6
  go_wp2_with (first | (refine wpList_getW (by kernel_rfl) _ rfl b2 rfl KM7.out ?_) | fail)
  refine CB.out.mono ?_
  rintro e w8 ⟨s8, b8, A8, c8, rfl, k8⟩
  have K7 := Lib.hid (K7.out.ask b8)
  have X8 := Lib.hid s8.x
  dsimp only at k8
  have SM := Lib.hid (rsame_any A7 A8 rl tl rl.length c7 tl.length c8 w8 K7.out.1 k8.1 rfl rfl (by have := R1.out; omega))
  clear CB s8 b8 k8 KM7 KP7 p1 K7
  go_wp2_with fail
  refine SM.out.mono ?_
  rintro e w9 ⟨rfl, x9⟩
  have X9 := Lib.hid (X8.out.trans x9)
  clear SM x9 R1 R2 ARG ARM OKX S6 X6 X5
  generalize hsm : decide (rl = tl) = sm at *
  by_cases h1 : re = 140
  · subst h1
    clear BOTH hsm
    go_wp2_with fail
    go_ret
    exact ⟨rfl, X9.out⟩
  · have k1 : (re == 140) = false := by simpa using h1
    by_cases h2 : te = 140
    · subst h2
      clear BOTH hsm
      go_wp2_with fail
      go_ret
      exact ⟨rfl, X9.out⟩
    · have k2 : (te == 140) = false := by simpa using h2
      have h3 : rl = tl ∧ re = te := by
        rcases BOTH.out with h | h | h
        · exact absurd h h1
        · exact absurd h h2
        · exact ⟨congrArg Prod.fst h, congrArg Prod.snd h⟩
      obtain ⟨h4, h5⟩ := h3
      have h6 : sm = true := by rw [← hsm, decide_eq_true h4]
      subst h5
      subst h6
      clear BOTH hsm h4
      go_wp2_with fail
      go_ret
      exact ⟨rfl, X9.out⟩
end ParaShapes
end Go.Proofs.YtdiccmlpppkgpaaGreatDoor

