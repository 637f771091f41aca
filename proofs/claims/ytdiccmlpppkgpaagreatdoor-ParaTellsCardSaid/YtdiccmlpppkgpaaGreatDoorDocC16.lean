/- The document's Breaks. -/
import Derived.Test.YtdiccmlpppkgpaaGreatDoorDocB16
namespace Go.Proofs.YtdiccmlpppkgpaaGreatDoor
open Go.RowKit
open Go.Lib hiding intOf
namespace L16
open L10 (TN patB tn)
open L13 (TW tw checkB wordB)
open L14 (LayD layC LayOk mayL wpList_getW)

/-- Words that may be: each has 1 to 60 codes, and as many places at most. -/
theorem words_fit {wl : List CW} (h : checkB (wl.map tw) = true) : wl.length ≤ 110 ∧ ∀ x ∈ wl, 1 ≤ x.cs.length ∧ x.cs.length ≤ 1000 ∧ x.ss.length ≤ 1000 := by
  simp only [checkB, Bool.and_eq_true, decide_eq_true_eq, List.all_eq_true, List.length_map] at h
  refine ⟨by omega, fun x hx => ?_⟩
  have hw := h.2.1 (tw x) (List.mem_map.2 ⟨x, hx, rfl⟩)
  have h1 := L13.word_short hw
  simp only [wordB, Bool.and_eq_true, decide_eq_true_eq] at hw
  have h2 := L10.rises_length _ _ hw.2.2 (by omega)
  have e1 : (tw x).1.length = x.cs.length := rfl
  have e2 : (tw x).2.length = x.ss.length := rfl
  omega
/-- Own breaks, made since the call, and an error. -/
def RBrksQ (w : World) (r : List Brk × Int) (e : Ending) (w' : World) : Prop := ∃ v, e = .returned (.tuple #[v, .int .i64 r.2]) ∧ OwnK w w' v r.1
set_option maxRecDepth 100000 in
set_option maxHeartbeats 2000000 in
theorem rbreaks_any (D : PatsD) (P : PatsP) (w : World) (sn : SeenPats w D P) (hp : ∀ x ∈ D.l, patB (tn x) = true) (hdn : D.l.length ≤ 400) (A : Option Addr) (l : List WP) (n c : Nat) (hs : SeenW w A l) (hn : n = l.length) (hm : n ≤ 1000000)
    (ok : ∀ x ∈ l, x.Ok ∧ x.ns.length ≤ 900000) (L : LayD) (SA : Option Addr) (sc : Nat) (lok : LayOk L sc) (ls : SeenP w SA L.n L.sh) (WA : Option Addr) (wl : List CW) (m d : Nat) (sw : SeenC w WA wl) (hwn : m = wl.length) (wok : ∀ x ∈ wl, x.Ok) (parted : Bool) :
    Calls Tryz.prog 13 #[patsV D P, .slice A n c, .agg (layC L SA sc).toArray, .slice WA m d, .bool parted] w (RBrksQ w (brksA (D.l.map tn) (l.map tn) L (wl.map tw) parted)) := by
  obtain ⟨W1, hW1⟩ : ∃ W1, W1 = (w.alloc (.cells #[.slice P.x D.l.length P.c, .slice P.y D.m.length P.d] 25)).alloc (.cells (layC L SA sc).toArray 28) := ⟨_, rfl⟩
  have x0 : Ext w W1 := by rw [hW1]; exact ((Ext.refl _).alloc _).alloc _
  have KP := Lib.hid (show Blk W1 w.heap.size 25 [.slice P.x D.l.length P.c, .slice P.y D.m.length P.d] by rw [hW1]; exact (Blk.lit _ _ _ _ rfl).ext ((Ext.refl _).alloc _))
  have KL := Lib.hid (show Blk W1 (w.heap.size + 1) 28 (layC L SA sc) by rw [hW1]; exact Blk.lit _ _ _ _ (by simp))
  have X := Lib.hid x0
  have C1 := Lib.hid (L13.rcheck_any WA wl m d W1 (sw.ext x0) hwn wok)
  have C2 := Lib.hid (fun (V : World) (y : Ext W1 V) => show Calls Tryz.prog 26 #[.agg (layC L SA sc).toArray] V (Ret V (.bool (mayL L))) from L14.rcheck_any L SA sc V lok (ls.ext (x0.trans y)))
  have AF := Lib.hid (fun (h : checkB (wl.map tw) = true) (V : World) (y : Ext W1 V) => rall_any D P V (sn.ext (x0.trans y)) hp hdn A l n c (hs.ext (x0.trans y)) hn hm ok L SA sc WA wl m d (sw.ext (x0.trans y)) hwn (by rw [hwn]; exact (words_fit h).1) (words_fit h).2 parted)
  have E := Lib.hid (show brksA (D.l.map tn) (l.map tn) L (wl.map tw) parted = if checkB (wl.map tw) = true then (if mayL L = true then (if (allL (D.l.map tn) (l.map tn) (L.v 7) (L.v 8) parted (wl.map tw)).length ≤ 200 then (allL (D.l.map tn) (l.map tn) (L.v 7) (L.v 8) parted (wl.map tw), 0) else ([], 160)) else ([], 140)) else ([], 130) from rfl)
  generalize brksA (D.l.map tn) (l.map tn) L (wl.map tw) parted = r at *
  generalize allL (D.l.map tn) (l.map tn) (L.v 7) (L.v 8) parted (wl.map tw) = al at *
  generalize checkB (wl.map tw) = cb at *
  generalize hml : mayL L = mb at *
  have HW1 := Lib.hid hW1
  obtain ⟨b0, hb0⟩ : ∃ b0, w.heap.size = b0 := ⟨_, rfl⟩
  obtain ⟨b1, hb1⟩ : ∃ b1, b0 + 1 = b1 := ⟨_, rfl⟩
  rw [hb0] at KP KL
  rw [hb1] at KL
  have H0 := Lib.hid hb0
  have H1 := Lib.hid hb1
  clear hW1 hb0 hb1 sn hp hdn hs hn hm ok lok ls sw hwn wok x0 hml
  unfold patsV
  unfold patsV at AF
  go_enter Tryz.func13, Tryz.ntmps13
  go_upto_region 1 with (fail)
  rw [← HW1.out, H0.out, H1.out]
  clear HW1 H0 H1
  go_wp2_with fail
  refine C1.out.mono ?_
  rintro e w1 ⟨rfl, x1⟩
  have X1 := Lib.hid x1
  clear x1 C1
  cases cb with
  | false =>
    have EV := Lib.hid (show r = ([], 130) by rw [E.out]; rfl)
    clear E AF C2
    go_wp2_with fail
    go_ret2
    rw [EV.out]
    exact ⟨_, rfl, OwnK.nil (X.out.trans X1.out)⟩
  | true =>
  have AG := Lib.hid (AF.out rfl)
  clear AF
  have C2 := Lib.hid (C2.out w1 X1.out)
  have KL1 := Lib.hid (KL.out.ext X1.out)
  go_wp2_with (first | (refine wpList_getW (by kernel_rfl) _ rfl b1 rfl KL1.out ?_) | fail)
  refine C2.out.mono ?_
  rintro e w2 ⟨rfl, x2⟩
  have X2 := Lib.hid (X1.out.trans x2)
  clear x2 C2 KL1
  cases mb with
  | false =>
    have EV := Lib.hid (show r = ([], 140) by rw [E.out]; rfl)
    clear E AG
    go_wp2_with fail
    go_ret2
    rw [EV.out]
    exact ⟨_, rfl, OwnK.nil (X.out.trans X2.out)⟩
  | true =>
  have AH := Lib.hid (AG.out w2 X2.out)
  have KL2 := Lib.hid (KL.out.ext X2.out)
  have p0 : w2.cell? ⟨b0, 0, none⟩ = some (.slice P.x D.l.length P.c) := (KP.out.ext X2.out).cell 0
  have p1 : w2.cell? ⟨b0, 1, none⟩ = some (.slice P.y D.m.length P.d) := (KP.out.ext X2.out).cell 1
  go_wp2_with (first | (refine wpList_getW (by kernel_rfl) _ rfl b1 rfl KL2.out ?_) | fail)
  refine AH.out.mono ?_
  rintro e w3 ⟨v3, rfl, ho⟩
  obtain ⟨A3, c3, rfl, _, _⟩ := ho.seen
  have OW := Lib.hid (OwnK.down (X.out.trans X2.out) ho)
  clear ho AG AH KL2 p0 p1
  have E := Lib.hid (show r = if al.length ≤ 200 then (al, 0) else ([], 160) by rw [E.out]; rfl)
  generalize hz : al.length = z at *
  by_cases h : z ≤ 200
  · have h64 : (z : Int) ≤ 200 := by omega
    have EV := Lib.hid (show r = (al, 0) by rw [E.out, if_pos h])
    clear E
    go_wp2_with fail
    go_ret2
    rw [EV.out]
    exact ⟨_, rfl, OW.out⟩
  · have h64 : ¬ (z : Int) ≤ 200 := by omega
    have EV := Lib.hid (show r = ([], 160) by rw [E.out, if_neg h])
    clear E
    go_wp2_with fail
    go_ret2
    rw [EV.out]
    exact ⟨_, rfl, OwnK.nil OW.out.2⟩
end L16
end Go.Proofs.YtdiccmlpppkgpaaGreatDoor

