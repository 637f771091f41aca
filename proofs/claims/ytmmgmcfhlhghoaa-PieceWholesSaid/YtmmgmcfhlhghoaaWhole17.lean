/- The document's Whole of layer 17. Written by gen17/whole.py. -/
import Derived.Test.YtmmgmcfhlhghoaaPie17
import Derived.Test.YtmmgmcfhlhghoaaCut17
namespace Go.Proofs.Ytmmgmcfhlhghoaa
open Go.RowKit
namespace L17
open L16 (Brk SeenK)

theorem seenL_init {w : World} {A : Option Addr} {l : List Int} (h : SeenL w A l) : SeenL w A l.dropLast := fun i v hv => h i v (by
  rw [List.getElem?_map, List.getElem?_dropLast] at hv
  rw [List.getElem?_map]
  split at hv
  · exact hv
  · simp at hv)
theorem trimP_len (b c : Bool) (l : List Int) : (trimP b c l).length ≤ l.length := by
  unfold trimP
  split
  · simp
  · exact Nat.le_refl _
/-- Rows so far: how many, how long. -/
def Small (l : List RI) (p : Nat) : Prop := l.length ≤ p ∧ ∀ x ∈ l, x.ns.length ≤ 100 * p
theorem Small.put {l : List RI} {p : Nat} (h : Small l p) {x : RI} (hx : x.ns.length ≤ 100) : Small (l ++ [x]) (p + 1) := by
  refine ⟨by have := h.1; simp; omega, fun y hy => ?_⟩
  rcases List.mem_append.1 hy with hy | hy
  · have := h.2 y hy; omega
  · rw [List.mem_singleton.1 hy]; omega
theorem Small.glue {l : List RI} {p : Nat} {z x : RI} (h : Small (l ++ [z]) p) (hx : x.ns.length ≤ z.ns.length + 100) : Small (l ++ [x]) (p + 1) := by
  refine ⟨by have := h.1; simp at this ⊢; omega, fun y hy => ?_⟩
  rcases List.mem_append.1 hy with hy | hy
  · have := h.2 y (by simp [hy]); omega
  · rw [List.mem_singleton.1 hy]
    have := h.2 z (by simp); omega
theorem Small.mono {l : List RI} {p q : Nat} (h : Small l p) (e : p ≤ q) : Small l q := ⟨by have := h.1; omega, fun x hx => by have := h.2 x hx; omega⟩
theorem addP_put {g : Bool} {o : List (List Int)} (l : List Int) (h : ¬ (g = true ∧ o ≠ [])) : addP g o l = o ++ [l] := if_neg h
theorem addP_glue {o : List (List Int)} (z l : List Int) : addP true (o ++ [z]) l = o ++ [z ++ l] := by simp [addP]
set_option maxRecDepth 100000 in
set_option maxHeartbeats 8000000 in
theorem rwhole_any (A : Option Addr) (l : List RR) (n c : Nat) (B : Option Addr) (ends : List Brk) (m d : Nat) (w : World) (hs : SeenRR w A l) (hn : n = l.length) (h1 : n ≤ 30) (hk : SeenK w B ends) (hm : m = ends.length) (h2 : m ≤ 40)
    (hz : ∀ x ∈ l, x.rs.length ≤ 30 ∧ ∀ y ∈ x.rs, y.ns.length ≤ 100) :
    Calls Try.prog 14 #[.slice A n c, .slice B m d] w (RowsQ w (whL (nnL l) ends)) := by
  subst hn hm
  have HS := Lib.hid hs
  have HK := Lib.hid hk
  have HZ := Lib.hid hz
  have n64 : (l.length : Int) ≤ 30 := by omega
  have m64 : (ends.length : Int) ≤ 40 := by omega
  have H1 := Lib.hid h1
  have ST := Lib.hid (fun (t : Nat) (ht : t < l.length) (he : t < ends.length) => show whTo (nnL l) ends (t + 1) = (lineTo (whTo (nnL l) ends t).2 (hyB ends[t]) (nsL l[t].rs) (whTo (nnL l) ends t).1 l[t].rs.length, onB ends[t]) by
    have e1 : (nnL l).getD t [] = nsL l[t].rs := by simp [nnL, List.getD, ht]
    have e2 : ends.getD t (0, 0, 0) = ends[t] := by simp [List.getD, he]
    have e3 : (nsL l[t].rs).length = l[t].rs.length := by simp [nsL]
    rw [whTo, e1, e2, e3])
  have VV := Lib.hid (show whL (nnL l) ends = (whTo (nnL l) ends (min l.length ends.length)).1 by simp [whL, nnL])
  clear hs hk hz h1 h2
  go_enter Try.func14, Try.ntmps14
  go_wp2_with fail
  go_loopw [5, 6, 7] (fun v on i wr => ∃ (t : Nat) (rs : List RI), t ≤ l.length ∧ t ≤ ends.length ∧ i = .int .i64 t ∧ on = .bool (whTo (nnL l) ends t).2 ∧ Hid (OwnR w wr v rs) ∧ Hid (nsL rs = (whTo (nnL l) ends t).1) ∧ Hid (Small rs (t * 30))) (fun _ _ i _ => l.length - (intOf i).toNat)
  case atStart => exact ⟨0, [], by omega, by omega, rfl, rfl, Lib.hid (OwnR.nil (Ext.refl _)), Lib.hid rfl, Lib.hid ⟨Nat.le_refl _, fun x hx => by simp at hx⟩⟩
  case round =>
    obtain ⟨t, rs, ht, he, rfl, rfl, HO, HN, ZL⟩ := hrel
    obtain ⟨wo, rfl⟩ : ∃ wo : World, wo = wr := ⟨_, rfl⟩
    by_cases hlt : t < l.length
    · have ht64 : (t : Int) < (l.length : Int) := by omega
      by_cases hle : t < ends.length
      · have he64 : (t : Int) < (ends.length : Int) := by omega
        have T1 := Lib.hid (ST.out t hlt hle)
        have Z1 := Lib.hid (HZ.out _ (List.getElem_mem hlt))
        have TB := Lib.hid (show t * 30 ≤ 900 ∧ t * 30 + 30 = (t + 1) * 30 by have := H1.out; omega)
        have HG := Lib.hid (fun (wr : World) (x : Ext w wr) => (HS.out.ext x).get hlt)
        have KG := Lib.hid (fun (wr : World) (x : Ext w wr) => (HK.out.ext x).get hle)
        generalize l[t] = L at *
        generalize ends[t] = E at *
        obtain ⟨k1, k2, k3⟩ := E
        have HY := Lib.hid (show hyB (k1, k2, k3) = (decide (k1 = 2) || decide (k1 = 3)) from rfl)
        have ON := Lib.hid (show onB (k1, k2, k3) = (decide (2 ≤ k1) && decide (k1 ≤ 4)) from rfl)
        obtain ⟨on, hon⟩ : ∃ on, on = (whTo (nnL l) ends t).2 := ⟨_, rfl⟩
        obtain ⟨o0, ho0⟩ : ∃ o0, o0 = (whTo (nnL l) ends t).1 := ⟨_, rfl⟩
        have TT := Lib.hid (show whTo (nnL l) ends (t + 1) = (lineTo on (hyB (k1, k2, k3)) (nsL L.rs) o0 L.rs.length, onB (k1, k2, k3)) by rw [hon, ho0]; exact T1.out)
        rw [← hon]
        rw [← ho0] at HN
        clear hon ho0 T1
        generalize hyB (k1, k2, k3) = hy at *
        obtain ⟨ps, LA, Lc⟩ := L
        unfold rrV at HG
        dsimp only at *
        have q64 : (ps.length : Int) ≤ 30 := by have := Z1.out.1; omega
        have LN := Lib.hid (show (nsL ps).length = ps.length by simp [nsL])
        have LG := Lib.hid (fun k (hk : k < ps.length) => show (nsL ps).getD k [] = ps[k].ns by simp [nsL, List.getD, hk])
        have ht := Lib.hid ht
        have he := Lib.hid he
        have HLT := Lib.hid hlt
        go_wp2_with fail
        go_loopw [5, 8] (fun v i wr => ∃ (k : Nat) (rs : List RI), k ≤ ps.length ∧ i = .int .i64 k ∧ Hid (OwnR w wr v rs) ∧ Hid (nsL rs = lineTo on hy (nsL ps) o0 k) ∧ Hid (Small rs (t * 30 + k))) (fun _ i _ => ps.length - (intOf i).toNat)
        case atStart => exact ⟨0, rs, by omega, rfl, HO, HN, ZL⟩
        case round =>
          clear HO HN ZL rs
          obtain ⟨k, rs, hk, rfl, HO, HN, ZL⟩ := hrel
          obtain ⟨wi, rfl⟩ : ∃ wi : World, wi = wr := ⟨_, rfl⟩
          obtain ⟨⟨ad, rfl, c0⟩, sr⟩ := HG.out wi HO.out.2.1
          obtain ⟨ae, rfl, d0, _, _⟩ := KG.out wi HO.out.2.1
          by_cases hkq : k < ps.length
          · have hk64 : (k : Int) < (ps.length : Int) := by omega
            obtain ⟨⟨af, rfl, f0⟩, sy⟩ := sr.get hkq
            have Y1 := Lib.hid (Z1.out.2 _ (List.getElem_mem hkq))
            have R1 := Lib.hid (show lineTo on hy (nsL ps) o0 (k + 1) = addP (decide (k = 0) && on) (lineTo on hy (nsL ps) o0 k) (trimP (decide (k + 1 = ps.length)) hy ps[k].ns) by rw [lineTo, LN.out, LG.out k hkq])
            rw [← HN.out] at R1
            have TY := Lib.hid (fun (h : k + 1 = ps.length) => trivial)
            generalize ps[k] = y at *
            obtain ⟨ys, yA, yc⟩ := y
            unfold riV at f0
            dsimp only at *
            have y64 : (ys.length : Int) ≤ 100 := by have := Y1.out; omega
            have E1 := Lib.hid (OwnI.empty (Ext.refl wi))
            obtain ⟨v2, w2, r2, o2⟩ := E1.out.puts yA ys ys.length yc (sy.ext ((Ext.refl wi).alloc _)) rfl (by have := Y1.out; simp; omega) 36
            rw [List.nil_append] at o2
            obtain ⟨A2, c2, rfl, hcap, s2, ty2⟩ := OwnI.cap o2
            have x2 := o2.2
            have S2 := Lib.hid s2
            have T2 := Lib.hid ty2
            have ya : Ext wi (wi.alloc (.cells #[] 3)) := (Ext.refl wi).alloc _
            have ca := Ext.at ya c0
            have fa := Ext.at ya f0
            have cb := Ext.at x2 c0
            have db := Ext.at x2 d0
            clear d0 f0 ya
            clear o2 s2 ty2 E1 sy sr
            obtain ⟨m1, hm1⟩ : ∃ m1, ps.length = m1 + 1 := ⟨ps.length - 1, by omega⟩
            have WQ : IntKind.i64.wrap ((ps.length : Int) - 1) = (m1 : Int) := by rw [hm1]; rw [show ((m1 + 1 : Nat) : Int) - 1 = (m1 : Int) by omega]; exact IntWalk.i64_in _ (by omega)
            obtain ⟨la, hla⟩ : ∃ la, la = decide (k + 1 = ps.length) := ⟨_, rfl⟩
            rw [← hla] at R1
            have KM : ((k : Int) == (m1 : Int)) = la := by rw [hla, Bool.eq_iff_iff]; simp; omega
            have HM1 := Lib.hid hm1
            clear hla hm1
            go_upto_region 11 with (first | (at_builtin; refine wpList_ran rfl _ _ rfl r2 ?_) | fail)
            clear c0 ca fa r2
            obtain ⟨tl, htl⟩ : ∃ tl, tl = trimP la hy ys := ⟨_, rfl⟩
            rw [← htl] at R1
            have TL0 := Lib.hid (show tl = if la = true ∧ ys ≠ [] ∧ hy = true then ys.dropLast else ys from htl)
            have TL := Lib.hid (show tl.length ≤ 100 by rw [htl]; exact Nat.le_trans (trimP_len _ _ _) Y1.out)
            obtain ⟨hv, hhv⟩ : ∃ hv, hv = decide (la = true ∧ ys ≠ [] ∧ hy = true) := ⟨_, rfl⟩
            have HV := Lib.hid hhv
            have HYK := Lib.hid HY.out
            clear htl hhv
            go_cut [70] from 49 to 70 (fun v wx => v = .bool hv ∧ wx = w2)
            case first =>
              clear R1 cb KM WQ TL0
              cases la with
              | false =>
                have VE := Lib.hid (show hv = false by rw [HV.out]; exact decide_eq_false (fun h => absurd h.1 (by decide)))
                clear HV HYK
                go_wp2_with fail
                go_meet
                exact ⟨by rw [VE.out], rfl⟩
              | true =>
              by_cases hys : ys = []
              · subst hys
                have VE := Lib.hid (show hv = false by rw [HV.out]; exact decide_eq_false (fun h => h.2.1 rfl))
                clear HV HYK
                go_wp2_with fail
                go_meet
                exact ⟨by rw [VE.out], rfl⟩
              · have yp : 0 < (ys.length : Int) := by have := List.length_pos_iff.2 hys; omega
                by_cases h2 : k1 = 2
                · subst h2
                  have VE := Lib.hid (show hv = true by rw [HV.out]; exact decide_eq_true ⟨rfl, hys, by rw [HYK.out]; decide⟩)
                  clear HV HYK
                  go_wp2_with fail
                  go_meet
                  exact ⟨by rw [VE.out], rfl⟩
                · have k2 : (k1 == 2) = false := by simpa using h2
                  by_cases h3 : k1 = 3
                  · subst h3
                    have VE := Lib.hid (show hv = true by rw [HV.out]; exact decide_eq_true ⟨rfl, hys, by rw [HYK.out]; decide⟩)
                    clear HV HYK
                    go_wp2_with fail
                    go_meet
                    exact ⟨by rw [VE.out], rfl⟩
                  · have k3 : (k1 == 3) = false := by simpa using h3
                    have VE := Lib.hid (show hv = false by rw [HV.out]; exact decide_eq_false (fun h => by rw [HYK.out] at h; simp [h2, h3] at h))
                    clear HV HYK
                    go_wp2_with fail
                    go_meet
                    exact ⟨by rw [VE.out], rfl⟩
            case rest =>
            obtain ⟨rfl, hwc⟩ := hcut
            subst hwc
            obtain ⟨w2, rfl⟩ : ∃ w2 : World, w2 = wc := ⟨_, rfl⟩
            clear HYK
            go_upto_if 70 with (fail)
            go_cut [9] from 71 to 75 (fun v wx => ∃ A9 c9, v = .slice A9 tl.length c9 ∧ wx = w2 ∧ Hid (SeenL w2 A9 tl) ∧ Hid (TypedI w2 A9))
            case first =>
              clear R1 cb KM WQ db
              cases hv with
              | false =>
                have TE := Lib.hid (show tl = ys by rw [TL0.out]; exact if_neg (of_decide_eq_false HV.out.symm))
                clear TL0 HV
                go_wp2_with fail
                go_meet
                exact ⟨A2, c2, by rw [TE.out], rfl, TE.out ▸ S2, T2⟩
              | true =>
                have hv := of_decide_eq_true HV.out.symm
                have TE := Lib.hid (show tl = ys.dropLast by rw [TL0.out]; exact if_pos hv)
                obtain ⟨p, hp⟩ : ∃ p, ys.length = p + 1 := ⟨ys.length - 1, by have := List.length_pos_iff.2 hv.2.1; omega⟩
                have HP := Lib.hid hp
                have WY : IntKind.i64.wrap ((ys.length : Int) - 1) = (p : Int) := by rw [hp, show ((p + 1 : Nat) : Int) - 1 = (p : Int) by omega]; exact IntWalk.i64_in _ (by omega)
                have pc : (p : Int) ≤ (c2 : Int) := by omega
                obtain ⟨ag, rfl⟩ : ∃ ag, A2 = some ag := by
                  obtain ⟨ag, e, _⟩ := S2.out.get (k := 0) (by omega)
                  exact ⟨ag, e⟩
                clear hp hcap TL0 HV hv
                go_wp2_with fail
                go_meet
                exact ⟨some ag, c2, by rw [TE.out, List.length_dropLast, HP.out]; rfl, rfl, Lib.hid (TE.out ▸ seenL_init S2.out), T2⟩
            case rest =>
              obtain ⟨A9, c9, rfl, hwc, S9, T9⟩ := hcut
              subst hwc
              obtain ⟨w2, rfl⟩ : ∃ w2 : World, w2 = wc := ⟨_, rfl⟩
              have HO2 := Lib.hid (HO.out.over x2)
              clear TL0 HV S2 T2 hcap KM WQ
              by_cases hk0 : k = 0
              · subst hk0
                cases on with
                | false =>
                  have NG : ¬ ((decide (0 = 0) && false) = true ∧ nsL rs ≠ []) := fun h => absurd h.1 (by decide)
                  obtain ⟨v', w4, hr, ho⟩ := HO2.out.put ⟨tl, A9, c9⟩ S9.out T9.out (by have := ZL.out.1; have := TB.out; omega) 27
                  have HN2 := Lib.hid (show nsL (rs ++ [⟨tl, A9, c9⟩]) = lineTo false hy (nsL ps) o0 (0 + 1) by rw [R1.out, addP_put _ NG]; simp [nsL])
                  have HO3 := Lib.hid ho
                  have ZL2 := Lib.hid (ZL.out.put (x := ⟨tl, A9, c9⟩) TL.out)
                  clear R1 HO HO2 ho S9 T9 NG HN ZL TL cb db
                  unfold riV at hr
                  dsimp only at hr
                  go_wp2_with (first | (at_builtin; refine wpList_ran rfl _ _ rfl hr ?_) | fail)
                  go_roundw
                  case rel => exact ⟨0 + 1, rs ++ [⟨tl, A9, c9⟩], by omega, by go_num, HO3, HN2, ZL2⟩
                  case measure => simp [intOf]; omega
                | true =>
                  rcases List.eq_nil_or_concat rs with hz | ⟨rs', z, hz⟩
                  · subst hz
                    obtain ⟨A7, c7, rfl, _⟩ := HO2.out.seen
                    have NG : ¬ ((decide (0 = 0) && true) = true ∧ nsL [] ≠ []) := fun h => h.2 rfl
                    obtain ⟨v', w4, hr, ho⟩ := HO2.out.put ⟨tl, A9, c9⟩ S9.out T9.out (by have := ZL.out.1; have := TB.out; omega) 27
                    have HN2 := Lib.hid (show nsL ([] ++ [⟨tl, A9, c9⟩]) = lineTo true hy (nsL ps) o0 (0 + 1) by rw [R1.out, addP_put _ NG]; simp [nsL])
                    have HO3 := Lib.hid ho
                    have ZL2 := Lib.hid (ZL.out.put (x := ⟨tl, A9, c9⟩) TL.out)
                    clear R1 HO HO2 ho S9 T9 NG HN ZL TL cb db
                    unfold riV at hr
                    dsimp only at hr
                    go_wp2_with (first | (at_builtin; refine wpList_ran rfl _ _ rfl hr ?_) | fail)
                    go_roundw
                    case rel => exact ⟨0 + 1, [] ++ [⟨tl, A9, c9⟩], by omega, by go_num, HO3, HN2, ZL2⟩
                    case measure => simp [intOf]; omega
                  · rw [List.concat_eq_append] at hz
                    subst hz
                    obtain ⟨g, cap, rfl, c0, f0⟩ := HO2.out.form
                    have hp : 0 < (rs'.length : Int) + 1 := by omega
                    have RB := Lib.hid (show rs'.length ≤ 1000 by have h1 := ZL.out.1; have := TB.out; simp at h1; omega)
                    have wl1 : IntKind.i64.wrap (rs'.length : Int) = (rs'.length : Int) := IntWalk.i64_in _ (by have := RB.out; omega)
                    have hg : g < w2.heap.size := World.block_lt_of_cell? w2 _ c0
                    have SZ := Lib.hid (HO2.out.2.2 z (by simp)).1
                    have ZN := Lib.hid (show z.ns.length ≤ 100000 by have := ZL.out.2 z (by simp); have := TB.out; omega)
                    have E1 := Lib.hid (OwnI.empty (Ext.refl w2))
                    obtain ⟨v3, w3, r3, o3⟩ := E1.out.puts z.A z.ns z.ns.length z.c (SZ.out.ext ((Ext.refl w2).alloc _)) rfl (by have := ZN.out; simp; omega) 36
                    obtain ⟨v4, w4, r4, o4⟩ := o3.puts A9 tl tl.length c9 (S9.out.ext o3.2) rfl (by have := ZN.out; have := TL.out; simp; omega) 36
                    have ES := Lib.hid (show ([] : List Int) ++ z.ns ++ tl = z.ns ++ tl by simp)
                    rw [ES.out] at o4
                    obtain ⟨A4, c4, rfl, s4, _⟩ := o4.seen
                    have HO4 := HO2.out.over o4.2
                    obtain ⟨g', cap', eg, c4', f4'⟩ := HO4.form
                    simp only [Value.slice.injEq, Option.some.injEq, Addr.mk.injEq, true_and, and_true] at eg
                    obtain ⟨rfl, rfl⟩ := eg
                    have LAST := Lib.hid (OwnR.last HO4 ⟨z.ns ++ tl, A4, c4⟩ s4 (OwnI.typed o4))
                    unfold riV at c0 c4' LAST
                    dsimp only at LAST
                    have HN2 := Lib.hid (show nsL (rs' ++ [⟨z.ns ++ tl, A4, c4⟩]) = lineTo true hy (nsL ps) o0 (0 + 1) by
                      rw [R1.out, show nsL (rs' ++ [z]) = nsL rs' ++ [z.ns] by simp [nsL]]
                      exact Eq.trans (by simp [nsL]) (addP_glue (o := nsL rs') z.ns tl).symm)
                    have ZL2 := Lib.hid (Small.glue (x := ⟨z.ns ++ tl, A4, c4⟩) ZL.out (by have := TL.out; simp; omega))
                    have e45 : (z.ns ++ tl).length = z.ns.length + tl.length := by simp
                    rw [e45] at LAST
                    clear SZ ZN E1 o3 o4 s4 HO4 ES R1 HO HO2 S9 T9 HN ZL TL RB e45 cb db
                    go_wp2_with (first | (at_builtin; refine wpList_ran rfl _ _ rfl r3 ?_) | (at_builtin; refine wpList_ran rfl _ _ rfl r4 ?_) | fail)
                    go_roundw
                    case rel => exact ⟨0 + 1, rs' ++ [⟨z.ns ++ tl, A4, c4⟩], by omega, by go_num, LAST, HN2, ZL2⟩
                    case measure => simp [intOf]; omega
              · have kz : ((k : Int) == 0) = false := by simp; omega
                have NG : ¬ ((decide (k = 0) && on) = true ∧ nsL rs ≠ []) := fun h => by simp [hk0] at h
                obtain ⟨v', w4, hr, ho⟩ := HO2.out.put ⟨tl, A9, c9⟩ S9.out T9.out (by have := ZL.out.1; have := TB.out; omega) 27
                have HN2 := Lib.hid (show nsL (rs ++ [⟨tl, A9, c9⟩]) = lineTo on hy (nsL ps) o0 (k + 1) by rw [R1.out, addP_put _ NG]; simp [nsL])
                have HO3 := Lib.hid ho
                have ZL2 := Lib.hid (ZL.out.put (x := ⟨tl, A9, c9⟩) TL.out)
                clear R1 HO HO2 ho S9 T9 NG HN ZL TL cb db
                unfold riV at hr
                dsimp only at hr
                go_wp2_with (first | (at_builtin; refine wpList_ran rfl _ _ rfl hr ?_) | fail)
                go_roundw
                case rel => exact ⟨k + 1, rs ++ [⟨tl, A9, c9⟩], by omega, by go_num, HO3, HN2, ZL2⟩
                case measure => simp [intOf]; omega
          · obtain rfl : k = ps.length := by omega
            have hk64 : ¬ (ps.length : Int) < (ps.length : Int) := by omega
            have HN2 := Lib.hid (show nsL rs = (whTo (nnL l) ends (t + 1)).1 by rw [TT.out, HN.out])
            have ON2 := Lib.hid (show (whTo (nnL l) ends (t + 1)).2 = (decide (2 ≤ k1) && decide (k1 ≤ 4)) by rw [TT.out, ← ON.out])
            have ZL2 := Lib.hid (Small.mono (q := (t + 1) * 30) ZL.out (by have := TB.out; have := Z1.out.1; omega))
            clear HN ZL TT ON sr
            by_cases h2 : 2 ≤ k1
            · by_cases h4 : k1 ≤ 4
              · have OV := Lib.hid (show (whTo (nnL l) ends (t + 1)).2 = true by rw [ON2.out, decide_eq_true h2, decide_eq_true h4]; rfl)
                clear ON2
                go_wp2_with fail
                go_roundw
                case rel => exact ⟨t + 1, rs, by have := HLT.out; omega, by omega, by go_num, by rw [OV.out], HO, HN2, ZL2⟩
                case measure => have := HLT.out; simp [intOf]; omega
              · have h4' : 4 < k1 := by omega
                have OV := Lib.hid (show (whTo (nnL l) ends (t + 1)).2 = false by rw [ON2.out, decide_eq_false h4]; simp)
                clear ON2
                go_wp2_with fail
                go_roundw
                case rel => exact ⟨t + 1, rs, by have := HLT.out; omega, by omega, by go_num, by rw [OV.out], HO, HN2, ZL2⟩
                case measure => have := HLT.out; simp [intOf]; omega
            · have h2' : k1 < 2 := by omega
              have OV := Lib.hid (show (whTo (nnL l) ends (t + 1)).2 = false by rw [ON2.out, decide_eq_false h2]; rfl)
              clear ON2
              go_wp2_with fail
              go_roundw
              case rel => exact ⟨t + 1, rs, by have := HLT.out; omega, by omega, by go_num, by rw [OV.out], HO, HN2, ZL2⟩
              case measure => have := HLT.out; simp [intOf]; omega
      · obtain rfl : t = ends.length := by omega
        have he64 : ¬ (ends.length : Int) < (ends.length : Int) := by omega
        have HN2 := Lib.hid (show nsL rs = whL (nnL l) ends by rw [VV.out, HN.out, Nat.min_eq_right (by omega)])
        clear HN VV ST
        go_wp2_with fail
        go_ret
        exact ⟨_, rs, rfl, HO.out, HN2.out⟩
    · obtain rfl : t = l.length := by omega
      have ht64 : ¬ (l.length : Int) < (l.length : Int) := by omega
      have HN2 := Lib.hid (show nsL rs = whL (nnL l) ends by rw [VV.out, HN.out, Nat.min_eq_left (by omega)])
      clear HN VV ST
      go_wp2_with fail
      go_ret
      exact ⟨_, rs, rfl, HO.out, HN2.out⟩
end L17
end Go.Proofs.Ytmmgmcfhlhghoaa

