/- The landed Whole of layer 17. -/
import Derived.Test.YtmmgmcfhlhghoaaGreatDoorGI16
import Derived.Test.YtmmgmcfhlhghoaaGreatDoorPieA17
import Derived.WalkMore
import Derived.Laws.EntriesVeiled
import Derived.Deep.CutBlock
import Derived.Deep.DeepCutAuto
namespace Go.Proofs.YtmmgmcfhlhghoaaGreatDoor
open Go.RowKit
namespace L17
open L16 (Brk SeenK brkV)

/-! ### How much there is -/
theorem szP_append (a b : List (List Int)) : szP (a ++ b) = szP a + szP b := by simp [szP]
theorem szP_one (x : List Int) : szP [x] = x.length + 1 := by simp [szP]
theorem szP_len : ∀ a : List (List Int), a.length ≤ szP a
  | [] => Nat.zero_le _
  | x :: a => by
    have := szP_len a
    simp only [szP, List.map_cons, List.sum_cons, List.length_cons] at *
    omega
theorem trim_len (b c : Bool) (l : List Int) : (trimP b c l).length ≤ l.length := by
  unfold trimP
  split
  · simp
  · exact Nat.le_refl _
theorem addP_sz (g : Bool) (o : List (List Int)) (l : List Int) : szP (addP g o l) ≤ szP o + (l.length + 1) := by
  unfold addP
  split
  · rename_i h
    obtain ⟨i, z, rfl⟩ : ∃ i z, o = i ++ [z] := ⟨o.dropLast, o.getLast h.2, (List.dropLast_concat_getLast h.2).symm⟩
    simp only [List.dropLast_concat, List.getLastD_concat, szP_append, szP_one, List.length_append]
    omega
  · rw [szP_append, szP_one]; exact Nat.le_refl _
theorem lineTo_sz (on hy : Bool) (ps o : List (List Int)) : ∀ k, k ≤ ps.length → szP (lineTo on hy ps o k) ≤ szP o + szP (ps.take k)
  | 0, _ => by simp [lineTo, szP]
  | k + 1, h => by
    have ih := lineTo_sz on hy ps o k (by omega)
    have h1 := addP_sz (decide (k = 0) && on) (lineTo on hy ps o k) (trimP (decide (k + 1 = ps.length)) hy (ps.getD k []))
    have h2 := trim_len (decide (k + 1 = ps.length)) hy (ps.getD k [])
    have h3 : ps.getD k [] = ps[k] := by simp [List.getD, show k < ps.length from h]
    rw [h3] at h1 h2
    rw [lineTo, h3, List.take_succ_eq_append_getElem (show k < ps.length from h), szP_append, szP_one]
    omega
theorem szL_append (a b : List (List (List Int))) : szL (a ++ b) = szL a + szL b := by simp [szL]
theorem szL_one (x : List (List Int)) : szL [x] = szP x := by simp [szL]
theorem szL_succ (ls : List (List (List Int))) {t : Nat} (h : t < ls.length) : szL (ls.take (t + 1)) = szL (ls.take t) + szP ls[t] := by
  rw [List.take_succ_eq_append_getElem h, szL_append, szL_one]
theorem whTo_sz (ls : List (List (List Int))) (ends : List Brk) : ∀ t, t ≤ ls.length → szP (whTo ls ends t).1 ≤ szL (ls.take t)
  | 0, _ => by simp [whTo, szP, szL]
  | t + 1, h => by
    have ih := whTo_sz ls ends t (by omega)
    have h3 : ls.getD t [] = ls[t] := by simp [List.getD, show t < ls.length from h]
    have h1 := lineTo_sz (whTo ls ends t).2 (hyB (ends.getD t (0, 0, 0))) ls[t] (whTo ls ends t).1 ls[t].length (Nat.le_refl _)
    rw [List.take_length] at h1
    rw [szL_succ ls h, whTo, h3]
    dsimp only
    omega
theorem szL_take (ls : List (List (List Int))) (t : Nat) : szL (ls.take t) ≤ szL ls := by
  have e : szL ls = szL (ls.take t) + szL (ls.drop t) := by
    conv => lhs; rw [← List.take_append_drop t ls]
    rw [szL_append]
  omega
theorem szP_take (ps : List (List Int)) {k : Nat} (h : k < ps.length) : szP (ps.take k) + ps[k].length + 1 ≤ szP ps := by
  have e : szP ps = szP (ps.take (k + 1)) + szP (ps.drop (k + 1)) := by
    conv => lhs; rw [← List.take_append_drop (k + 1) ps]
    rw [szP_append]
  rw [List.take_succ_eq_append_getElem h, szP_append, szP_one] at e
  omega
/-- There is room for one more piece. -/
theorem room {ls : List (List (List Int))} {ends : List Brk} {t k : Nat} (ht : t < ls.length) (hk : k < ls[t].length) (on hy : Bool) (hz : szL ls ≤ 900000) :
    szP (lineTo on hy ls[t] (whTo ls ends t).1 k) + ls[t][k].length + 1 ≤ 900000 := by
  have h1 := lineTo_sz on hy ls[t] (whTo ls ends t).1 k (by omega)
  have h2 := whTo_sz ls ends t (by omega)
  have h3 := szP_take ls[t] hk
  have h4 := szL_succ ls ht
  have h5 := szL_take ls (t + 1)
  omega
theorem trim_init {la hy : Bool} {ys : List Int} : trimP la hy ys = if (la && hy) = true then ys.dropLast else ys := by
  unfold trimP
  cases la <;> cases hy <;> simp
  rintro rfl
  rfl
theorem seenL_less {w : World} {A : Option Addr} {l : List Int} (h : SeenL w A l) : SeenL w A l.dropLast := fun i v hv => h i v (by
  rw [List.getElem?_map, List.getElem?_dropLast] at hv
  rw [List.getElem?_map]
  split at hv
  · exact hv
  · simp at hv)
theorem add_put {g : Bool} {o : List (List Int)} (l : List Int) (h : ¬ (g = true ∧ o ≠ [])) : addP g o l = o ++ [l] := if_neg h
theorem add_glue {o : List (List Int)} (z l : List Int) : addP true (o ++ [z]) l = o ++ [z ++ l] := by simp [addP]
set_option maxRecDepth 100000 in
set_option maxHeartbeats 8000000 in
theorem whole_any (A : Option Addr) (l : List RR) (n c : Nat) (B : Option Addr) (ends : List Brk) (m d : Nat) (w : World) (hs : SeenRR w A l) (hn : n = l.length) (h1 : n ≤ 1000000) (hk : SeenK w B ends) (hm : m = ends.length) (h2 : m ≤ 1000000)
    (hcp : ∀ x ∈ l, ∀ y ∈ x.rs, y.ns.length ≤ y.c) (hz : szL (nnL l) ≤ 900000) :
    Calls Tryz.prog 11 #[.slice A n c, .slice B m d] w (WhQ w (whL (nnL l) ends)) := by
  subst hn hm
  have HS := Lib.hid hs
  have HK := Lib.hid hk
  have HCP := Lib.hid hcp
  have n64 : (l.length : Int) ≤ 1000000 := by omega
  have m64 : (ends.length : Int) ≤ 1000000 := by omega
  have HZ := Lib.hid hz
  have LNN := Lib.hid (show (nnL l).length = l.length by simp [nnL])
  have ST := Lib.hid (fun (t : Nat) (ht : t < l.length) (he : t < ends.length) => show whTo (nnL l) ends (t + 1) = (lineTo (whTo (nnL l) ends t).2 (hyB ends[t]) (nsL l[t].rs) (whTo (nnL l) ends t).1 l[t].rs.length, onB ends[t]) by
    have e1 : (nnL l).getD t [] = nsL l[t].rs := by simp [nnL, List.getD, ht]
    have e2 : ends.getD t (0, 0, 0) = ends[t] := by simp [List.getD, he]
    have e3 : (nsL l[t].rs).length = l[t].rs.length := by simp [nsL]
    rw [whTo, e1, e2, e3])
  have OP := Lib.hid (fun (t : Nat) (he : t < ends.length) => show (whTo (nnL l) ends (t + 1)).2 = onB ends[t] by
    have e2 : ends.getD t (0, 0, 0) = ends[t] := by simp [List.getD, he]
    rw [whTo, e2])
  have RM := Lib.hid (fun (t : Nat) (ht : t < l.length) (k : Nat) (hk : k < l[t].rs.length) (on hy : Bool) => show szP (lineTo on hy (nsL l[t].rs) (whTo (nnL l) ends t).1 k) + l[t].rs[k].ns.length + 1 ≤ 900000 by
    have r := room (ls := nnL l) (ends := ends) (t := t) (k := k) (by simpa [nnL] using ht) (by simpa [nnL, nsL] using hk) on hy hz
    simpa [nnL, nsL] using r)
  have PB := Lib.hid (fun (t : Nat) (ht : t < l.length) => show l[t].rs.length ≤ 900000 by
    have h3 : t < (nnL l).length := by simpa [nnL] using ht
    have h4 := szL_succ (nnL l) h3
    have h5 := szL_take (nnL l) (t + 1)
    have h6 := szP_len (nnL l)[t]
    have h7 : (nnL l)[t].length = l[t].rs.length := by simp [nnL, nsL]
    omega)
  have VV := Lib.hid (show whL (nnL l) ends = (whTo (nnL l) ends (min l.length ends.length)).1 by simp [whL, nnL])
  clear hs hk hz h1 h2 hcp
  go_enter Tryz.func11, Tryz.ntmps11
  go_wp2_with fail
  go_step3
  go_wp2_with fail
  go_step3
  go_wp2_with fail
  go_loopw [5, 13] (fun v i wr => ∃ (t : Nat) (rs : List RI), t ≤ l.length ∧ i = .int .i64 t ∧ Hid (OwnT w wr v rs) ∧ Hid (nsL rs = (whTo (nnL l) ends (min t ends.length)).1)) (fun _ i _ => l.length - (intOf i).toNat)
  case atStart => exact ⟨0, [], by omega, rfl, Lib.hid (OwnT.nil (Ext.refl _)), Lib.hid (by simp [whTo, nsL])⟩
  case round =>
    obtain ⟨t, rs, ht, rfl, HO, HN⟩ := hrel
    obtain ⟨wo, rfl⟩ : ∃ wo : World, wo = wr := ⟨_, rfl⟩
    by_cases hlt : t < l.length
    · have ht64 : (t : Int) < (l.length : Int) := by omega
      obtain ⟨⟨ad, rfl, c0⟩, -⟩ := (HS.out.ext HO.out.1.2.1).get hlt
      have SG := Lib.hid (fun (wr : World) (x : Ext w wr) => ((HS.out.ext x).get hlt).2)
      have CP := Lib.hid (HCP.out _ (List.getElem_mem hlt))
      have RM1 := Lib.hid (RM.out t hlt)
      have PB1 := Lib.hid (PB.out t hlt)
      have T1 := Lib.hid (ST.out t hlt)
      have HLT := Lib.hid hlt
      generalize l[t] = L at *
      obtain ⟨ps, LA, Lc⟩ := L
      unfold rrV at c0
      dsimp only at *
      have ht := Lib.hid ht
      have q64 : (ps.length : Int) ≤ 900000 := by have := PB1.out; omega
      have LN := Lib.hid (show (nsL ps).length = ps.length by simp [nsL])
      go_wp2_with fail
      by_cases hle : t < ends.length
      · have he64 : ¬ (ends.length : Int) ≤ (t : Int) := by omega
        have T1 := Lib.hid (T1.out hle)
        have HN1 := Lib.hid (show nsL rs = (whTo (nnL l) ends t).1 by rw [HN.out, Nat.min_eq_left (by omega)])
        clear HN
        have KG := Lib.hid (fun (wr : World) (x : Ext w wr) => (HK.out.ext x).get hle)
        have CH := Lib.hid (fun w' => hyphens_any ends[t] w')
        have NXT := Lib.hid (show min (t + 1) ends.length = t + 1 by omega)
        obtain ⟨on, hon⟩ : ∃ on, on = (whTo (nnL l) ends t).2 := ⟨_, rfl⟩
        obtain ⟨o0, ho0⟩ : ∃ o0, o0 = (whTo (nnL l) ends t).1 := ⟨_, rfl⟩
        have ONP := Lib.hid (fun (t' : Nat) (h : t = t' + 1) => show on = onB (ends[t']'(by omega)) by subst h; rw [hon]; exact OP.out t' (by omega))
        have ON0 := Lib.hid (fun h : t = 0 => show o0 = [] by subst h; rw [ho0]; rfl)
        rw [← hon, ← ho0] at T1
        rw [← ho0] at HN1 RM1
        clear hon ho0
        generalize ends[t] = E at *
        obtain ⟨k1, k2, k3⟩ := E
        generalize hyB (k1, k2, k3) = hy at *
        unfold brkV at CH
        dsimp only at CH KG
        have hle := Lib.hid hle
        go_loopw [5, 20] (fun v i wr => ∃ (k : Nat) (rs : List RI), k ≤ ps.length ∧ i = .int .i64 k ∧ Hid (OwnT w wr v rs) ∧ Hid (nsL rs = lineTo on hy (nsL ps) o0 k)) (fun _ i _ => ps.length - (intOf i).toNat)
        case atStart => exact ⟨0, rs, by omega, rfl, HO, HN1⟩
        case round =>
          clear HO HN1 c0 rs
          obtain ⟨k, rs, hk, rfl, HO, HN⟩ := hrel
          obtain ⟨wi, rfl⟩ : ∃ wi : World, wi = wr := ⟨_, rfl⟩
          by_cases hkq : k < ps.length
          · have hk64 : (k : Int) < (ps.length : Int) := by omega
            obtain ⟨⟨af, rfl, f0⟩, -⟩ := (SG.out wi HO.out.1.2.1).get hkq
            have SY := Lib.hid (fun (wr : World) (x : Ext w wr) => ((SG.out wr x).get hkq).2)
            have CY := CP.out _ (List.getElem_mem hkq)
            have RMK := Lib.hid (RM1.out k hkq on hy)
            rw [← HN.out] at RMK
            have R1 := Lib.hid (show lineTo on hy (nsL ps) o0 (k + 1) = addP (decide (k = 0) && on) (lineTo on hy (nsL ps) o0 k) (trimP (decide (k + 1 = ps.length)) hy ps[k].ns) by
              have LG : (nsL ps).getD k [] = ps[k].ns := by simp [nsL, List.getD, hkq]
              rw [lineTo, LN.out, LG])
            rw [← HN.out] at R1
            have H00 := Lib.hid (fun h : k = 0 => show nsL rs = o0 by rw [HN.out, h]; rfl)
            generalize ps[k] = y at *
            obtain ⟨ys, yA, yc⟩ := y
            unfold riV at f0
            dsimp only at *
            have y64 : (ys.length : Int) ≤ 900000 := by have := RMK.out; omega
            have cy64 : (ys.length : Int) ≤ (yc : Int) := by omega
            have LR := Lib.hid (show rs.length ≤ 900000 by have h1 := RMK.out; have h2 := szP_len (nsL rs); simp only [nsL, List.length_map] at h2; simp only [nsL] at h1; omega)
            have r64 : (rs.length : Int) ≤ 900000 := by have := LR.out; omega
            obtain ⟨A7, c7, rfl, -⟩ := HO.out.1.seen
            obtain ⟨m1, hm1⟩ : ∃ m1, ps.length = m1 + 1 := ⟨ps.length - 1, by omega⟩
            have WQ : IntKind.i64.wrap ((ps.length : Int) - 1) = (m1 : Int) := by rw [hm1]; rw [show ((m1 + 1 : Nat) : Int) - 1 = (m1 : Int) by omega]; exact IntWalk.i64_in _ (by omega)
            obtain ⟨la, hla⟩ : ∃ la, la = decide (k + 1 = ps.length) := ⟨_, rfl⟩
            rw [← hla] at R1
            have KM : ((k : Int) == (m1 : Int)) = la := by rw [hla, Bool.eq_iff_iff]; simp; omega
            have HM1 := Lib.hid hm1
            have HNEW := Lib.hid HN.out
            clear hla hm1 HN
            obtain ⟨tl, htl⟩ : ∃ tl, tl = trimP la hy ys := ⟨_, rfl⟩
            rw [← htl] at R1
            have TL0 := Lib.hid (show tl = if (la && hy) = true then ys.dropLast else ys by rw [htl]; exact trim_init)
            have TLN := Lib.hid (show tl.length ≤ ys.length by rw [htl]; exact trim_len _ _ _)
            clear htl
            go_upto_region 9 with (fail)
            clear f0
            go_cut [40] from 29 to 40 (fun v wx => v = .bool (la && hy) ∧ Hid (Ext wi wx))
            case first =>
              obtain ⟨ae, rfl, d0, d1, d2⟩ := KG.out wi HO.out.1.2.1
              clear R1 TL0 RMK SY
              cases la with
              | false =>
                go_wp2_with fail
                go_meet
                exact ⟨rfl, Lib.hid (Ext.refl _)⟩
              | true =>
                go_wp2_with fail
                refine (CH.out _).mono ?_
                rintro e w3 ⟨rfl, x3⟩
                have X3 := Lib.hid x3
                clear x3 d0 d1 d2
                go_wp2_with fail
                go_meet
                exact ⟨rfl, X3⟩
            case rest =>
            obtain ⟨rfl, X3⟩ := hcut
            obtain ⟨w3, rfl⟩ : ∃ w3 : World, w3 = wc := ⟨_, rfl⟩
            have HO := Lib.hid (HO.out.over X3.out)
            clear KM WQ X3
            obtain ⟨hv, hhv⟩ : ∃ hv, hv = (la && hy) := ⟨_, rfl⟩
            rw [← hhv] at TL0 ⊢
            clear hhv
            go_upto_if 40 with (fail)
            go_cut [9] from 41 to 46 (fun v wx => ∃ A9 c9, v = .slice A9 tl.length c9 ∧ wx = w3 ∧ Hid (∀ wr, Ext w wr → SeenL wr A9 tl))
            case first =>
              clear R1 RMK
              cases hv with
              | false =>
                have TE := Lib.hid (show tl = ys by rw [TL0.out]; rfl)
                clear TL0
                go_wp2_with fail
                go_meet
                exact ⟨yA, yc, by rw [TE.out], rfl, Lib.hid (fun wr x => by rw [TE.out]; exact SY.out wr x)⟩
              | true =>
                have TE := Lib.hid (show tl = ys.dropLast by rw [TL0.out]; rfl)
                clear TL0
                rcases Nat.eq_zero_or_pos ys.length with h0 | h0
                · have hys := List.length_eq_zero_iff.1 h0
                  subst hys
                  go_wp2_with fail
                  go_meet
                  exact ⟨yA, yc, by rw [TE.out]; rfl, rfl, Lib.hid (fun wr x => by rw [TE.out]; exact SeenL.nil)⟩
                · obtain ⟨p, hp⟩ : ∃ p, ys.length = p + 1 := ⟨ys.length - 1, by omega⟩
                  have HP := Lib.hid hp
                  have WY : IntKind.i64.wrap ((ys.length : Int) - 1) = (p : Int) := by rw [hp, show ((p + 1 : Nat) : Int) - 1 = (p : Int) by omega]; exact IntWalk.i64_in _ (by omega)
                  have MX : max (0 : Int) (p : Int) = (p : Int) := by omega
                  have pc : (p : Int) ≤ (yc : Int) := by omega
                  obtain ⟨ag, rfl⟩ : ∃ ag, yA = some ag := by
                    obtain ⟨ag, e, _⟩ := (SY.out w3 HO.out.1.2.1).get (k := 0) h0
                    exact ⟨ag, e⟩
                  clear hp h0
                  rcases Nat.eq_zero_or_pos p with rfl | hp0
                  · go_wp2_with fail
                    go_meet
                    exact ⟨some ag, yc, by rw [TE.out, List.length_dropLast, HP.out], rfl, Lib.hid (fun wr x => by rw [TE.out]; exact seenL_less (SY.out wr x))⟩
                  · go_wp2_with fail
                    go_meet
                    exact ⟨some ag, yc, by rw [TE.out, List.length_dropLast, HP.out]; rfl, rfl, Lib.hid (fun wr x => by rw [TE.out]; exact seenL_less (SY.out wr x))⟩
            case rest =>
            obtain ⟨A9, c9, rfl, hwc, S9⟩ := hcut
            subst hwc
            obtain ⟨w3, rfl⟩ : ∃ w3 : World, w3 = wc := ⟨_, rfl⟩
            clear TL0 SY
            have SML := Lib.hid (show szP (nsL rs) + tl.length + 1 ≤ 900000 by have := RMK.out; have := TLN.out; omega)
            clear RMK TLN
            obtain ⟨fr, hfr⟩ : ∃ fr, fr = !(decide (k = 0) && (on && !decide (rs = []))) := ⟨_, rfl⟩
            have HFR := Lib.hid hfr
            clear hfr
            go_upto_region 11 with (fail)
            go_cut [62] from 47 to 62 (fun v wx => v = .bool fr ∧ Hid (Ext w3 wx))
            case first =>
              clear R1 S9
              by_cases hk0 : k = 0
              · subst hk0
                have h0z : ¬ (0 : Int) < ((0 : Nat) : Int) := by omega
                rcases List.eq_nil_or_concat rs with hz | ⟨rs', z, hz⟩
                · subst hz
                  have FE := Lib.hid (show fr = true by rw [HFR.out]; simp)
                  clear HFR
                  go_wp2_with fail
                  go_meet
                  exact ⟨by rw [FE.out], Lib.hid (Ext.refl _)⟩
                · have hne : rs ≠ [] := by rw [hz]; simp
                  have FE := Lib.hid (show fr = !on by rw [HFR.out]; simp [hne])
                  clear HFR hz
                  have hrl : 0 < rs.length := List.length_pos_iff.2 hne
                  have hrz : ((rs.length : Int) == 0) = false := by simp [hne]
                  have ht0 : t ≠ 0 := fun h => hne (by have h1 := H00.out rfl; rw [ON0.out h] at h1; exact List.map_eq_nil_iff.1 h1)
                  obtain ⟨t', ht'⟩ : ∃ t', t = t' + 1 := ⟨t - 1, by omega⟩
                  have htl : t' < ends.length := by have := hle.out; omega
                  have ONE := Lib.hid (show on = onB ends[t'] from ONP.out t' ht')
                  have WT : IntKind.i64.wrap ((t : Int) - 1) = (t' : Int) := by rw [ht', show ((t' + 1 : Nat) : Int) - 1 = (t' : Int) by omega]; exact IntWalk.i64_in _ (by omega)
                  have htl64 : (t' : Int) < (ends.length : Int) := by omega
                  obtain ⟨ae, rfl, e0, e1, e2⟩ := (HK.out.ext HO.out.1.2.1).get htl
                  have CP2 := Lib.hid (fun w' => parts_any ends[t'] w')
                  have HT := Lib.hid ht'
                  clear ht' hne
                  generalize ends[t'] = E at *
                  obtain ⟨m1', m2', m3'⟩ := E
                  generalize onB (m1', m2', m3') = on' at *
                  unfold brkV at CP2
                  dsimp only at *
                  go_wp2_with fail
                  refine (CP2.out _).mono ?_
                  rintro e w4 ⟨rfl, x4⟩
                  have X4 := Lib.hid x4
                  clear x4 e0 e1 e2
                  cases on' with
                  | true =>
                    have FF := Lib.hid (show fr = false by rw [FE.out, ONE.out]; rfl)
                    go_wp2_with fail
                    go_meet
                    exact ⟨by rw [FF.out], X4⟩
                  | false =>
                    have FF := Lib.hid (show fr = true by rw [FE.out, ONE.out]; rfl)
                    go_wp2_with fail
                    go_meet
                    exact ⟨by rw [FF.out], X4⟩
              · have hkp : 0 < (k : Int) := by omega
                have FE := Lib.hid (show fr = true by rw [HFR.out]; simp [hk0])
                clear HFR
                go_wp2_with fail
                go_meet
                exact ⟨by rw [FE.out], Lib.hid (Ext.refl _)⟩
            case rest =>
            obtain ⟨rfl, X4⟩ := hcut
            obtain ⟨w4, rfl⟩ : ∃ w4 : World, w4 = wc := ⟨_, rfl⟩
            have HO := Lib.hid (HO.out.over X4.out)
            clear X4
            go_upto_if 62 with (fail)
            go_cut [5] from 63 to 65 (fun v wx => ∃ i z, Hid (OwnT w wx v (i ++ [z])) ∧ Hid (nsL i ++ [z.ns ++ tl] = lineTo on hy (nsL ps) o0 (k + 1)) ∧ Hid (z.ns.length + tl.length ≤ 900000 ∧ i.length ≤ 900000))
            case first =>
              cases fr with
              | true =>
                have NG : ¬ ((decide (k = 0) && on) = true ∧ nsL rs ≠ []) := fun h => by
                  have h1 := HFR.out
                  have h2 : decide (rs = []) = false := decide_eq_false fun e => h.2 (by rw [e]; rfl)
                  rw [h2, Bool.not_false, Bool.and_true, h.1] at h1
                  cases h1
                obtain ⟨v', w5, hr, ho⟩ := HO.out.fresh (by have := LR.out; omega) 45
                have HO5 := Lib.hid ho
                have HV := Lib.hid (show nsL rs ++ [([] : List Int) ++ tl] = lineTo on hy (nsL ps) o0 (k + 1) by rw [R1.out, add_put _ NG]; rfl)
                have SZ := Lib.hid (show ([] : List Int).length + tl.length ≤ 900000 ∧ rs.length ≤ 900000 by have := SML.out; have := LR.out; simp only [List.length_nil]; omega)
                clear ho NG R1 HNEW HFR HO
                go_wp2_with (first | (at_builtin; refine wpList_ran rfl _ _ rfl hr ?_) | fail)
                go_meet
                exact ⟨rs, ⟨[], none, 0⟩, HO5, HV, SZ⟩
              | false =>
                have GG : (decide (k = 0) && on) = true ∧ rs ≠ [] := by
                  have h1 := HFR.out
                  have h2 : (decide (k = 0) && (on && !decide (rs = []))) = true := by
                    cases h3 : (decide (k = 0) && (on && !decide (rs = []))) with
                    | true => rfl
                    | false => rw [h3] at h1; cases h1
                  rw [← Bool.and_assoc, Bool.and_eq_true] at h2
                  exact ⟨h2.1, by simpa using h2.2⟩
                obtain ⟨i, z, hz⟩ : ∃ i z, rs = i ++ [z] := ⟨rs.dropLast, rs.getLast GG.2, (List.dropLast_concat_getLast GG.2).symm⟩
                have HO5 := Lib.hid (show OwnT w w4 (.slice A7 rs.length c7) (i ++ [z]) by rw [← hz]; exact HO.out)
                have HV := Lib.hid (show nsL i ++ [z.ns ++ tl] = lineTo on hy (nsL ps) o0 (k + 1) by
                  rw [R1.out, GG.1, hz, show nsL (i ++ [z]) = nsL i ++ [z.ns] by simp [nsL], add_glue])
                have SZ := Lib.hid (show z.ns.length + tl.length ≤ 900000 ∧ i.length ≤ 900000 by
                  have h1 := SML.out
                  have h2 := LR.out
                  rw [hz] at h1 h2
                  rw [show nsL (i ++ [z]) = nsL i ++ [z.ns] by simp [nsL], szP_append, szP_one] at h1
                  simp only [List.length_append, List.length_singleton] at h2
                  omega)
                clear GG R1 HNEW HFR HO hz
                go_wp2_with fail
                go_meet
                exact ⟨i, z, HO5, HV, SZ⟩
            case rest =>
            obtain ⟨i, z, HT, HV, SZ⟩ := hcut
            obtain ⟨w5, rfl⟩ : ∃ w5 : World, w5 = wc := ⟨_, rfl⟩
            obtain ⟨g, cap, rfl, g0, gf⟩ := HT.out.1.form
            obtain ⟨A', c', w6, r6, g1, g2, o6⟩ := HT.out.grow A9 tl tl.length c9 (S9.out w5 HT.out.1.2.1) rfl (by have := SZ.out; omega) 48
            have HO6 := Lib.hid o6
            have HN6 := Lib.hid (show nsL (i ++ [⟨z.ns ++ tl, A', c'⟩]) = lineTo on hy (nsL ps) o0 (k + 1) by rw [← HV.out]; simp [nsL])
            have i64 : (i.length : Int) ≤ 900000 := by have := SZ.out; omega
            have WI : IntKind.i64.wrap (i.length : Int) = (i.length : Int) := IntWalk.i64_in _ (by omega)
            unfold riV at g0
            clear o6 HT HV SZ R1 HNEW HFR HO
            go_wp2_with (first | (at_builtin; refine wpList_ran rfl _ _ rfl r6 ?_) | fail)
            go_roundw
            case rel => exact ⟨k + 1, i ++ [⟨z.ns ++ tl, A', c'⟩], by omega, by go_num, HO6, HN6⟩
            case measure => simp [intOf]; omega
          · obtain rfl : k = ps.length := by omega
            have hk64 : ¬ (ps.length : Int) < (ps.length : Int) := by omega
            have HN2 := Lib.hid (show nsL rs = (whTo (nnL l) ends (min (t + 1) ends.length)).1 by rw [NXT.out, T1.out, HN.out])
            go_wp2_with fail
            go_roundw
            case rel => exact ⟨t + 1, rs, by have := HLT.out; omega, by go_num, HO, HN2⟩
            case measure => have := HLT.out; simp [intOf]; omega
      · have he64 : (ends.length : Int) ≤ (t : Int) := by omega
        have FIN := Lib.hid (show nsL rs = whL (nnL l) ends by rw [HN.out, VV.out, Nat.min_eq_right (by omega), Nat.min_eq_right (by have := HLT.out; omega)])
        have HN2 := Lib.hid (show nsL rs = (whTo (nnL l) ends (min (t + 1) ends.length)).1 by rw [HN.out, Nat.min_eq_right (by omega), Nat.min_eq_right (by omega)])
        clear T1 RM1 HN
        go_loopw [5, 20] (fun v i wr => i = .int .i64 (0 : Nat) ∧ Hid (OwnT w wr v rs)) (fun _ _ _ => 0)
        case atStart => exact ⟨rfl, HO⟩
        case round =>
          clear HO c0
          obtain ⟨rfl, HO⟩ := hrel
          obtain ⟨wo, rfl⟩ : ∃ wo : World, wo = wr := ⟨_, rfl⟩
          by_cases hkq : 0 < ps.length
          · have hk64 : 0 < (ps.length : Int) := by omega
            obtain ⟨⟨af, rfl, f0⟩, -⟩ := (SG.out wo HO.out.1.2.1).get hkq
            generalize ps[0] = y at *
            obtain ⟨ys, yA, yc⟩ := y
            unfold riV at f0
            dsimp only at f0
            have f0 : wo.cell? af = some (.slice yA ys.length yc) := by simpa [Addr.add] using f0
            obtain ⟨A7, c7, rfl, sr7, -⟩ := HO.out.1.read
            go_wp2_with fail
            rw [Exit.noGoto_ret]
            go_ret
            exact ⟨HO.out.1.2.1, A7, rs, c7, by rw [← FIN.out]; simp [nsL], sr7, FIN.out⟩
          · have hk64 : (ps.length : Int) = 0 := by omega
            have hz : ps = [] := List.length_eq_zero_iff.1 (by omega)
            subst hz
            go_wp2_with fail
            go_roundw
            case rel => exact ⟨t + 1, rs, by have := HLT.out; omega, by go_num, HO, HN2⟩
            case measure => have := HLT.out; simp [intOf]; omega
    · obtain rfl : t = l.length := by omega
      have ht64 : ¬ (l.length : Int) < (l.length : Int) := by omega
      obtain ⟨A7, c7, rfl, sr7, -⟩ := HO.out.1.read
      have FIN := Lib.hid (show nsL rs = whL (nnL l) ends by rw [HN.out, VV.out])
      go_wp2_with fail
      go_ret
      exact ⟨HO.out.1.2.1, A7, rs, c7, by rw [← FIN.out]; simp [nsL], sr7, FIN.out⟩
end L17
end Go.Proofs.YtmmgmcfhlhghoaaGreatDoor

