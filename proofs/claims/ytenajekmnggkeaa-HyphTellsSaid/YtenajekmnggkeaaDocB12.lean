/- The document's Points of layer 12. -/
import Derived.Test.YtenajekmnggkeaaDocA12
import Derived.Test.YtenajekmnggkeaaPointA12
import Derived.Test.YtenajekmnggkeaaRVals11
namespace Go.Proofs.Ytenajekmnggkeaa
open Go.RowKit
open Go.Lib hiding intOf
namespace L12
open L10 (TN plainB patB tn)
open L11 (valsL valsL_length list_size rvals_any)

/-- What the document's Points leaves, and answers. -/
def RPointsQ (w : World) (l : List Int) (e : Ending) (w' : World) : Prop := Ext w w' ∧ ∃ A c, e = .returned (.slice A l.length c) ∧ SeenL w' A l

set_option maxRecDepth 100000 in
set_option maxHeartbeats 16000000 in
theorem rpoints_any (D : PatsD) (P : PatsP) (w : World) (sn : SeenPats w D P) (hp : ∀ x ∈ D.l, patB (tn x) = true) (hdn : D.l.length ≤ 400) (A : Option Addr) (l : List WP) (n c : Nat) (hs : SeenW w A l) (hn : n = l.length) (hm : n ≤ 1000000)
    (ok : ∀ x ∈ l, x.Ok ∧ x.ns.length ≤ 900000) (W : Option Addr) (u : List Int) (m d : Nat) (su : SeenL w W u) (hu : m = u.length) (hmm : m ≤ 1000000) (left right : Int) :
    Calls Try.prog 16 #[patsV D P, .slice A n c, .slice W m d, .int .i64 left, .int .i64 right] w (RPointsQ w (pointsL (D.l.map tn) (l.map tn) u left right)) := by
  obtain ⟨V, hV⟩ : ∃ V, V = w.alloc (.cells #[.slice P.x D.l.length P.c, .slice P.y D.m.length P.d] 25) := ⟨_, rfl⟩
  have W0 : Ext w V := by rw [hV]; exact (Ext.refl _).alloc _
  have kB : Blk V w.heap.size 25 [.slice P.x D.l.length P.c, .slice P.y D.m.length P.d] := by rw [hV]; exact Blk.lit _ _ _ _ rfl
  have CO := Lib.hid (rcore_any W u m d V (su.ext W0) hu hmm)
  obtain ⟨t, ht⟩ : ∃ t : ByteArray, t = ⟨(coreL u).toArray⟩ := ⟨_, rfl⟩
  have htl : t.data.toList = coreL u := by rw [ht]
  have HIN := Lib.hid (core_in u)
  have htz : t.size = (coreL u).length := by rw [ht]; rfl
  rw [← ht] at CO
  rw [← htz] at HIN
  cases hb : coreB u with
  | false =>
    rw [points_no hb]
    have h0 := coreL_no hb
    rw [h0] at ht
    subst ht
    have HX := Lib.hid W0
    generalize coreN u = cn at *
    unfold patsV
    generalize D.l.length = dl at *
    generalize D.m.length = dm at *
    obtain ⟨Px, Pc, Py, Pd⟩ := P
    dsimp only at *
    clear hs su hu hmm ok htl htz hn h0 hb HIN W0 kB sn hp hdn
    go_enter Try.func16, Try.ntmps16
    go_upto_region 1 with (fail)
    rw [← hV]
    clear hV
    go_wp2_with fail
    refine CO.out.mono ?_; rintro e w1 ⟨rfl, x1⟩
    have X1 := Lib.hid (HX.out.trans x1)
    clear x1 CO
    go_wp2_with fail
    go_ret
    exact ⟨X1.out, none, 0, rfl, SeenL.nil⟩
  | true =>
    rw [points_yes hb]
    have hpl := core_plain hb
    rw [← htl] at hpl ⊢
    have htz1 := L11.plain_len hpl
    rw [list_size] at htz1 ⊢
    have hte : t.toList.isEmpty = false := by
      rw [ByteArray.toList_eq]
      cases h : t.data.toList with
      | nil => have := list_size t; rw [h] at this; simp at this; omega
      | cons a r => rfl
    generalize coreN u = cn at *
    have RVA := Lib.hid (fun w' (x : Ext V w') => rvals_any D P w' ((sn.ext W0).ext x) hp hdn t)
    have SE := Lib.hid (fun k (h : k < l.length) w' (x : Ext V w') => ((hs.ext W0).ext x).get h)
    have HE := Lib.hid (fun k (h : k < l.length) => hitE_at (t := t.data.toList) h)
    have HPL := Lib.hid (fun k (h : k < l.length) (hall : ∀ j, j < k → hitE l t.data.toList j = false) (hk : hitE l t.data.toList k = true) => show placesL (D.l.map tn) (l.map tn) t.data.toList = l[k].ns by
      have e : atE l t.data.toList = k := firstF_eq (Nat.le_of_lt h) hall (fun _ => hk)
      have h2 := places_hit (p := D.l.map tn) (l := l) (t := t.data.toList) (by rw [e]; exact h)
      rw [h2]
      simp only [e])
    have HPN := Lib.hid (fun (hall : ∀ j, j < l.length → hitE l t.data.toList j = false) => show placesL (D.l.map tn) (l.map tn) t.data.toList = oddTo (D.l.map tn) t.data.toList t.size by
      have e : atE l t.data.toList = l.length := firstF_eq (Nat.le_refl _) hall (fun h => absurd h (by omega))
      rw [places_none (by rw [e]; omega), ← list_size]; rfl)
    have OKS := Lib.hid (fun k (h : k < l.length) => (ok _ (List.getElem_mem h)).2)
    have HW := Lib.hid (fun v (hv : v ∈ placesL (D.l.map tn) (l.map tn) t.data.toList) => show -9223372036854775808 ≤ v ∧ v ≤ 9223372036854775807 by
      rcases places_mem hv with ⟨x, hx, h⟩ | h
      · exact (ok x hx).1.wide v h
      · rw [list_size] at h; omega)
    have HLN := Lib.hid (show (placesL (D.l.map tn) (l.map tn) t.data.toList).length ≤ 900000 by
      by_cases hh : atE l t.data.toList < l.length
      · rw [places_hit hh]
        exact (ok _ (List.getElem_mem hh)).2
      · rw [places_none hh]
        unfold oddL
        rw [List.length_map]
        refine Nat.le_trans (List.length_filter_le _ _) ?_
        rw [List.length_range, list_size]; omega)
    have HM := Lib.hid (show cn + t.size ≤ m by have := HIN.out; omega)
    have HO := Lib.hid (fun i => oddTo_succ (D.l.map tn) t.data.toList i)
    have HO1 := Lib.hid (show oddTo (D.l.map tn) t.data.toList 1 = [] from rfl)
    have HOL := Lib.hid (fun i => oddTo_length (D.l.map tn) t.data.toList i)
    have HVL := Lib.hid (show (valsL (D.l.map tn) t.data.toList).length = t.size + 1 by rw [valsL_length hpl, list_size])
    have HVN := Lib.hid (fun i => odd_nonneg (D.l.map tn) t.data.toList i)
    unfold L11.RValsQ at RVA
    unfold patsV at RVA ⊢
    generalize placesL (D.l.map tn) (l.map tn) t.data.toList = pl at *
    generalize oddTo (D.l.map tn) t.data.toList = ot2 at *
    generalize valsL (D.l.map tn) t.data.toList = vl at *
    generalize D.l.length = dl at *
    generalize D.m.length = dm at *
    obtain ⟨Px, Pc, Py, Pd⟩ := P
    dsimp only at kB hV RVA ⊢
    have HX := Lib.hid W0
    have KS := Lib.hid (fun k => kept_succ pl (mayB t.size left right) cn (k := k))
    have KL := Lib.hid (fun k => kept_length pl (mayB t.size left right) cn k)
    have KZ := Lib.hid (show keptL pl (mayB t.size left right) cn 0 = [] from rfl)
    have MB := Lib.hid (fun x => show mayB t.size left right x = (decide (left ≤ x) && (decide (x ≤ (t.size : Int)) && decide (right ≤ IntKind.i64.wrap ((t.size : Int) - x)))) from rfl)
    rw [← kept_full]
    generalize keptL pl (mayB t.size left right) cn = ot at *
    generalize mayB t.size left right = q at *
    obtain ⟨z, hz⟩ : ∃ z, z = pl.length := ⟨_, rfl⟩
    have HZ := Lib.hid hz
    have hz9 : (z : Int) ≤ 900000 := by have := HLN.out; omega
    rw [← hz] at ⊢
    have hn64 : (n : Int) ≤ 1000000 := by omega
    have hts64 : (t.size : Int) ≤ 40 := by omega
    have hts1 : (1 : Int) ≤ (t.size : Int) := by omega
    have HMM := Lib.hid hmm
    clear hz hs su hu hmm ok htl htz hb HIN W0 ht hpl sn hp hdn hm
    have HN := Lib.hid hn
    clear hn
    go_enter Try.func16, Try.ntmps16
    go_upto_region 1 with (fail)
    rw [← hV]
    clear hV
    have KB := Lib.hid kB
    generalize w.heap.size = R at *
    clear kB
    go_wp2_with fail
    refine CO.out.mono ?_; rintro e w1 ⟨rfl, x1⟩
    have X1 := Lib.hid x1
    clear x1 CO
    go_wp2_with fail
    go_loopw [13, 14, 15] (fun v b i wr => ∃ (vv : Value) (fb : Bool) (k : Nat), vv = v ∧ b = .bool fb ∧ k ≤ n ∧ i = .int .i64 k ∧ Hid ((fb = false ∧ (∀ j, j < k → hitE l t.data.toList j = false) ∧ vv = .slice none 0 0 ∧ Ext w1 wr) ∨ (fb = true ∧ OwnI w1 wr vv pl))) (fun _ _ i _ => n - (intOf i).toNat)
    case atStart => exact ⟨_, false, 0, rfl, rfl, Nat.zero_le _, rfl, Lib.hid (.inl ⟨rfl, fun j hj => absurd hj (by omega), rfl, Ext.refl _⟩)⟩
    case round =>
      obtain ⟨vv, fb, k, hvv, rfl, hk, rfl, hi⟩ := hrel
      subst hvv
      obtain ⟨wo, hwo⟩ : ∃ wo : World, wo = wr := ⟨_, rfl⟩
      subst hwo
      cases fb with
      | true =>
        have ho := Lib.hid (show OwnI w1 wo vv pl from by
          rcases hi.out with h | h
          · cases h.1
          · exact h.2)
        clear hi
        by_cases hlt : k < n
        · obtain ⟨A9, c9, rfl, s9, _⟩ := ho.out.seen
          have X9 := Lib.hid ho.out.2
          have S9 := Lib.hid s9
          clear ho s9
          rw [← HZ.out]
          go_wp2_with fail
          go_loopw [18, 19] (fun v i wr => ∃ (vv : Value) (k : Nat), vv = v ∧ k ≤ z ∧ i = .int .i64 k ∧ Hid (OwnI wo wr vv (ot k))) (fun _ i _ => z - (intOf i).toNat)
          case atStart => exact ⟨_, 0, rfl, Nat.zero_le _, rfl, Lib.hid (by rw [KZ.out]; exact OwnI.nil (Ext.refl _))⟩
          case round =>
            obtain ⟨vv, k, hvv, hk, rfl, ho⟩ := hrel
            subst hvv
            by_cases hlt : k < z
            · have hlt' : k < pl.length := by rw [← HZ.out]; exact hlt
              obtain ⟨ad, rfl, hc⟩ := (S9.out.ext ho.out.2).get hlt'
              have hs := KS.out k hlt'
              have hol := KL.out k
              have hmem := HW.out (pl.getD k 0) (by rw [List.getD, List.getElem?_eq_getElem hlt']; exact List.getElem_mem hlt')
              have hmb := MB.out (pl.getD k 0)
              generalize pl.getD k 0 = x at *
              obtain ⟨y, hy⟩ : ∃ y, IntKind.i64.wrap ((t.size : Int) - x) = y := ⟨_, rfl⟩
              rw [hy] at hmb
              by_cases h1 : left ≤ x
              · by_cases h2 : x ≤ (t.size : Int)
                · by_cases h3 : right ≤ y
                  · have H2 := Lib.hid (show ot (k + 1) = ot k ++ [(cn : Int) + x] by rw [hs, hmb, decide_eq_true h1, decide_eq_true h2, decide_eq_true h3]; rfl)
                    have hw : IntKind.i64.wrap (x + (cn : Int)) = cn + x := by rw [IntWalk.i64_in _ (by have := HM.out; have := HMM.out; omega)]; omega
                    obtain ⟨v3, w6, r3, o3⟩ := ho.out.put ((cn : Int) + x) (by have := HZ.out; have := HLN.out; omega) 26
                    have O3 := Lib.hid o3
                    clear hs hmb hmem o3
                    go_wp2_with (at_builtin; refine wpList_ran rfl _ _ rfl r3 ?_)
                    go_roundw
                    case rel => exact ⟨_, k + 1, rfl, by omega, by go_num, Lib.hid (by rw [H2.out]; exact O3.out)⟩
                    case measure => simp [intOf]; omega
                  · have H2 := Lib.hid (show ot (k + 1) = ot k by rw [hs, hmb, decide_eq_false h3]; simp)
                    clear hs hmb hmem
                    go_wp2_with fail
                    go_roundw
                    case rel => exact ⟨_, k + 1, rfl, by omega, by go_num, Lib.hid (by rw [H2.out]; exact ho.out)⟩
                    case measure => simp [intOf]; omega
                · have H2 := Lib.hid (show ot (k + 1) = ot k by rw [hs, hmb, decide_eq_false h2]; simp)
                  clear hs hmb hmem
                  go_wp2_with fail
                  go_roundw
                  case rel => exact ⟨_, k + 1, rfl, by omega, by go_num, Lib.hid (by rw [H2.out]; exact ho.out)⟩
                  case measure => simp [intOf]; omega
              · have H2 := Lib.hid (show ot (k + 1) = ot k by rw [hs, hmb, decide_eq_false h1]; simp)
                clear hs hmb hmem
                go_wp2_with fail
                go_roundw
                case rel => exact ⟨_, k + 1, rfl, by omega, by go_num, Lib.hid (by rw [H2.out]; exact ho.out)⟩
                case measure => simp [intOf]; omega
            · obtain rfl : k = z := by omega
              obtain ⟨A8, c8, rfl, s8, _⟩ := ho.out.seen
              have FIN := Lib.hid (show RPointsQ w (ot k) (.returned (.slice A8 (ot k).length c8)) wr from ⟨((HX.out.trans X1.out).trans X9.out).trans ho.out.2, A8, c8, rfl, s8⟩)
              go_wp2_with fail
              go_ret
              exact FIN.out
        · obtain rfl : k = n := by omega
          obtain ⟨A9, c9, rfl, s9, _⟩ := ho.out.seen
          have X9 := Lib.hid ho.out.2
          have S9 := Lib.hid s9
          clear ho s9
          rw [← HZ.out]
          go_wp2_with fail
          go_loopw [18, 19] (fun v i wr => ∃ (vv : Value) (k : Nat), vv = v ∧ k ≤ z ∧ i = .int .i64 k ∧ Hid (OwnI wo wr vv (ot k))) (fun _ i _ => z - (intOf i).toNat)
          case atStart => exact ⟨_, 0, rfl, Nat.zero_le _, rfl, Lib.hid (by rw [KZ.out]; exact OwnI.nil (Ext.refl _))⟩
          case round =>
            obtain ⟨vv, k, hvv, hk, rfl, ho⟩ := hrel
            subst hvv
            by_cases hlt : k < z
            · have hlt' : k < pl.length := by rw [← HZ.out]; exact hlt
              obtain ⟨ad, rfl, hc⟩ := (S9.out.ext ho.out.2).get hlt'
              have hs := KS.out k hlt'
              have hol := KL.out k
              have hmem := HW.out (pl.getD k 0) (by rw [List.getD, List.getElem?_eq_getElem hlt']; exact List.getElem_mem hlt')
              have hmb := MB.out (pl.getD k 0)
              generalize pl.getD k 0 = x at *
              obtain ⟨y, hy⟩ : ∃ y, IntKind.i64.wrap ((t.size : Int) - x) = y := ⟨_, rfl⟩
              rw [hy] at hmb
              by_cases h1 : left ≤ x
              · by_cases h2 : x ≤ (t.size : Int)
                · by_cases h3 : right ≤ y
                  · have H2 := Lib.hid (show ot (k + 1) = ot k ++ [(cn : Int) + x] by rw [hs, hmb, decide_eq_true h1, decide_eq_true h2, decide_eq_true h3]; rfl)
                    have hw : IntKind.i64.wrap (x + (cn : Int)) = cn + x := by rw [IntWalk.i64_in _ (by have := HM.out; have := HMM.out; omega)]; omega
                    obtain ⟨v3, w6, r3, o3⟩ := ho.out.put ((cn : Int) + x) (by have := HZ.out; have := HLN.out; omega) 26
                    have O3 := Lib.hid o3
                    clear hs hmb hmem o3
                    go_wp2_with (at_builtin; refine wpList_ran rfl _ _ rfl r3 ?_)
                    go_roundw
                    case rel => exact ⟨_, k + 1, rfl, by omega, by go_num, Lib.hid (by rw [H2.out]; exact O3.out)⟩
                    case measure => simp [intOf]; omega
                  · have H2 := Lib.hid (show ot (k + 1) = ot k by rw [hs, hmb, decide_eq_false h3]; simp)
                    clear hs hmb hmem
                    go_wp2_with fail
                    go_roundw
                    case rel => exact ⟨_, k + 1, rfl, by omega, by go_num, Lib.hid (by rw [H2.out]; exact ho.out)⟩
                    case measure => simp [intOf]; omega
                · have H2 := Lib.hid (show ot (k + 1) = ot k by rw [hs, hmb, decide_eq_false h2]; simp)
                  clear hs hmb hmem
                  go_wp2_with fail
                  go_roundw
                  case rel => exact ⟨_, k + 1, rfl, by omega, by go_num, Lib.hid (by rw [H2.out]; exact ho.out)⟩
                  case measure => simp [intOf]; omega
              · have H2 := Lib.hid (show ot (k + 1) = ot k by rw [hs, hmb, decide_eq_false h1]; simp)
                clear hs hmb hmem
                go_wp2_with fail
                go_roundw
                case rel => exact ⟨_, k + 1, rfl, by omega, by go_num, Lib.hid (by rw [H2.out]; exact ho.out)⟩
                case measure => simp [intOf]; omega
            · obtain rfl : k = z := by omega
              obtain ⟨A8, c8, rfl, s8, _⟩ := ho.out.seen
              have FIN := Lib.hid (show RPointsQ w (ot k) (.returned (.slice A8 (ot k).length c8)) wr from ⟨((HX.out.trans X1.out).trans X9.out).trans ho.out.2, A8, c8, rfl, s8⟩)
              go_wp2_with fail
              go_ret
              exact FIN.out
      | false =>
        have hi := Lib.hid (show (∀ j, j < k → hitE l t.data.toList j = false) ∧ vv = .slice none 0 0 ∧ Ext w1 wo from by
          rcases hi.out with h | h
          · exact h.2
          · cases h.1)
        obtain ⟨ha, rfl, hx⟩ := hi.out
        have HA := Lib.hid ha
        have XO := Lib.hid hx
        clear hi ha hx
        by_cases hlt : k < n
        · have hkl : k < l.length := by rw [← HN.out]; exact hlt
          obtain ⟨⟨ad, hA, u0, u1⟩, sx⟩ := SE.out k hkl wo (X1.out.trans XO.out)
          have HH := Lib.hid (HE.out k hkl)
          have HP := Lib.hid (HPL.out k hkl HA.out)
          have BE := Lib.hid (bytes_eq l[k].s t)
          have hxz := OKS.out k hkl
          rw [HH.out] at HP
          have NO := Lib.hid (fun h : hitE l t.data.toList k = false => show ∀ j, j < k + 1 → hitE l t.data.toList j = false from fun j hj => if e : j = k then e ▸ h else HA.out j (by omega))
          rw [HH.out] at NO
          rw [← BE.out] at HP NO
          clear HH BE
          generalize l[k].s = xs at *
          generalize l[k].A = xA at *
          generalize l[k].ns = xn at *
          generalize l[k].c = xc at *
          subst hA
          cases hbb : (xs.toList == t.toList) with
          | false =>
            rw [hbb] at NO
            have H := Lib.hid (NO.out rfl)
            clear NO HP u1 sx
            go_wp2_with fail
            go_roundw
            case rel => exact ⟨_, false, k + 1, rfl, rfl, by omega, by go_num, Lib.hid (.inl ⟨rfl, H.out, rfl, XO.out⟩)⟩
            case measure => simp [intOf]; omega
          | true =>
            rw [hbb] at HP
            have H := Lib.hid (HP.out rfl)
            have o0 := OwnI.empty XO.out
            obtain ⟨v3, w3, r3, o3⟩ := o0.puts xA xn xn.length xc (sx.ext ((Ext.refl wo).alloc (.cells #[] 3))) rfl (by simp; omega) 26
            have O3 := Lib.hid o3
            have u1 := ((Ext.refl wo).alloc (.cells #[] 3)).at u1
            generalize xn.length = xl at *
            clear NO HP sx o3 o0
            go_wp2_with (at_builtin; refine wpList_ran rfl _ _ rfl r3 ?_)
            go_roundw
            case rel => exact ⟨_, true, k + 1, rfl, rfl, by omega, by go_num, Lib.hid (.inr ⟨rfl, by rw [H.out]; exact O3.out⟩)⟩
            case measure => simp [intOf]; omega
        · obtain rfl : k = n := by omega
          have HPE := Lib.hid (HPN.out (by rw [← HN.out]; exact HA.out))
          have q0 := (KB.out.ext (X1.out.trans XO.out)).cell 0
          have q1 := (KB.out.ext (X1.out.trans XO.out)).cell 1
          dsimp only [List.getElem?_cons_zero, List.getElem?_cons_succ] at q0 q1
          have RV := Lib.hid (RVA.out wo (X1.out.trans XO.out))
          obtain ⟨zv, hzv⟩ : ∃ zv, zv = vl.length := ⟨_, rfl⟩
          have hzt : zv = t.size + 1 := by rw [hzv, HVL.out]
          have HZV := Lib.hid hzv
          rw [← hzv] at RV
          clear hzv RVA
          go_wp2_with fail
          refine RV.out.mono ?_; rintro e w2 ⟨x2, Av, cv, rfl, sv⟩
          have SV := Lib.hid sv
          have XO2 := Lib.hid (XO.out.trans x2)
          clear x2 sv RV q0 q1 HA
          go_wp2_with fail
          go_loopw [13, 17] (fun v i wr => ∃ (vv : Value) (k : Nat), vv = v ∧ 1 ≤ k ∧ k ≤ t.size ∧ i = .int .i64 k ∧ Hid (OwnI w2 wr vv (ot2 k))) (fun _ i _ => t.size - (intOf i).toNat)
          case atStart => exact ⟨_, 1, rfl, Nat.le_refl _, by omega, rfl, Lib.hid (by rw [HO1.out]; exact OwnI.nil (Ext.refl _))⟩
          case round =>
            obtain ⟨vv, k, hvv, hk1, hk, rfl, ho⟩ := hrel
            subst hvv
            by_cases hlt : k < t.size
            · obtain ⟨ad, rfl, hc⟩ := (SV.out.ext ho.out.2).get (k := k) (by rw [← HZV.out]; omega)
              have hn := HVN.out k
              have hkz : (k : Int) < zv := by omega
              have hs := HO.out k
              have hol := HOL.out k
              generalize vl.getD k 0 = x at *
              by_cases hx : x % 2 = 1
              · have hr : (x.tmod 2 == 1) = true := by rw [rem_two hn, hx]; rfl
                have H2 := Lib.hid (show ot2 (k + 1) = ot2 k ++ [(k : Int)] by rw [hs, if_pos ⟨by omega, hx⟩])
                obtain ⟨v3, w3, r3, o3⟩ := ho.out.put (k : Int) (by omega) 26
                have O3 := Lib.hid o3
                clear hs hn hx o3
                go_wp2_with (at_builtin; refine wpList_ran rfl _ _ rfl r3 ?_)
                go_roundw
                case rel => exact ⟨_, k + 1, rfl, by omega, by omega, by go_num, Lib.hid (by rw [H2.out]; exact O3.out)⟩
                case measure => simp [intOf]; omega
              · have hr : (x.tmod 2 == 1) = false := by rw [rem_two hn]; simpa using hx
                have H2 := Lib.hid (show ot2 (k + 1) = ot2 k by rw [hs, if_neg (fun h => hx h.2)]; simp)
                clear hs hn hx
                go_wp2_with fail
                go_roundw
                case rel => exact ⟨_, k + 1, rfl, by omega, by omega, by go_num, Lib.hid (by rw [H2.out]; exact ho.out)⟩
                case measure => simp [intOf]; omega
            · obtain rfl : k = t.size := by omega
              obtain ⟨wo, hwo⟩ : ∃ wo : World, wo = wr := ⟨_, rfl⟩
              subst hwo
              rw [← HPE.out] at ho
              obtain ⟨A9, c9, rfl, s9, _⟩ := ho.out.seen
              have X9 := Lib.hid (XO2.out.trans ho.out.2)
              have S9 := Lib.hid s9
              clear ho s9
              rw [← HZ.out]
              go_wp2_with fail
              go_loopw [18, 19] (fun v i wr => ∃ (vv : Value) (k : Nat), vv = v ∧ k ≤ z ∧ i = .int .i64 k ∧ Hid (OwnI wo wr vv (ot k))) (fun _ i _ => z - (intOf i).toNat)
              case atStart => exact ⟨_, 0, rfl, Nat.zero_le _, rfl, Lib.hid (by rw [KZ.out]; exact OwnI.nil (Ext.refl _))⟩
              case round =>
                obtain ⟨vv, k, hvv, hk, rfl, ho⟩ := hrel
                subst hvv
                by_cases hlt : k < z
                · have hlt' : k < pl.length := by rw [← HZ.out]; exact hlt
                  obtain ⟨ad, rfl, hc⟩ := (S9.out.ext ho.out.2).get hlt'
                  have hs := KS.out k hlt'
                  have hol := KL.out k
                  have hmem := HW.out (pl.getD k 0) (by rw [List.getD, List.getElem?_eq_getElem hlt']; exact List.getElem_mem hlt')
                  have hmb := MB.out (pl.getD k 0)
                  generalize pl.getD k 0 = x at *
                  obtain ⟨y, hy⟩ : ∃ y, IntKind.i64.wrap ((t.size : Int) - x) = y := ⟨_, rfl⟩
                  rw [hy] at hmb
                  by_cases h1 : left ≤ x
                  · by_cases h2 : x ≤ (t.size : Int)
                    · by_cases h3 : right ≤ y
                      · have H2 := Lib.hid (show ot (k + 1) = ot k ++ [(cn : Int) + x] by rw [hs, hmb, decide_eq_true h1, decide_eq_true h2, decide_eq_true h3]; rfl)
                        have hw : IntKind.i64.wrap (x + (cn : Int)) = cn + x := by rw [IntWalk.i64_in _ (by have := HM.out; have := HMM.out; omega)]; omega
                        obtain ⟨v3, w6, r3, o3⟩ := ho.out.put ((cn : Int) + x) (by have := HZ.out; have := HLN.out; omega) 26
                        have O3 := Lib.hid o3
                        clear hs hmb hmem o3
                        go_wp2_with (at_builtin; refine wpList_ran rfl _ _ rfl r3 ?_)
                        go_roundw
                        case rel => exact ⟨_, k + 1, rfl, by omega, by go_num, Lib.hid (by rw [H2.out]; exact O3.out)⟩
                        case measure => simp [intOf]; omega
                      · have H2 := Lib.hid (show ot (k + 1) = ot k by rw [hs, hmb, decide_eq_false h3]; simp)
                        clear hs hmb hmem
                        go_wp2_with fail
                        go_roundw
                        case rel => exact ⟨_, k + 1, rfl, by omega, by go_num, Lib.hid (by rw [H2.out]; exact ho.out)⟩
                        case measure => simp [intOf]; omega
                    · have H2 := Lib.hid (show ot (k + 1) = ot k by rw [hs, hmb, decide_eq_false h2]; simp)
                      clear hs hmb hmem
                      go_wp2_with fail
                      go_roundw
                      case rel => exact ⟨_, k + 1, rfl, by omega, by go_num, Lib.hid (by rw [H2.out]; exact ho.out)⟩
                      case measure => simp [intOf]; omega
                  · have H2 := Lib.hid (show ot (k + 1) = ot k by rw [hs, hmb, decide_eq_false h1]; simp)
                    clear hs hmb hmem
                    go_wp2_with fail
                    go_roundw
                    case rel => exact ⟨_, k + 1, rfl, by omega, by go_num, Lib.hid (by rw [H2.out]; exact ho.out)⟩
                    case measure => simp [intOf]; omega
                · obtain rfl : k = z := by omega
                  obtain ⟨A8, c8, rfl, s8, _⟩ := ho.out.seen
                  have FIN := Lib.hid (show RPointsQ w (ot k) (.returned (.slice A8 (ot k).length c8)) wr from ⟨((HX.out.trans X1.out).trans X9.out).trans ho.out.2, A8, c8, rfl, s8⟩)
                  go_wp2_with fail
                  go_ret
                  exact FIN.out
end L12
end Go.Proofs.Ytenajekmnggkeaa

