/- The landed places of layer 12, whole. -/
import Derived.Test.YtenajekmnggkeaaPlaceA12
namespace Go.Proofs.Ytenajekmnggkeaa
open Go.RowKit
open Go.Lib hiding intOf
namespace L12
open L10 (TN plainB patB tn)
open L11 (valsL TrieAt vals_any valsL_length list_size)

/-- What places leaves, and answers. -/
def PlacesQ (w : World) (B : Nat) (F : Nat → Prop) (p : List TN) (l : List Int) (e : Ending) (w' : World) : Prop :=
  But (Only B) w w' ∧ ∃ F' A c, e = .returned (.slice A l.length c) ∧ TrieAt w' B F' p ∧ (∀ k, F' k → F k ∨ (w.heap.size ≤ k ∧ k < w'.heap.size)) ∧ SeenL w' A l

theorem rem_two {v : Int} (h : 0 ≤ v) : v.tmod 2 = v % 2 := Int.tmod_eq_emod_of_nonneg h
set_option maxRecDepth 100000 in
set_option maxHeartbeats 4000000 in
theorem places_any (w : World) (B : Nat) (F : Nat → Prop) (p : List TN) (T : TrieAt w B F p) (A : Option Addr) (l : List WP) (n c : Nat) (t : ByteArray) (hs : SeenW w A l) (hn : n = l.length) (hm : n ≤ 9223372036854775807) (ht : plainB t.data.toList = true) :
    Calls Try.prog 26 #[.pointer (some ⟨B, 0, none⟩), .slice A n c, .string t] w (PlacesQ w B F p (placesL p (l.map tn) t.data.toList)) := by
  have hmf : ∀ (fn : Fn) (first cap : Array Value) (w : World), (Instr.makeFunc fn first cap).run Try.prog w = .ok (.func fn first cap) w := fun _ _ _ _ => rfl
  obtain ⟨V, hV⟩ : ∃ V, V = w.alloc (.cells #[.string t] 9) := ⟨_, rfl⟩
  have X0 : Ext w V := by rw [hV]; exact (Ext.refl _).alloc _
  have k0 : Blk V w.heap.size 9 [.string t] := by rw [hV]; exact Blk.lit _ _ _ _ rfl
  have hl := L11.plain_len ht
  rw [list_size] at hl
  have IX := Lib.hid (index_any A l n c t w.heap.size V (hs.ext X0) hn hm (k0.cell 0))
  have SN := Lib.hid (fun w' (x : Ext V w') => (hs.ext X0).ext x)
  by_cases hh : atE l t.data.toList < l.length
  · rw [idxE, if_pos hh] at IX
    have hp : placesL p (l.map tn) t.data.toList = l[atE l t.data.toList].ns := places_hit hh
    rw [hp]
    generalize atE l t.data.toList = k at *
    have G := Lib.hid (fun w' (x : Ext V w') => (SN.out w' x).get hh)
    generalize l[k].s = xs at *
    generalize l[k].A = xA at *
    generalize l[k].ns = xn at *
    generalize l[k].c = xc at *
    have hk : (k : Int) < n := by omega
    have HX := Lib.hid X0
    have TH := Lib.hid T
    clear hp hh SN hs hn X0 ht T
    go_enter Try.func26, Try.ntmps26
    go_wp2_with fail
    rw [← hV]
    clear hV
    refine IX.out.mono ?_; rintro e w1 ⟨rfl, x1⟩
    obtain ⟨⟨ad, hA, _, u1⟩, sx⟩ := G.out w1 x1
    subst hA
    have X1 := Lib.hid (HX.out.trans x1)
    have SX := Lib.hid sx
    generalize hz : xn.length = z at *
    have HZ := Lib.hid hz
    clear x1 IX G sx k0 hz
    go_wp2_with fail
    go_ret
    exact ⟨But.of_ext X1.out, F, xA, xc, by rw [← HZ.out]; rfl, TH.out.ext X1.out, fun k hk => .inl hk, SX.out⟩
  · rw [idxE, if_neg hh] at IX
    rw [places_none hh]
    have HX := Lib.hid X0
    have VA := Lib.hid (fun w' (x : Ext V w') => vals_any w' B F p ((T.ext X0).ext x) t)
    have TH := Lib.hid T
    have HO := Lib.hid (fun i => oddTo_succ p t.data.toList i)
    have HO0 := Lib.hid (show oddTo p t.data.toList 0 = [] from rfl)
    have HOL := Lib.hid (fun i => oddTo_length p t.data.toList i)
    have HOE := Lib.hid (show oddL p t.data.toList = oddTo p t.data.toList t.size by rw [← list_size]; rfl)
    have HVL := Lib.hid (show (valsL p t.data.toList).length = t.size + 1 by rw [valsL_length ht, list_size])
    have HVN := Lib.hid (fun i => odd_nonneg p t.data.toList i)
    clear hh SN hs hn X0 ht T
    go_enter Try.func26, Try.ntmps26
    go_wp2_with fail
    rw [← hV]
    clear hV
    refine IX.out.mono ?_; rintro e w1 ⟨rfl, x1⟩
    have q0 := (k0.ext x1).cell 0
    dsimp only [List.getElem?_cons_zero] at q0
    have X1 := Lib.hid x1
    have TB := Lib.hid ((TH.out.ext HX.out).ext x1).lt
    clear x1 IX
    go_wp2_with fail
    refine (VA.out _ X1.out).mono ?_; rintro e w2 ⟨b2, F2, Av, cv, rfl, T2, hF2, s2, _⟩
    have RB := Lib.hid (show ¬ (w.heap.size = B) by have := TH.out.lt; omega)
    have q0 := b2.at q0 RB.out
    have NX := Lib.hid (show But (Only B) w w2 from (But.of_ext (HX.out.trans X1.out)).trans b2 (fun i hi => .inl hi))
    have T2 := Lib.hid T2
    have HF2 := Lib.hid (show ∀ k, F2 k → F k ∨ (w.heap.size ≤ k ∧ k < w2.heap.size) from fun k hk => (hF2 k hk).imp id (fun h => ⟨Nat.le_trans (HX.out.trans X1.out).size h.1, h.2⟩))
    have S2 := Lib.hid s2
    obtain ⟨z, hz⟩ : ∃ z, z = (valsL p t.data.toList).length := ⟨_, rfl⟩
    have hzt : z = t.size + 1 := by rw [hz, HVL.out]
    have HZ := Lib.hid hz
    rw [← hz]
    generalize valsL p t.data.toList = vl at *
    generalize oddL p t.data.toList = od at *
    generalize oddTo p t.data.toList = ot at *
    clear hz b2 s2 hF2 VA k0
    have hz64 : (t.size : Int) ≤ 40 := by omega
    go_wp2_with fail
    go_loopw [9, 26] (fun v i wr => ∃ (vv : Value) (k : Nat), vv = v ∧ k ≤ t.size ∧ i = .int .i64 k ∧ Hid (OwnI w2 wr vv (ot k))) (fun _ i _ => t.size - (intOf i).toNat)
    case atStart => exact ⟨_, 0, rfl, Nat.zero_le _, rfl, Lib.hid (by rw [HO0.out]; exact OwnI.nil (Ext.refl _))⟩
    case round =>
      obtain ⟨vv, k, hvv, hk, rfl, ho⟩ := hrel
      subst hvv
      by_cases hlt : k < t.size
      · obtain ⟨ad, rfl, hc⟩ := (S2.out.ext ho.out.2).get (k := k) (by rw [← HZ.out]; omega)
        have hn := HVN.out k
        have hkz : (k : Int) < z := by omega
        have hs := HO.out k
        have hol := HOL.out k
        generalize vl.getD k 0 = x at *
        by_cases h0 : k = 0
        · subst h0
          have H2 := Lib.hid (show ot (0 + 1) = ot 0 by rw [hs, if_neg (fun h => absurd h.1 (by omega))]; simp)
          clear hs hn hc
          go_wp2_with fail
          go_roundw
          case rel => exact ⟨_, 0 + 1, rfl, by omega, by go_num, Lib.hid (by rw [H2.out]; exact ho.out)⟩
          case measure => simp [intOf]; omega
        · have h0' : (0 : Int) < (k : Int) := by omega
          by_cases hx : x % 2 = 1
          · have hr : (x.tmod 2 == 1) = true := by rw [rem_two hn, hx]; rfl
            have H2 := Lib.hid (show ot (k + 1) = ot k ++ [(k : Int)] by rw [hs, if_pos ⟨by omega, hx⟩])
            obtain ⟨v3, w3, r3, o3⟩ := ho.out.put (k : Int) (by omega) 26
            have O3 := Lib.hid o3
            clear hs hn hx o3
            go_wp2_with (at_builtin; refine wpList_ran rfl _ _ rfl r3 ?_)
            go_roundw
            case rel => exact ⟨_, k + 1, rfl, by omega, by go_num, Lib.hid (by rw [H2.out]; exact O3.out)⟩
            case measure => simp [intOf]; omega
          · have hr : (x.tmod 2 == 1) = false := by rw [rem_two hn]; simpa using hx
            have H2 := Lib.hid (show ot (k + 1) = ot k by rw [hs, if_neg (fun h => hx h.2)]; simp)
            clear hs hn hx
            go_wp2_with fail
            go_roundw
            case rel => exact ⟨_, k + 1, rfl, by omega, by go_num, Lib.hid (by rw [H2.out]; exact ho.out)⟩
            case measure => simp [intOf]; omega
      · obtain rfl : k = t.size := by omega
        obtain ⟨A9, c9, rfl, s9, _⟩ := ho.out.seen
        have FIN := Lib.hid (show PlacesQ w B F p od (.returned (.slice A9 (ot t.size).length c9)) wr from by
          refine ⟨NX.out.trans (But.of_ext (S := Only B) ho.out.2) (fun i hi => .inl hi), F2, A9, c9, by rw [HOE.out], T2.out.ext ho.out.2, fun k hk => (HF2.out k hk).imp id (fun h => ⟨h.1, Nat.lt_of_lt_of_le h.2 ho.out.2.size⟩), by rw [HOE.out]; exact s9⟩)
        go_wp2_with fail
        go_ret
        exact FIN.out
end L12
end Go.Proofs.Ytenajekmnggkeaa

