/- The document's letter and Core of layer 12. -/
import Derived.Test.YtenajekmnggkeaaCoreB12
namespace Go.Proofs.Ytenajekmnggkeaa
open Go.RowKit
namespace L12

theorem letter_any (c : Int) (w : World) : Calls Try.prog 22 #[.int .i64 c] w (Ret w (.int .i64 (small c))) := by
  by_cases h1 : 65 ≤ c ∧ c ≤ 90
  · rw [show small c = c + 32 from if_pos h1]
    have hw : IntKind.i64.wrap (c + 32) = c + 32 := IntWalk.i64_in _ (by omega)
    have h3 : ¬ 97 ≤ c := by omega
    obtain ⟨h1, h2⟩ := h1
    go_enter Try.func22, Try.ntmps22
    go_wp2_with fail
    go_ret
    exact ⟨rfl, Ext.refl _⟩
  · by_cases h2 : 97 ≤ c ∧ c ≤ 122
    · rw [show small c = c by rw [small, if_neg h1, if_pos h2]]
      obtain ⟨h2, h3⟩ := h2
      clear h1
      go_enter Try.func22, Try.ntmps22
      go_wp2_with fail
      go_ret
      exact ⟨rfl, Ext.refl _⟩
    · rw [show small c = 0 by rw [small, if_neg h1, if_neg h2]]
      by_cases h3 : 65 ≤ c
      · have h4 : ¬ c ≤ 90 := by omega
        by_cases h5 : 97 ≤ c
        · have h6 : ¬ c ≤ 122 := by omega
          clear h1 h2
          go_enter Try.func22, Try.ntmps22
          go_wp2_with fail
          go_ret
          exact ⟨rfl, Ext.refl _⟩
        · clear h1 h2
          go_enter Try.func22, Try.ntmps22
          go_wp2_with fail
          go_ret
          exact ⟨rfl, Ext.refl _⟩
      · have h5 : ¬ 97 ≤ c := by omega
        clear h1 h2
        go_enter Try.func22, Try.ntmps22
        go_wp2_with fail
        go_ret
        exact ⟨rfl, Ext.refl _⟩
theorem naught (c : Int) : (small c == 0) = !isL c := by
  unfold isL
  by_cases h : small c = 0 <;> simp [h]
/-- A text, and a byte behind it. -/
theorem text_put (a : List UInt8) (b : UInt8) : (⟨a.toArray⟩ : ByteArray) ++ (⟨[b].toArray⟩ : ByteArray) = ⟨(a ++ [b]).toArray⟩ := by
  apply ByteArray.ext
  simp [ByteArray.data_append]
theorem behind_eq {l : List Int} {t : Nat} (ha : aheadN l ≤ t) (ht : t ≤ l.length) (h1 : ∀ j, t ≤ j → j < l.length → isL (l.getD j 0) = false) (h2 : aheadN l < t → isL (l.getD (t - 1) 0) = true) : behindN l = l.length - t := by
  refine firstF_eq (by omega) (fun i hi => h1 _ (by omega) (by omega)) (fun h => ?_)
  rw [show l.length - 1 - (l.length - t) = t - 1 by omega]
  exact h2 (by omega)

set_option maxRecDepth 100000 in
set_option maxHeartbeats 4000000 in
theorem rcore_any (A : Option Addr) (l : List Int) (n c : Nat) (w : World) (hs : SeenL w A l) (hn : n = l.length) (hm : n ≤ 1000000) :
    Calls Try.prog 12 #[.slice A n c] w (Ret w (.tuple #[.string ⟨(coreL l).toArray⟩, .int .i64 (coreN l)])) := by
  have hn64 : (n : Int) ≤ 1000000 := by omega
  have SN := Lib.hid hs
  have HN := Lib.hid hn
  have QN := Lib.hid (fun (h : coreB l = false) => And.intro (coreL_no h) (coreN_no h))
  have QY := Lib.hid (fun (h : coreB l = true) => And.intro (coreL_yes h) (coreN_yes h))
  have QB := Lib.hid (coreB_iff (l := l))
  have QM := Lib.hid (fun i (h : i < (midL l).length) => coreB_no (l := l) h)
  have HL := Lib.hid (mid_length l)
  have HG := Lib.hid (fun i => mid_get (l := l) (i := i))
  generalize coreL l = cl at *
  generalize coreN l = cn at *
  generalize coreB l = cb at *
  clear hs hn
  go_enter Try.func12, Try.ntmps12
  go_wp2_with fail
  go_loopw [4] (fun i wr => ∃ k : Nat, k ≤ n ∧ i = .int .i64 k ∧ Hid (∀ j, j < k → isL (l.getD j 0) = false) ∧ Hid (Ext w wr)) (fun i _ => n - (intOf i).toNat)
  case atStart => exact ⟨0, by omega, rfl, Lib.hid (fun j hj => absurd hj (by omega)), Lib.hid (Ext.refl _)⟩
  case round =>
    obtain ⟨a, ha, rfl, hall, X⟩ := hrel
    by_cases hlt : a < n
    · obtain ⟨ad, rfl, hc⟩ := (SN.out.ext X.out).get (k := a) (by rw [← HN.out]; exact hlt)
      have C := Lib.hid (fun w' => letter_any (l.getD a 0) w')
      have NG := Lib.hid (naught (l.getD a 0))
      have NX := Lib.hid (fun h : isL (l.getD a 0) = false => show ∀ j, j < a + 1 → isL (l.getD j 0) = false from fun j hj => if e : j = a then e ▸ h else hall.out j (by omega))
      cases hb : isL (l.getD a 0) with
      | false =>
        rw [hb] at NG
        have H := Lib.hid (NX.out hb)
        have hy := NG.out
        rw [Bool.not_false] at hy
        generalize l.getD a 0 = x at *
        generalize small x = y at *
        clear NX hb
        go_wp2_with fail
        refine (C.out _).mono ?_; rintro e w1 ⟨rfl, x1⟩
        have X1 := Lib.hid (X.out.trans x1)
        clear x1 C
        go_wp2_with fail
        go_roundw
        case rel => exact ⟨a + 1, by omega, by go_num, H, X1⟩
        case measure => simp [intOf]; omega
      | true =>
        rw [hb] at NG
        have HA := Lib.hid (show aheadN l = a from firstF_eq (by rw [← HN.out]; exact ha) hall.out (fun _ => hb))
        have HB := Lib.hid hb
        have hy := NG.out
        rw [Bool.not_true] at hy
        obtain ⟨x, hxx⟩ : ∃ x, l.getD a 0 = x := ⟨_, rfl⟩
        rw [hxx] at hc C hy HB
        have HXX := Lib.hid hxx
        generalize small x = y at *
        clear NX hb hxx
        go_wp2_with fail
        refine (C.out _).mono ?_; rintro e w1 ⟨rfl, x1⟩
        have X1 := Lib.hid (X.out.trans x1)
        clear x1 C
        go_wp2_with fail
        go_loopw [5] (fun i wr => ∃ t : Nat, a < t ∧ t ≤ n ∧ i = .int .i64 t ∧ Hid (∀ j, t ≤ j → j < n → isL (l.getD j 0) = false) ∧ Hid (Ext w wr)) (fun i _ => (intOf i).toNat)
        case atStart => exact ⟨n, hlt, Nat.le_refl _, rfl, Lib.hid (fun j h1 h2 => absurd h1 (by omega)), X1⟩
        case round =>
          clear X X1 hc
          obtain ⟨t, hat, htn, rfl, hbeh, X⟩ := hrel
          have hat64 : (a : Int) < t := by omega
          have hw : IntKind.i64.wrap ((t : Int) - 1) = ((t - 1 : Nat) : Int) := by rw [IntWalk.i64_in _ (by omega)]; omega
          obtain ⟨ad', e, hc⟩ := (SN.out.ext X.out).get (k := t - 1) (by rw [← HN.out]; omega)
          cases e
          have C := Lib.hid (fun w' => letter_any (l.getD (t - 1) 0) w')
          have NG := Lib.hid (naught (l.getD (t - 1) 0))
          have htm : ((t - 1 : Nat) : Int) < n := by omega
          cases hb : isL (l.getD (t - 1) 0) with
          | false =>
            rw [hb] at NG
            have H := Lib.hid (show a < t - 1 ∧ ∀ j, t - 1 ≤ j → j < n → isL (l.getD j 0) = false from ⟨by
              by_cases h : t - 1 = a
              · rw [h, HXX.out, HB.out] at hb; cases hb
              · omega, fun j h1 h2 => by
              by_cases h : j = t - 1
              · rw [h]; exact hb
              · exact hbeh.out j (by omega) h2⟩)
            have hy := NG.out
            rw [Bool.not_false] at hy
            generalize l.getD (t - 1) 0 = x at *
            generalize small x = y at *
            clear hb
            go_wp2_with fail
            refine (C.out _).mono ?_; rintro e w2 ⟨rfl, x2⟩
            have X2 := Lib.hid (X.out.trans x2)
            clear x2 C
            go_wp2_with fail
            go_roundw
            case rel => exact ⟨t - 1, H.out.1, by omega, rfl, Lib.hid H.out.2, X2⟩
            case measure => simp [intOf]; omega
          | true =>
            rw [hb] at NG
            have HE := Lib.hid (show behindN l = n - t by rw [behind_eq (t := t) (by rw [HA.out]; omega) (by rw [← HN.out]; exact htn) (by rw [← HN.out]; exact hbeh.out) (fun _ => hb), ← HN.out])
            have hy := NG.out
            rw [Bool.not_true] at hy
            generalize l.getD (t - 1) 0 = x at *
            generalize small x = y at *
            clear hb
            have hw2 : IntKind.i64.wrap ((t : Int) - a) = ((t - a : Nat) : Int) := by rw [IntWalk.i64_in _ (by omega)]; omega
            have hta : ((t : Int) == (a : Int)) = false := by simp; omega
            clear hbeh
            rw [HA.out, HE.out, ← HN.out, show n - a - (n - t) = t - a by omega] at HL
            rw [HA.out, HE.out, ← HN.out, show n - a - (n - t) = t - a by omega] at HG
            rw [HA.out] at QY
            by_cases hm4 : 40 < t - a
            · have hm4' : (40 : Int) < ((t - a : Nat) : Int) := by omega
              have HF := Lib.hid (show cb = false by
                cases h : cb with
                | false => rfl
                | true => have := (QB.out.1 h).2.1; have := HL.out; omega)
              obtain ⟨rfl, rfl⟩ := QN.out HF.out
              clear hm4
              go_wp2_with fail
              refine (C.out _).mono ?_; rintro e w2 ⟨rfl, x2⟩
              have X2 := Lib.hid (X.out.trans x2)
              clear x2 C
              go_wp2_with fail
              go_ret2
              exact ⟨rfl, X2.out⟩
            · have hm4' : ¬ (40 : Int) < ((t - a : Nat) : Int) := by omega
              clear hm4
              go_wp2_with fail
              refine (C.out _).mono ?_; rintro e w2 ⟨rfl, x2⟩
              have X2 := Lib.hid (X.out.trans x2)
              clear x2 C
              go_wp2_with fail
              clear hw hw2 hta hc htm hy HE
              go_loopw [6, 7] (fun v i wr => ∃ k : Nat, k ≤ t - a ∧ i = .int .i64 (a + k : Nat) ∧ v = .string ⟨(byteL ((midL l).take k)).toArray⟩ ∧ Hid (∀ j, j < k → isL ((midL l).getD j 0) = true) ∧ Hid (Ext w wr)) (fun _ i _ => t - (intOf i).toNat)
              case atStart => exact ⟨0, by omega, rfl, rfl, Lib.hid (fun j hj => absurd hj (by omega)), X2⟩
              case round =>
                clear X X2
                obtain ⟨k, hk, rfl, rfl, hall2, X⟩ := hrel
                by_cases hlt2 : k < t - a
                · have hk64 : ((a + k : Nat) : Int) < (t : Int) := by omega
                  obtain ⟨ad', e, hc⟩ := (SN.out.ext X.out).get (k := a + k) (by rw [← HN.out]; omega)
                  cases e
                  rw [← HG.out k hlt2] at hc
                  have C := Lib.hid (fun w' => letter_any ((midL l).getD k 0) w')
                  have NG := Lib.hid (naught ((midL l).getD k 0))
                  have htm : ((a + k : Nat) : Int) < n := by omega
                  cases hb : isL ((midL l).getD k 0) with
                  | false =>
                    rw [hb] at NG
                    have HF := Lib.hid (QM.out k (by rw [HL.out]; exact hlt2) hb)
                    obtain ⟨rfl, rfl⟩ := QN.out HF.out
                    have hy := NG.out
                    rw [Bool.not_false] at hy
                    generalize (midL l).getD k 0 = x at *
                    generalize small x = y at *
                    clear hb
                    go_wp2_with fail
                    refine (C.out _).mono ?_; rintro e w3 ⟨rfl, x3⟩
                    have X3 := Lib.hid (X.out.trans x3)
                    clear x3 C
                    go_wp2_with fail
                    go_ret2
                    exact ⟨rfl, X3.out⟩
                  | true =>
                    rw [hb] at NG
                    have hy := NG.out
                    rw [Bool.not_true] at hy
                    have HA2 := Lib.hid (show ∀ j, j < k + 1 → isL ((midL l).getD j 0) = true from fun j hj => by
                      by_cases e : j = k
                      · rw [e]; exact hb
                      · exact hall2.out j (by omega))
                    have hkm : k < (midL l).length := by rw [HL.out]; exact hlt2
                    have ET := Lib.hid (show (midL l).take (k + 1) = (midL l).take k ++ [(midL l).getD k 0] by rw [List.take_succ_eq_append_getElem hkm]; simp [List.getD, hkm])
                    generalize (midL l).getD k 0 = x at *
                    have SB := Lib.hid (small_byte x)
                    have hu := u8_in (small x) (by have := isL_iff.1 hb; omega)
                    have hlp : ¬ 9223372036854775807 < (byteL ((midL l).take k)).length + 1 := by
                      rw [byteL_length, List.length_take]; omega
                    generalize (midL l).take k = pre at *
                    have BS := Lib.hid (byteL_snoc pre x)
                    have TP := Lib.hid (text_put (byteL pre) (UInt8.ofNat (small x).toNat))
                    have STR := Lib.hid (fun w' => SeenB.str (P := Try.prog) (seen_new w' (bv [UInt8.ofNat (small x).toNat]) 5) 41 9 5 1 1 Try.underlying41 Try.underlying5 Try.underlying9 rfl)
                    generalize UInt8.ofNat (small x).toNat = b at *
                    generalize small x = y at *
                    obtain ⟨z, hz⟩ : ∃ z : Int, z = (b.toNat : Int) := ⟨_, rfl⟩
                    have SZ := Lib.hid (fun (w' : World) => show (convert 41 9 (.slice (some ⟨w'.heap.size, 0, none⟩) 1 1)).run Try.prog (w'.alloc (.cells #[.int .u8 z] 5)) = .ok (.string ⟨[b].toArray⟩) (w'.alloc (.cells #[.int .u8 z] 5)) by rw [hz]; exact STR.out w')
                    obtain rfl : y = z := by rw [hz]; exact SB.out
                    clear STR hz hb hall2 hkm
                    go_wp2_with fail
                    refine (C.out _).mono ?_; rintro e w3 ⟨rfl, x3⟩
                    have X4 := Lib.hid ((X.out.trans x3).alloc (.cells #[.int .u8 y] 5))
                    have CV := SZ.out w3
                    clear x3 C
                    go_wp2_with fail
                    go_roundw
                    case rel => exact ⟨k + 1, by omega, by go_num, by rw [ET.out, BS.out, ← TP.out], HA2, X4⟩
                    case measure => simp [intOf]; omega
                · obtain rfl : k = t - a := by omega
                  have hk64 : ¬ ((a + (t - a) : Nat) : Int) < (t : Int) := by omega
                  have HF := Lib.hid (show cb = true from QB.out.2 ⟨by have := HL.out; omega, by have := HL.out; omega, fun c hc => by
                    obtain ⟨i, hi, rfl⟩ := List.getElem_of_mem hc
                    have := hall2.out i (by have := HL.out; omega)
                    simpa [List.getD, hi] using this⟩)
                  obtain ⟨rfl, rfl⟩ := QY.out HF.out
                  rw [List.take_of_length_le (by rw [HL.out]; omega)]
                  go_wp2_with fail
                  go_ret2
                  exact ⟨rfl, X.out⟩
    · obtain rfl : a = n := by omega
      have HF := Lib.hid (show cb = false by
        cases h : cb with
        | false => rfl
        | true =>
          have h1 := (QB.out.1 h).1
          have h2 : aheadN l = a := firstF_eq (by rw [← HN.out]; exact ha) hall.out (fun h => absurd h (by rw [← HN.out]; omega))
          rw [HL.out, h2, ← HN.out] at h1; omega)
      obtain ⟨rfl, rfl⟩ := QN.out HF.out
      go_wp2_with fail
      go_loopw [5] (fun i wr => i = .int .i64 a ∧ Hid (Ext w wr)) (fun _ _ => 0)
      case atStart => exact ⟨rfl, X⟩
      case round =>
        clear X
        obtain ⟨rfl, X⟩ := hrel
        go_wp2_with fail
        go_ret2
        exact ⟨rfl, X.out⟩
end L12
end Go.Proofs.Ytenajekmnggkeaa

