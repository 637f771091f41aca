/- The document's letter and Core of layer 12. The document's Word of layer 11. The document's Values of layer 11. The document's Points of layer 12. The document's word of layer 13. The document's Check of layer 13. The document's answers of layer 14: a number within bounds. The document's Check. Written by gen14/rchk.py. -/
import Derived.Test.YtdiccmlpppkgpaaGreatDoorGF16
import Derived.Test.YtdiccmlpppkgpaaGreatDoorGD16
import Derived.Test.YtdiccmlpppkgpaaGreatDoorGE16
import Derived.Test.YtdiccmlpppkgpaaGreatDoorGA16
import Derived.Deep.QuietTactic
import Derived.BigQuiet
import Derived.Deep.CutBlock
import Derived.Test.YtdiccmlpppkgpaaGreatDoorGG16
import Derived.Deep.DeepCutAuto
namespace Go.Proofs.YtdiccmlpppkgpaaGreatDoor
open Go.RowKit
namespace L12

theorem letter_any (c : Int) (w : World) : Calls Tryz.prog 108 #[.int .i64 c] w (Ret w (.int .i64 (small c))) := by
  by_cases h1 : 65 ≤ c ∧ c ≤ 90
  · rw [show small c = c + 32 from if_pos h1]
    have hw : IntKind.i64.wrap (c + 32) = c + 32 := IntWalk.i64_in _ (by omega)
    have h3 : ¬ 97 ≤ c := by omega
    obtain ⟨h1, h2⟩ := h1
    go_enter Tryz.func108, Tryz.ntmps108
    go_wp2_with fail
    go_ret
    exact ⟨rfl, Ext.refl _⟩
  · by_cases h2 : 97 ≤ c ∧ c ≤ 122
    · rw [show small c = c by rw [small, if_neg h1, if_pos h2]]
      obtain ⟨h2, h3⟩ := h2
      clear h1
      go_enter Tryz.func108, Tryz.ntmps108
      go_wp2_with fail
      go_ret
      exact ⟨rfl, Ext.refl _⟩
    · rw [show small c = 0 by rw [small, if_neg h1, if_neg h2]]
      by_cases h3 : 65 ≤ c
      · have h4 : ¬ c ≤ 90 := by omega
        by_cases h5 : 97 ≤ c
        · have h6 : ¬ c ≤ 122 := by omega
          clear h1 h2
          go_enter Tryz.func108, Tryz.ntmps108
          go_wp2_with fail
          go_ret
          exact ⟨rfl, Ext.refl _⟩
        · clear h1 h2
          go_enter Tryz.func108, Tryz.ntmps108
          go_wp2_with fail
          go_ret
          exact ⟨rfl, Ext.refl _⟩
      · have h5 : ¬ 97 ≤ c := by omega
        clear h1 h2
        go_enter Tryz.func108, Tryz.ntmps108
        go_wp2_with fail
        go_ret
        exact ⟨rfl, Ext.refl _⟩
theorem naught (c : Int) : (small c == 0) = !isL c := by
  unfold isL
  by_cases h : small c = 0 <;> simp [h]
/-- A text, and a byte behind it. -/
theorem text_put (a : List UInt8) (b : UInt8) : (⟨a.toArray⟩ : ByteArray) ++ (⟨[b].toArray⟩ : ByteArray) = ⟨(a ++ [b]).toArray⟩ := by
  apply ByteArray.ext
  simp [ByteArray.data_append]
theorem behind_eq {l : List Int} {t : Nat} (ha : aheadN l ≤ t) (ht : t ≤ l.length) (h1 : ∀ j, t ≤ j → j < l.length → isL (l.getD j 0) = false) (h2 : aheadN l < t → isL (l.getD (t - 1) 0) = true) : behindN l = l.length - t := by
  refine firstF_eq (by omega) (fun i hi => h1 _ (by omega) (by omega)) (fun h => ?_)
  rw [show l.length - 1 - (l.length - t) = t - 1 by omega]
  exact h2 (by omega)

set_option maxRecDepth 100000 in
set_option maxHeartbeats 4000000 in
theorem rcore_any (A : Option Addr) (l : List Int) (n c : Nat) (w : World) (hs : SeenL w A l) (hn : n = l.length) (hm : n ≤ 1000000) :
    Calls Tryz.prog 79 #[.slice A n c] w (Ret w (.tuple #[.string ⟨(coreL l).toArray⟩, .int .i64 (coreN l)])) := by
  have hn64 : (n : Int) ≤ 1000000 := by omega
  have SN := Lib.hid hs
  have HN := Lib.hid hn
  have QN := Lib.hid (fun (h : coreB l = false) => And.intro (coreL_no h) (coreN_no h))
  have QY := Lib.hid (fun (h : coreB l = true) => And.intro (coreL_yes h) (coreN_yes h))
  have QB := Lib.hid (coreB_iff (l := l))
  have QM := Lib.hid (fun i (h : i < (midL l).length) => coreB_no (l := l) h)
  have HL := Lib.hid (mid_length l)
  have HG := Lib.hid (fun i => mid_get (l := l) (i := i))
  generalize coreL l = cl at *
  generalize coreN l = cn at *
  generalize coreB l = cb at *
  clear hs hn
  go_enter Tryz.func79, Tryz.ntmps79
  go_wp2_with fail
  go_loopw [4] (fun i wr => ∃ k : Nat, k ≤ n ∧ i = .int .i64 k ∧ Hid (∀ j, j < k → isL (l.getD j 0) = false) ∧ Hid (Ext w wr)) (fun i _ => n - (intOf i).toNat)
  case atStart => exact ⟨0, by omega, rfl, Lib.hid (fun j hj => absurd hj (by omega)), Lib.hid (Ext.refl _)⟩
  case round =>
    obtain ⟨a, ha, rfl, hall, X⟩ := hrel
    by_cases hlt : a < n
    · obtain ⟨ad, rfl, hc⟩ := (SN.out.ext X.out).get (k := a) (by rw [← HN.out]; exact hlt)
      have C := Lib.hid (fun w' => letter_any (l.getD a 0) w')
      have NG := Lib.hid (naught (l.getD a 0))
      have NX := Lib.hid (fun h : isL (l.getD a 0) = false => show ∀ j, j < a + 1 → isL (l.getD j 0) = false from fun j hj => if e : j = a then e ▸ h else hall.out j (by omega))
      cases hb : isL (l.getD a 0) with
      | false =>
        rw [hb] at NG
        have H := Lib.hid (NX.out hb)
        have hy := NG.out
        rw [Bool.not_false] at hy
        generalize l.getD a 0 = x at *
        generalize small x = y at *
        clear NX hb
        go_wp2_with fail
        refine (C.out _).mono ?_; rintro e w1 ⟨rfl, x1⟩
        have X1 := Lib.hid (X.out.trans x1)
        clear x1 C
        go_wp2_with fail
        go_roundw
        case rel => exact ⟨a + 1, by omega, by go_num, H, X1⟩
        case measure => simp [intOf]; omega
      | true =>
        rw [hb] at NG
        have HA := Lib.hid (show aheadN l = a from firstF_eq (by rw [← HN.out]; exact ha) hall.out (fun _ => hb))
        have HB := Lib.hid hb
        have hy := NG.out
        rw [Bool.not_true] at hy
        obtain ⟨x, hxx⟩ : ∃ x, l.getD a 0 = x := ⟨_, rfl⟩
        rw [hxx] at hc C hy HB
        have HXX := Lib.hid hxx
        generalize small x = y at *
        clear NX hb hxx
        go_wp2_with fail
        refine (C.out _).mono ?_; rintro e w1 ⟨rfl, x1⟩
        have X1 := Lib.hid (X.out.trans x1)
        clear x1 C
        go_wp2_with fail
        go_loopw [5] (fun i wr => ∃ t : Nat, a < t ∧ t ≤ n ∧ i = .int .i64 t ∧ Hid (∀ j, t ≤ j → j < n → isL (l.getD j 0) = false) ∧ Hid (Ext w wr)) (fun i _ => (intOf i).toNat)
        case atStart => exact ⟨n, hlt, Nat.le_refl _, rfl, Lib.hid (fun j h1 h2 => absurd h1 (by omega)), X1⟩
        case round =>
          clear X X1 hc
          obtain ⟨t, hat, htn, rfl, hbeh, X⟩ := hrel
          have hat64 : (a : Int) < t := by omega
          have hw : IntKind.i64.wrap ((t : Int) - 1) = ((t - 1 : Nat) : Int) := by rw [IntWalk.i64_in _ (by omega)]; omega
          obtain ⟨ad', e, hc⟩ := (SN.out.ext X.out).get (k := t - 1) (by rw [← HN.out]; omega)
          cases e
          have C := Lib.hid (fun w' => letter_any (l.getD (t - 1) 0) w')
          have NG := Lib.hid (naught (l.getD (t - 1) 0))
          have htm : ((t - 1 : Nat) : Int) < n := by omega
          cases hb : isL (l.getD (t - 1) 0) with
          | false =>
            rw [hb] at NG
            have H := Lib.hid (show a < t - 1 ∧ ∀ j, t - 1 ≤ j → j < n → isL (l.getD j 0) = false from ⟨by
              by_cases h : t - 1 = a
              · rw [h, HXX.out, HB.out] at hb; cases hb
              · omega, fun j h1 h2 => by
              by_cases h : j = t - 1
              · rw [h]; exact hb
              · exact hbeh.out j (by omega) h2⟩)
            have hy := NG.out
            rw [Bool.not_false] at hy
            generalize l.getD (t - 1) 0 = x at *
            generalize small x = y at *
            clear hb
            go_wp2_with fail
            refine (C.out _).mono ?_; rintro e w2 ⟨rfl, x2⟩
            have X2 := Lib.hid (X.out.trans x2)
            clear x2 C
            go_wp2_with fail
            go_roundw
            case rel => exact ⟨t - 1, H.out.1, by omega, rfl, Lib.hid H.out.2, X2⟩
            case measure => simp [intOf]; omega
          | true =>
            rw [hb] at NG
            have HE := Lib.hid (show behindN l = n - t by rw [behind_eq (t := t) (by rw [HA.out]; omega) (by rw [← HN.out]; exact htn) (by rw [← HN.out]; exact hbeh.out) (fun _ => hb), ← HN.out])
            have hy := NG.out
            rw [Bool.not_true] at hy
            generalize l.getD (t - 1) 0 = x at *
            generalize small x = y at *
            clear hb
            have hw2 : IntKind.i64.wrap ((t : Int) - a) = ((t - a : Nat) : Int) := by rw [IntWalk.i64_in _ (by omega)]; omega
            have hta : ((t : Int) == (a : Int)) = false := by simp; omega
            clear hbeh
            rw [HA.out, HE.out, ← HN.out, show n - a - (n - t) = t - a by omega] at HL
            rw [HA.out, HE.out, ← HN.out, show n - a - (n - t) = t - a by omega] at HG
            rw [HA.out] at QY
            by_cases hm4 : 40 < t - a
            · have hm4' : (40 : Int) < ((t - a : Nat) : Int) := by omega
              have HF := Lib.hid (show cb = false by
                cases h : cb with
                | false => rfl
                | true => have := (QB.out.1 h).2.1; have := HL.out; omega)
              obtain ⟨rfl, rfl⟩ := QN.out HF.out
              clear hm4
              go_wp2_with fail
              refine (C.out _).mono ?_; rintro e w2 ⟨rfl, x2⟩
              have X2 := Lib.hid (X.out.trans x2)
              clear x2 C
              go_wp2_with fail
              go_ret2
              exact ⟨rfl, X2.out⟩
            · have hm4' : ¬ (40 : Int) < ((t - a : Nat) : Int) := by omega
              clear hm4
              go_wp2_with fail
              refine (C.out _).mono ?_; rintro e w2 ⟨rfl, x2⟩
              have X2 := Lib.hid (X.out.trans x2)
              clear x2 C
              go_wp2_with fail
              clear hw hw2 hta hc htm hy HE
              go_loopw [6, 7] (fun v i wr => ∃ k : Nat, k ≤ t - a ∧ i = .int .i64 (a + k : Nat) ∧ v = .string ⟨(byteL ((midL l).take k)).toArray⟩ ∧ Hid (∀ j, j < k → isL ((midL l).getD j 0) = true) ∧ Hid (Ext w wr)) (fun _ i _ => t - (intOf i).toNat)
              case atStart => exact ⟨0, by omega, rfl, rfl, Lib.hid (fun j hj => absurd hj (by omega)), X2⟩
              case round =>
                clear X X2
                obtain ⟨k, hk, rfl, rfl, hall2, X⟩ := hrel
                by_cases hlt2 : k < t - a
                · have hk64 : ((a + k : Nat) : Int) < (t : Int) := by omega
                  obtain ⟨ad', e, hc⟩ := (SN.out.ext X.out).get (k := a + k) (by rw [← HN.out]; omega)
                  cases e
                  rw [← HG.out k hlt2] at hc
                  have C := Lib.hid (fun w' => letter_any ((midL l).getD k 0) w')
                  have NG := Lib.hid (naught ((midL l).getD k 0))
                  have htm : ((a + k : Nat) : Int) < n := by omega
                  cases hb : isL ((midL l).getD k 0) with
                  | false =>
                    rw [hb] at NG
                    have HF := Lib.hid (QM.out k (by rw [HL.out]; exact hlt2) hb)
                    obtain ⟨rfl, rfl⟩ := QN.out HF.out
                    have hy := NG.out
                    rw [Bool.not_false] at hy
                    generalize (midL l).getD k 0 = x at *
                    generalize small x = y at *
                    clear hb
                    go_wp2_with fail
                    refine (C.out _).mono ?_; rintro e w3 ⟨rfl, x3⟩
                    have X3 := Lib.hid (X.out.trans x3)
                    clear x3 C
                    go_wp2_with fail
                    go_ret2
                    exact ⟨rfl, X3.out⟩
                  | true =>
                    rw [hb] at NG
                    have hy := NG.out
                    rw [Bool.not_true] at hy
                    have HA2 := Lib.hid (show ∀ j, j < k + 1 → isL ((midL l).getD j 0) = true from fun j hj => by
                      by_cases e : j = k
                      · rw [e]; exact hb
                      · exact hall2.out j (by omega))
                    have hkm : k < (midL l).length := by rw [HL.out]; exact hlt2
                    have ET := Lib.hid (show (midL l).take (k + 1) = (midL l).take k ++ [(midL l).getD k 0] by rw [List.take_succ_eq_append_getElem hkm]; simp [List.getD, hkm])
                    generalize (midL l).getD k 0 = x at *
                    have SB := Lib.hid (small_byte x)
                    have hu := u8_in (small x) (by have := isL_iff.1 hb; omega)
                    have hlp : ¬ 9223372036854775807 < (byteL ((midL l).take k)).length + 1 := by
                      rw [byteL_length, List.length_take]; omega
                    generalize (midL l).take k = pre at *
                    have BS := Lib.hid (byteL_snoc pre x)
                    have TP := Lib.hid (text_put (byteL pre) (UInt8.ofNat (small x).toNat))
                    have STR := Lib.hid (fun w' => SeenB.str (P := Tryz.prog) (seen_new w' (bv [UInt8.ofNat (small x).toNat]) 5) 130 9 5 1 1 Tryz.underlying130 Tryz.underlying5 Tryz.underlying9 rfl)
                    generalize UInt8.ofNat (small x).toNat = b at *
                    generalize small x = y at *
                    obtain ⟨z, hz⟩ : ∃ z : Int, z = (b.toNat : Int) := ⟨_, rfl⟩
                    have SZ := Lib.hid (fun (w' : World) => show (convert 130 9 (.slice (some ⟨w'.heap.size, 0, none⟩) 1 1)).run Tryz.prog (w'.alloc (.cells #[.int .u8 z] 5)) = .ok (.string ⟨[b].toArray⟩) (w'.alloc (.cells #[.int .u8 z] 5)) by rw [hz]; exact STR.out w')
                    obtain rfl : y = z := by rw [hz]; exact SB.out
                    clear STR hz hb hall2 hkm
                    go_wp2_with fail
                    refine (C.out _).mono ?_; rintro e w3 ⟨rfl, x3⟩
                    have X4 := Lib.hid ((X.out.trans x3).alloc (.cells #[.int .u8 y] 5))
                    have CV := SZ.out w3
                    clear x3 C
                    go_wp2_with fail
                    go_roundw
                    case rel => exact ⟨k + 1, by omega, by go_num, by rw [ET.out, BS.out, ← TP.out], HA2, X4⟩
                    case measure => simp [intOf]; omega
                · obtain rfl : k = t - a := by omega
                  have hk64 : ¬ ((a + (t - a) : Nat) : Int) < (t : Int) := by omega
                  have HF := Lib.hid (show cb = true from QB.out.2 ⟨by have := HL.out; omega, by have := HL.out; omega, fun c hc => by
                    obtain ⟨i, hi, rfl⟩ := List.getElem_of_mem hc
                    have := hall2.out i (by have := HL.out; omega)
                    simpa [List.getD, hi] using this⟩)
                  obtain ⟨rfl, rfl⟩ := QY.out HF.out
                  rw [List.take_of_length_le (by rw [HL.out]; omega)]
                  go_wp2_with fail
                  go_ret2
                  exact ⟨rfl, X.out⟩
    · obtain rfl : a = n := by omega
      have HF := Lib.hid (show cb = false by
        cases h : cb with
        | false => rfl
        | true =>
          have h1 := (QB.out.1 h).1
          have h2 : aheadN l = a := firstF_eq (by rw [← HN.out]; exact ha) hall.out (fun h => absurd h (by rw [← HN.out]; omega))
          rw [HL.out, h2, ← HN.out] at h1; omega)
      obtain ⟨rfl, rfl⟩ := QN.out HF.out
      go_wp2_with fail
      go_loopw [5] (fun i wr => i = .int .i64 a ∧ Hid (Ext w wr)) (fun _ _ => 0)
      case atStart => exact ⟨rfl, X⟩
      case round =>
        clear X
        obtain ⟨rfl, X⟩ := hrel
        go_wp2_with fail
        go_ret2
        exact ⟨rfl, X.out⟩
end L12
end Go.Proofs.YtdiccmlpppkgpaaGreatDoor

namespace Go.Proofs.YtdiccmlpppkgpaaGreatDoor
open Go.RowKit
open Go.Lib hiding intOf
namespace L11
open L10 (TN plainB patB tn letterB)

set_option maxRecDepth 100000 in
set_option maxHeartbeats 4000000 in
theorem rword_any (s : ByteArray) (w : World) : Calls Tryz.prog 109 #[.string s] w (Ret w (.bool (plainB s.data.toList))) := by
  by_cases h1 : s.size < 1
  · rw [plain_size, decide_eq_false (by omega)]
    go_enter Tryz.func109, Tryz.ntmps109
    go_wp2_with fail
    go_ret
    exact ⟨rfl, Ext.refl _⟩
  · by_cases h2 : 40 < s.size
    · rw [plain_size, decide_eq_false (by omega)]
      go_enter Tryz.func109, Tryz.ntmps109
      go_wp2_with fail
      go_ret
      exact ⟨rfl, Ext.refl _⟩
    · rw [plain_size, decide_eq_true (by omega)]
      obtain ⟨b, hb⟩ : ∃ b, (true && s.data.toList.all letterB) = b := ⟨_, rfl⟩
      rw [hb]
      have HB := Lib.hid (show (s.data.toList.drop 0).all letterB = b from hb)
      clear hb
      go_enter Tryz.func109, Tryz.ntmps109
      go_wp2_with fail
      go_loop [3] (fun i => ∃ k : Nat, k ≤ s.size ∧ i = .int .i64 k ∧ Hid ((s.data.toList.drop k).all letterB = b)) (fun i => s.size - (intOf i).toNat)
      case atStart => exact ⟨0, Nat.zero_le _, rfl, HB⟩
      case round =>
        obtain ⟨k, hk, rfl, hh⟩ := hrel
        by_cases hlt : k < s.size
        · have hr := hh.out
          rw [all_drop_at hlt] at hr
          by_cases l1 : s[k].toNat < 97
          · have H := Lib.hid (show false = b by rw [← hr, show letterB s[k] = false from decide_eq_false (by omega)]; rfl)
            clear hr hh HB
            go_wp2_with fail
            go_ret
            exact ⟨ret_bool H.out, Ext.refl _⟩
          · by_cases l2 : 122 < s[k].toNat
            · have H := Lib.hid (show false = b by rw [← hr, show letterB s[k] = false from decide_eq_false (by omega)]; rfl)
              clear hr hh HB
              go_wp2_with fail
              go_ret
              exact ⟨ret_bool H.out, Ext.refl _⟩
            · have H := Lib.hid (show (s.data.toList.drop (k + 1)).all letterB = b by rw [← hr, show letterB s[k] = true from decide_eq_true (by omega)]; rfl)
              clear hr hh HB
              go_wp2_with fail
              go_round
              case rel => exact ⟨k + 1, by omega, by go_num, H⟩
              case measure => simp [intOf]; omega
        · obtain rfl : k = s.size := by omega
          have H := Lib.hid (show true = b by rw [← hh.out, List.drop_of_length_le (by rw [list_size]; exact Nat.le_refl _)]; rfl)
          clear hh HB
          go_wp2_with fail
          go_ret
          exact ⟨ret_bool H.out, Ext.refl _⟩
end L11
end Go.Proofs.YtdiccmlpppkgpaaGreatDoor

namespace Go.Proofs.YtdiccmlpppkgpaaGreatDoor
open Go.RowKit
open Go.Lib hiding intOf
namespace L11
open L10 (TN plainB patB tn letterB)

/-- A part of a text, held against another one. -/
theorem str_dec11 (t : ByteArray) (a b : Nat) (x : ByteArray) (s : List UInt8) (ht : t.data.toList = s) : ((t.extract a b).toList == x.toList) = decide ((s.drop a).take (b - a) = x.data.toList) := by
  have h1 : (t.extract a b).data.toList = (s.drop a).take (b - a) := by rw [Lib.extract_data, ht]
  rw [ByteArray.toList_eq, ByteArray.toList_eq, h1]
  by_cases e : (s.drop a).take (b - a) = x.data.toList
  · rw [decide_eq_true e]; simpa using e
  · rw [decide_eq_false e]; simpa using e
/-- The patterns ahead of j, everywhere, and pattern y at the places ahead of a. -/
def doneH (l : List TN) (y : TN) (n a : Nat) (x : TN) (b : Nat) : Prop := (x ∈ l ∧ b < n) ∨ (x = y ∧ b < a)
/-- What it leaves, and answers. -/
def RValsQ (w : World) (p : List TN) (l : List UInt8) (e : Ending) (w' : World) : Prop := Ext w w' ∧ ∃ A c, e = .returned (.slice A (valsL p l).length c) ∧ SeenL w' A (valsL p l)

set_option maxRecDepth 100000 in
set_option maxHeartbeats 16000000 in
theorem rvals_any (D : PatsD) (P : PatsP) (w : World) (sn : SeenPats w D P) (hp : ∀ x ∈ D.l, patB (tn x) = true) (hn : D.l.length ≤ 400) (s : ByteArray) :
    Calls Tryz.prog 80 #[patsV D P, .string s] w (RValsQ w (D.l.map tn) s.data.toList) := by
  obtain ⟨V, hV⟩ : ∃ V, V = w.alloc (.cells #[.slice P.x D.l.length P.c, .slice P.y D.m.length P.d] 25) := ⟨_, rfl⟩
  have W0 : Ext w V := by rw [hV]; exact (Ext.refl _).alloc _
  have kB : Blk V w.heap.size 25 [.slice P.x D.l.length P.c, .slice P.y D.m.length P.d] := by rw [hV]; exact Blk.lit _ _ _ _ rfl
  have WD := Lib.hid (rword_any s V)
  have SL := Lib.hid (sn.ext W0).l
  have HP := Lib.hid hp
  unfold patsV
  obtain ⟨l, m⟩ := D
  obtain ⟨A, c, A2, d⟩ := P
  dsimp only at SL HP kB hV hn ⊢
  have HX := Lib.hid W0
  obtain ⟨n, hnl⟩ : ∃ n, n = l.length := ⟨_, rfl⟩
  have HN := Lib.hid hnl
  rw [← hnl] at kB hV hn ⊢
  clear sn hp hnl W0
  generalize m.length = q at *
  cases hw : plainB s.data.toList with
  | false =>
    rw [hw] at WD
    have HV := Lib.hid (valsL_no (p := l.map tn) hw)
    clear hw
    go_enter Tryz.func80, Tryz.ntmps80
    go_upto_region 1 with (fail)
    rw [← hV]
    clear hV
    generalize w.heap.size = R at *
    go_wp2_with fail
    refine WD.out.mono ?_; rintro e w1 ⟨rfl, x1⟩
    have X1 := Lib.hid (HX.out.trans x1)
    clear x1 WD kB
    go_wp2_with fail
    go_ret
    exact ⟨X1.out, none, 0, by rw [HV.out]; rfl, by rw [HV.out]; exact SeenL.nil⟩
  | true =>
    rw [hw] at WD
    have hsz := plain_len hw
    rw [list_size] at hsz
    have HW := Lib.hid hw
    clear hw
    obtain ⟨t, ht⟩ : ∃ t, t = (⟨#[46]⟩ : ByteArray) ++ s ++ (⟨#[46]⟩ : ByteArray) := ⟨_, rfl⟩
    have htl : t.data.toList = textL s.data.toList := by rw [ht]; exact text_list s
    have hts : t.size = s.size + 2 := by rw [ht]; exact text_size s
    obtain ⟨cs, MK, RW⟩ := make_blk (t.size + 1) (by omega)
    rw [show ((t.size + 1 : Nat) : Int) = (t.size : Int) + 1 by omega] at MK
    go_enter Tryz.func80, Tryz.ntmps80
    go_upto_region 1 with (fail)
    rw [← hV]
    clear hV
    generalize w.heap.size = R at *
    go_wp2_with fail
    refine WD.out.mono ?_; rintro e w1 ⟨rfl, x1⟩
    have q0 : w1.cell? ⟨R, 0, none⟩ = some (.slice A n c) := (kB.ext x1).cell 0
    have X1 := Lib.hid x1
    clear x1 WD kB
    go_upto_region 5 with (fail)
    rw [← ht]
    have HTL := Lib.hid htl
    have HTS := Lib.hid hts
    clear ht htl hts
    have ht40 : t.size ≤ 42 := by have := HTS.out; omega
    have ht1 : 1 ≤ t.size := by have := HTS.out; omega
    have KG := Lib.hid (show Blk (w1.alloc (.cells cs 3)) w1.heap.size 3 (rowI (t.size + 1) (fun _ => 0)) by
      have := Blk.new w1 3 cs
      rw [RW] at this
      exact this)
    have xa : Ext w1 (w1.alloc (.cells cs 3)) := (Ext.refl w1).alloc _
    have q0 := xa.at q0
    have RG := Lib.hid (show R < w1.heap.size ∧ V.heap.size ≤ w1.heap.size from ⟨World.block_lt_of_cell? w1 ⟨R, 0, none⟩ (by assumption), X1.out.size⟩)
    have X3 := Lib.hid (X1.out.trans xa)
    go_wp2_with fail
    generalize w1.alloc (.cells cs 3) = w3 at *
    generalize hg : w1.heap.size = g at *
    clear hg MK RW xa X1
    have Q0 := Lib.hid q0
    go_loopw [8] (fun i wr => ∃ j : Nat, j ≤ n ∧ i = .int .i64 j ∧ Hid (But (Only g) w3 wr ∧ ∃ f, Blk wr g 3 (rowI (t.size + 1) f) ∧ Sup (textL s.data.toList) (fun x a => x ∈ (l.take j).map tn ∧ a < t.size) f)) (fun i _ => n - (intOf i).toNat)
    case atStart => exact ⟨0, Nat.zero_le _, rfl, ⟨But.refl _ _, _, KG.out, (Sup.zero _).iff (fun x a _ => ⟨fun h => h.elim, fun h => by simp at h⟩)⟩⟩
    case round =>
      obtain ⟨j, hj, rfl, hh⟩ := hrel
      have q0 : wr.cell? ⟨R, 0, none⟩ = some (.slice A n c) := hh.out.1.at Q0.out (by have := RG.out; show ¬ R = g; omega)
      by_cases hlt : j < n
      · have hlt' : j < l.length := by rw [← HN.out]; exact hlt
        obtain ⟨⟨ad, rfl, a0, a1⟩, sx⟩ := SL.out.get hlt'
        have hpx := HP.out _ (List.getElem_mem hlt')
        have hx1 := L10.pat_len hpx
        have hx2 := (L10.pat_vals hpx).1
        have TK := Lib.hid (show (l.take (j + 1)).map tn = (l.take j).map tn ++ [tn l[j]] by rw [List.take_succ_eq_append_getElem hlt', List.map_append]; rfl)
        have hbl : ad.block < V.heap.size := by have := World.block_lt_of_cell? V _ a0; rwa [addr_block] at this
        have hadg : ad.block ≠ g := by have := RG.out; omega
        have a0 := hh.out.1.at (X3.out.at a0) (by rw [addr_block]; exact hadg)
        have a1 := hh.out.1.at (X3.out.at a1) (by show ¬ (ad.add (j * 2)).block = g; rw [addr_block]; exact hadg)
        have HADX := Lib.hid (show ∀ ad', l[j].A = some ad' → ad'.block ≠ g from fun ad' e => by
          have h1 := seenL_lt sx (List.length_pos_iff.2 (pat_ne hpx)) e
          have := RG.out
          omega)
        have HPX := Lib.hid hpx
        have SX := Lib.hid sx
        have HLT := Lib.hid (show Nat.lt j n from hlt)
        generalize l[j] = y at *
        obtain ⟨xs, xn, xA, xc⟩ := y
        dsimp only at a0 a1 HADX SX
        simp only [tn, list_size] at hx1 hx2
        obtain ⟨z, hz⟩ : ∃ z, z = xn.length := ⟨_, rfl⟩
        have HZ := Lib.hid hz
        rw [← hz] at a1 hx2
        have HX2 := Lib.hid hx2
        have HH := Lib.hid hh.out
        clear sx hpx hh hz hbl hadg hx2
        have k4 : Blk (wr.alloc (.cells #[.string xs, .slice xA z xc] 54)) wr.heap.size 54 [.string xs, .slice xA z xc] := Blk.lit _ _ _ _ rfl
        have x4 : Ext wr (wr.alloc (.cells #[.string xs, .slice xA z xc] 54)) := (Ext.refl _).alloc _
        have hBx : wr.heap.size ≠ g := by obtain ⟨_, f, kf, _⟩ := HH.out; have := kf.lt; omega
        go_upto_region 10 with (fail)
        have K4 := Lib.hid k4
        have X4 := Lib.hid x4
        have HBX := Lib.hid hBx
        have RLT := Lib.hid (show R < wr.heap.size from World.block_lt_of_cell? wr ⟨R, 0, none⟩ q0)
        generalize wr.alloc (.cells #[.string xs, .slice xA z xc] 54) = w4 at *
        generalize wr.heap.size = Bx at *
        clear k4 x4 hBx a0 a1 q0
        go_wp2_with fail
        obtain ⟨wo, rfl⟩ : ∃ wo : World, wo = wr := ⟨_, rfl⟩
        go_loopw [10] (fun at' w5 => ∃ a : Nat, a ≤ t.size ∧ at' = .int .i64 a ∧ Hid (But (Only g) w4 w5 ∧ ∃ f, Blk w5 g 3 (rowI (t.size + 1) f) ∧ Sup (textL s.data.toList) (fun x b => (x ∈ (l.take j).map tn ∧ b < t.size) ∨ (x = tn ⟨xs, xn, xA, xc⟩ ∧ b < a)) f)) (fun at' _ => t.size + 1 - (intOf at').toNat)
        case atStart =>
          obtain ⟨hb, f, kf, sf⟩ := HH.out
          exact ⟨0, Nat.zero_le _, rfl, ⟨But.refl _ _, f, kf.ext X4.out, sf.iff (fun x b _ => ⟨.inl, fun h => h.elim id (fun h => by omega)⟩)⟩⟩
        case round =>
          obtain ⟨w5, rfl⟩ : ∃ w5 : World, w5 = wr := ⟨_, rfl⟩
          obtain ⟨a, ha, rfl, h5⟩ := hrel
          have b0 : w5.cell? ⟨Bx, 0, none⟩ = some (.string xs) := h5.out.1.at (K4.out.cell 0) (by show ¬ Bx = g; exact HBX.out)
          have b1 : w5.cell? ⟨Bx, 1, none⟩ = some (.slice xA z xc) := h5.out.1.at (K4.out.cell 1) (by show ¬ Bx = g; exact HBX.out)
          by_cases hle : a + xs.size ≤ t.size
          · by_cases heq : ((textL s.data.toList).drop a).take xs.size = xs.data.toList
            · have HEW := str_dec11 t a (a + xs.size) xs (textL s.data.toList) HTL.out
              rw [show a + xs.size - a = xs.size by omega, decide_eq_true heq] at HEW
              have HPR := Lib.hid (show xs.data.toList <+: (textL s.data.toList).drop a from by rw [← heq]; exact List.take_prefix _ _)
              obtain ⟨hb5, f, kf, sf⟩ := h5.out
              have HB5 := Lib.hid hb5
              have KF := Lib.hid kf
              have SF := Lib.hid sf
              clear h5 heq hb5 kf sf
              go_wp2_with fail
              go_quiet (fail)
              rename_i nq
              have XD := Lib.hid ((Ext.refl w5).drewN nq)
              go_wp2_with fail
              rw [show decide ((a : Int) + (xs.size : Int) ≤ (t.size : Int)) = true from decide_eq_true (by omega)]
              go_loopw [11] (fun kk wr => ∃ k : Nat, k ≤ z ∧ kk = .int .i64 k ∧ Hid (But (Only g) w5 wr ∧ Blk wr g 3 (rowI (t.size + 1) (liftF f a k (fun i => xn.getD i 0))))) (fun kk _ => z - (intOf kk).toNat)
              case atStart =>
                refine ⟨0, Nat.zero_le _, rfl, ⟨But.of_ext XD.out, ?_⟩⟩
                rw [rowI_congr (g := f)]
                · exact KF.out.ext XD.out
                · intro i _; unfold liftF; rw [if_neg (by omega)]
              case round =>
                obtain ⟨k, hk, rfl, h6⟩ := hrel
                have b1 : wr.cell? ⟨Bx, 1, none⟩ = some (.slice xA z xc) := h6.out.1.at b1 (by show ¬ Bx = g; exact HBX.out)
                by_cases hkz : k < z
                · obtain ⟨ad, hxa, hcv⟩ := SX.out.get (k := k) (by rw [← HZ.out]; exact hkz)
                  have hcv := h6.out.1.at (HB5.out.at (X4.out.at (HH.out.1.at (X3.out.at hcv) (by rw [addr_block]; exact HADX.out _ hxa))) (by rw [addr_block]; exact HADX.out _ hxa)) (by rw [addr_block]; exact HADX.out _ hxa)
                  subst hxa
                  have hz2 := HX2.out
                  have hzb : z ≤ 100 := by omega
                  have hkb : k < 100 := by omega
                  have e0 : liftF f a k (fun i => xn.getD i 0) (a + k) = f (a + k) := by unfold liftF; rw [if_neg (by omega)]
                  have q1 : wr.cell? ⟨g, a + k, none⟩ = some (.int .i64 (f (a + k))) := by rw [h6.out.2.cell, rowI_get (by omega), e0]
                  have q2 : wr.frozen? ⟨g, a + k, none⟩ = false := h6.out.2.free _
                  obtain ⟨i0, hi0⟩ : ∃ i0, i0 = a + k := ⟨_, rfl⟩
                  have WI : IntKind.i64.wrap ((a : Int) + (k : Int)) = (i0 : Int) := by rw [IntWalk.i64_in _ (by omega), hi0]; omega
                  have hak : (i0 : Int) < (t.size : Int) + 1 := by rw [hi0]; omega
                  rw [← hi0] at q1 q2 e0
                  have HI0 := Lib.hid hi0
                  have EX := Lib.hid (show But (Only g) w5 (wr.setCell ⟨g, i0, none⟩ (.int .i64 (max (f i0) (xn.getD k 0)))).drew ∧ Blk (wr.setCell ⟨g, i0, none⟩ (.int .i64 (max (f i0) (xn.getD k 0)))).drew g 3 (rowI (t.size + 1) (liftF f a (k + 1) (fun i => xn.getD i 0))) by
                    refine ⟨(h6.out.1.trans (But.set (S := Only g) wr ⟨g, i0, none⟩ _ rfl) (fun i hi => .inl hi)).drew, ?_⟩
                    have := h6.out.2.set i0 (.int .i64 (max (f i0) (xn.getD k 0)))
                    rw [rowI_set (g := liftF f a (k + 1) (fun i => xn.getD i 0))] at this
                    · exact this.ext ((Ext.refl _).drew)
                    · intro i hi
                      by_cases e : i = i0
                      · rw [if_pos e, e, HI0.out]
                        unfold liftF
                        rw [if_pos (by omega), show a + k - a = k by omega]
                      · rw [if_neg e]
                        have e' : i ≠ a + k := fun h => e (h.trans HI0.out.symm)
                        unfold liftF
                        by_cases e2 : a ≤ i ∧ i < a + k
                        · rw [if_pos e2, if_pos (by omega)]
                        · rw [if_neg e2, if_neg (by omega)])
                  have H6 := Lib.hid h6.out
                  have HKZ := Lib.hid (show Nat.lt k z from hkz)
                  clear h6 e0 hz2 hi0
                  generalize hfi : f i0 = fi at *
                  have HFI := Lib.hid hfi
                  generalize hxk : xn.getD k 0 = xk at *
                  have HXK := Lib.hid hxk
                  clear hfi hxk
                  go_wp2_with fail
                  go_still_tail 17, (by kernel_rfl)
                  change wpList _ _ _ _ _ wr.drew
                  go_wp2_with fail
                  go_roundw
                  case rel => exact ⟨k + 1, by have := HKZ.out; exact this, by go_num, EX⟩
                  case measure => simp [intOf]; omega
                · obtain rfl : k = z := by omega
                  have NX := Lib.hid (show But (Only g) w4 wr ∧ ∃ f, Blk wr g 3 (rowI (t.size + 1) f) ∧ Sup (textL s.data.toList) (fun x b => (x ∈ (l.take j).map tn ∧ b < t.size) ∨ (x = tn ⟨xs, xn, xA, xc⟩ ∧ b < a + 1)) f by
                    refine ⟨HB5.out.trans h6.out.1 (fun i hi => .inl hi), _, h6.out.2, ?_⟩
                    have hz1 := HZ.out
                    have hsa := SF.out.add (tn ⟨xs, xn, xA, xc⟩) a (g := liftF f a k (fun i => xn.getD i 0)) (fun i => by
                      have h0 := SF.out.nonneg i
                      unfold liftF hit
                      by_cases hai : a ≤ i
                      · rw [if_pos (show a ≤ i ∧ (tn ⟨xs, xn, xA, xc⟩).1 <+: (textL s.data.toList).drop a from ⟨hai, HPR.out⟩)]
                        by_cases hik : i < a + k
                        · rw [if_pos ⟨hai, hik⟩]; rfl
                        · rw [if_neg (fun h => hik h.2)]
                          have : (tn ⟨xs, xn, xA, xc⟩).2.getD (i - a) 0 = 0 := by
                            show xn.getD (i - a) 0 = 0
                            rw [List.getD, List.getElem?_eq_none (by omega)]; rfl
                          rw [this]; omega
                      · rw [if_neg (fun h => hai h.1), if_neg (fun h => hai h.1)]; omega)
                    refine hsa.iff (fun x b _ => ⟨fun h => ?_, fun h => ?_⟩)
                    · rcases h with (h | h) | h
                      · exact .inl h
                      · exact .inr ⟨h.1, by omega⟩
                      · exact .inr ⟨h.1, by omega⟩
                    · rcases h with h | h
                      · exact .inl (.inl h)
                      · by_cases e : b = a
                        · exact .inr ⟨h.1, e⟩
                        · exact .inl (.inr ⟨h.1, by omega⟩))
                  clear h6
                  go_wp2_with fail
                  go_roundw
                  case rel => exact ⟨a + 1, by omega, by go_num, NX⟩
                  case measure => simp [intOf]; omega
            · have HEW := str_dec11 t a (a + xs.size) xs (textL s.data.toList) HTL.out
              rw [show a + xs.size - a = xs.size by omega, decide_eq_false heq] at HEW
              have NX := Lib.hid (show ∀ q, But (Only g) w4 (w5.drewN q) ∧ ∃ f, Blk (w5.drewN q) g 3 (rowI (t.size + 1) f) ∧ Sup (textL s.data.toList) (fun x b => (x ∈ (l.take j).map tn ∧ b < t.size) ∨ (x = tn ⟨xs, xn, xA, xc⟩ ∧ b < a + 1)) f by
                intro q
                obtain ⟨hb, f, kf, sf⟩ := h5.out
                have XD := (Ext.refl w5).drewN q
                refine ⟨hb.trans (But.of_ext (S := Only g) XD) (fun i hi => .inl hi), f, kf.ext XD, sf.iff (fun x b hpre => ⟨fun h => h.imp id (fun h => ⟨h.1, by omega⟩), fun h => h.imp id (fun h => ⟨h.1, ?_⟩)⟩)⟩
                by_cases e : b = a
                · exfalso
                  rw [h.1, e] at hpre
                  apply heq
                  have h6 := List.prefix_iff_eq_take.1 hpre
                  simp only [tn, list_size] at h6
                  exact h6.symm
                · omega)
              clear h5 heq
              go_wp2_with fail
              go_quiet (fail)
              rename_i nq
              go_wp2_with fail
              go_roundw
              case rel => exact ⟨a + 1, by omega, by go_num, Lib.hid (NX.out nq)⟩
              case measure => simp [intOf]; omega
          · have NX := Lib.hid (show But (Only g) w3 w5 ∧ ∃ f, Blk w5 g 3 (rowI (t.size + 1) f) ∧ Sup (textL s.data.toList) (fun x b => x ∈ (l.take (j + 1)).map tn ∧ b < t.size) f by
              obtain ⟨hb, f, kf, sf⟩ := h5.out
              refine ⟨(HH.out.1.trans (But.of_ext (S := Only g) X4.out) (fun i hi => .inl hi)).trans hb (fun i hi => .inl hi), f, kf, sf.iff (fun x b hpre => ?_)⟩
              rw [TK.out, List.mem_append, List.mem_singleton]
              have hb1 : x = tn ⟨xs, xn, xA, xc⟩ → (b < a ↔ b < t.size) := fun e => by
                rw [e] at hpre
                have h7 := hpre.length_le
                have h8 := HTL.out
                have h9 : (textL s.data.toList).length = t.size := by rw [← h8, list_size]
                simp only [tn, list_size, List.length_drop, h9] at h7
                omega
              constructor
              · rintro (h | h)
                · exact ⟨.inl h.1, h.2⟩
                · exact ⟨.inr h.1, (hb1 h.1).1 h.2⟩
              · rintro ⟨h | h, hb2⟩
                · exact .inl ⟨h, hb2⟩
                · exact .inr ⟨h, (hb1 h).2 hb2⟩)
            clear h5
            go_wp2_with fail
            go_roundw
            case rel => exact ⟨j + 1, by have := HLT.out; exact this, by go_num, NX⟩
            case measure => simp [intOf]; omega
      · obtain rfl : j = n := by omega
        have hte : ¬ t = ByteArray.empty := by
          intro h
          rw [h] at ht1
          simp at ht1
        go_wp2_with fail
        go_ret
        have hnn := HN.out
        obtain ⟨hb, f, kk, sup⟩ := hh.out
        have hs := HTS.out
        have hlen : (valsL (l.map tn) s.data.toList).length = t.size - 1 := by rw [valsL_length HW.out, list_size]; omega
        have hget : ∀ i, i < t.size - 1 → (valsL (l.map tn) s.data.toList)[i]? = some (f (i + 1)) := fun i hi => by
          rw [valsL_get HW.out (by rw [list_size]; omega)]
          congr 1
          exact (numF_sup (l.map tn) _).uniq sup (fun x b _ => by rw [textL_length, list_size, ← hs, hnn, List.take_length]) (i + 1)
        refine ⟨?_, some ⟨g, 1, none⟩, t.size, by rw [hlen]; rfl, fun i v hv => ?_⟩
        · have := RG.out
          exact hb.ext (HX.out.trans X3.out) (fun i hi => by rw [show i = g from hi]; have := HX.out.size; omega)
        · have hi : i < t.size - 1 := by
            have := (List.getElem?_eq_some_iff.1 hv).1
            rw [List.length_map, hlen] at this
            exact this
          rw [List.getElem?_map, hget i hi] at hv
          simp only [Option.map_some, Option.some.injEq] at hv
          refine ⟨_, rfl, kk.lt, ?_⟩
          have e1 : (⟨g, 1, none⟩ : Addr).add i = ⟨g, i + 1, none⟩ := by
            unfold Addr.add
            by_cases h0 : i = 0
            · subst h0; rfl
            · simp [h0]; omega
          rw [e1, kk.cell, rowI_get (by omega), hv]
end L11
end Go.Proofs.YtdiccmlpppkgpaaGreatDoor

namespace Go.Proofs.YtdiccmlpppkgpaaGreatDoor
open Go.RowKit
open Go.Lib hiding intOf
namespace L12
open L10 (TN plainB patB tn)
open L11 (valsL valsL_length list_size rvals_any)

/-- What the document's Points leaves, and answers. -/
def RPointsQ (w : World) (l : List Int) (e : Ending) (w' : World) : Prop := Ext w w' ∧ ∃ A c, e = .returned (.slice A l.length c) ∧ SeenL w' A l

set_option maxRecDepth 100000 in
set_option maxHeartbeats 16000000 in
theorem rpoints_any (D : PatsD) (P : PatsP) (w : World) (sn : SeenPats w D P) (hp : ∀ x ∈ D.l, patB (tn x) = true) (hdn : D.l.length ≤ 400) (A : Option Addr) (l : List WP) (n c : Nat) (hs : SeenW w A l) (hn : n = l.length) (hm : n ≤ 1000000)
    (ok : ∀ x ∈ l, x.Ok ∧ x.ns.length ≤ 900000) (W : Option Addr) (u : List Int) (m d : Nat) (su : SeenL w W u) (hu : m = u.length) (hmm : m ≤ 1000000) (left right : Int) :
    Calls Tryz.prog 50 #[patsV D P, .slice A n c, .slice W m d, .int .i64 left, .int .i64 right] w (RPointsQ w (pointsL (D.l.map tn) (l.map tn) u left right)) := by
  obtain ⟨V, hV⟩ : ∃ V, V = w.alloc (.cells #[.slice P.x D.l.length P.c, .slice P.y D.m.length P.d] 25) := ⟨_, rfl⟩
  have W0 : Ext w V := by rw [hV]; exact (Ext.refl _).alloc _
  have kB : Blk V w.heap.size 25 [.slice P.x D.l.length P.c, .slice P.y D.m.length P.d] := by rw [hV]; exact Blk.lit _ _ _ _ rfl
  have CO := Lib.hid (rcore_any W u m d V (su.ext W0) hu hmm)
  obtain ⟨t, ht⟩ : ∃ t : ByteArray, t = ⟨(coreL u).toArray⟩ := ⟨_, rfl⟩
  have htl : t.data.toList = coreL u := by rw [ht]
  have HIN := Lib.hid (core_in u)
  have htz : t.size = (coreL u).length := by rw [ht]; rfl
  rw [← ht] at CO
  rw [← htz] at HIN
  cases hb : coreB u with
  | false =>
    rw [points_no hb]
    have h0 := coreL_no hb
    rw [h0] at ht
    subst ht
    have HX := Lib.hid W0
    generalize coreN u = cn at *
    unfold patsV
    generalize D.l.length = dl at *
    generalize D.m.length = dm at *
    obtain ⟨Px, Pc, Py, Pd⟩ := P
    dsimp only at *
    clear hs su hu hmm ok htl htz hn h0 hb HIN W0 kB sn hp hdn
    go_enter Tryz.func50, Tryz.ntmps50
    go_upto_region 1 with (fail)
    rw [← hV]
    clear hV
    go_wp2_with fail
    refine CO.out.mono ?_; rintro e w1 ⟨rfl, x1⟩
    have X1 := Lib.hid (HX.out.trans x1)
    clear x1 CO
    go_wp2_with fail
    go_ret
    exact ⟨X1.out, none, 0, rfl, SeenL.nil⟩
  | true =>
    rw [points_yes hb]
    have hpl := core_plain hb
    rw [← htl] at hpl ⊢
    have htz1 := L11.plain_len hpl
    rw [list_size] at htz1 ⊢
    have hte : t.toList.isEmpty = false := by
      rw [ByteArray.toList_eq]
      cases h : t.data.toList with
      | nil => have := list_size t; rw [h] at this; simp at this; omega
      | cons a r => rfl
    generalize coreN u = cn at *
    have RVA := Lib.hid (fun w' (x : Ext V w') => rvals_any D P w' ((sn.ext W0).ext x) hp hdn t)
    have SE := Lib.hid (fun k (h : k < l.length) w' (x : Ext V w') => ((hs.ext W0).ext x).get h)
    have HE := Lib.hid (fun k (h : k < l.length) => hitE_at (t := t.data.toList) h)
    have HPL := Lib.hid (fun k (h : k < l.length) (hall : ∀ j, j < k → hitE l t.data.toList j = false) (hk : hitE l t.data.toList k = true) => show placesL (D.l.map tn) (l.map tn) t.data.toList = l[k].ns by
      have e : atE l t.data.toList = k := firstF_eq (Nat.le_of_lt h) hall (fun _ => hk)
      have h2 := places_hit (p := D.l.map tn) (l := l) (t := t.data.toList) (by rw [e]; exact h)
      rw [h2]
      simp only [e])
    have HPN := Lib.hid (fun (hall : ∀ j, j < l.length → hitE l t.data.toList j = false) => show placesL (D.l.map tn) (l.map tn) t.data.toList = oddTo (D.l.map tn) t.data.toList t.size by
      have e : atE l t.data.toList = l.length := firstF_eq (Nat.le_refl _) hall (fun h => absurd h (by omega))
      rw [places_none (by rw [e]; omega), ← list_size]; rfl)
    have OKS := Lib.hid (fun k (h : k < l.length) => (ok _ (List.getElem_mem h)).2)
    have HW := Lib.hid (fun v (hv : v ∈ placesL (D.l.map tn) (l.map tn) t.data.toList) => show -9223372036854775808 ≤ v ∧ v ≤ 9223372036854775807 by
      rcases places_mem hv with ⟨x, hx, h⟩ | h
      · exact (ok x hx).1.wide v h
      · rw [list_size] at h; omega)
    have HLN := Lib.hid (show (placesL (D.l.map tn) (l.map tn) t.data.toList).length ≤ 900000 by
      by_cases hh : atE l t.data.toList < l.length
      · rw [places_hit hh]
        exact (ok _ (List.getElem_mem hh)).2
      · rw [places_none hh]
        unfold oddL
        rw [List.length_map]
        refine Nat.le_trans (List.length_filter_le _ _) ?_
        rw [List.length_range, list_size]; omega)
    have HM := Lib.hid (show cn + t.size ≤ m by have := HIN.out; omega)
    have HO := Lib.hid (fun i => oddTo_succ (D.l.map tn) t.data.toList i)
    have HO1 := Lib.hid (show oddTo (D.l.map tn) t.data.toList 1 = [] from rfl)
    have HOL := Lib.hid (fun i => oddTo_length (D.l.map tn) t.data.toList i)
    have HVL := Lib.hid (show (valsL (D.l.map tn) t.data.toList).length = t.size + 1 by rw [valsL_length hpl, list_size])
    have HVN := Lib.hid (fun i => odd_nonneg (D.l.map tn) t.data.toList i)
    unfold L11.RValsQ at RVA
    unfold patsV at RVA ⊢
    generalize placesL (D.l.map tn) (l.map tn) t.data.toList = pl at *
    generalize oddTo (D.l.map tn) t.data.toList = ot2 at *
    generalize valsL (D.l.map tn) t.data.toList = vl at *
    generalize D.l.length = dl at *
    generalize D.m.length = dm at *
    obtain ⟨Px, Pc, Py, Pd⟩ := P
    dsimp only at kB hV RVA ⊢
    have HX := Lib.hid W0
    have KS := Lib.hid (fun k => kept_succ pl (mayB t.size left right) cn (k := k))
    have KL := Lib.hid (fun k => kept_length pl (mayB t.size left right) cn k)
    have KZ := Lib.hid (show keptL pl (mayB t.size left right) cn 0 = [] from rfl)
    have MB := Lib.hid (fun x => show mayB t.size left right x = (decide (left ≤ x) && (decide (x ≤ (t.size : Int)) && decide (right ≤ IntKind.i64.wrap ((t.size : Int) - x)))) from rfl)
    rw [← kept_full]
    generalize keptL pl (mayB t.size left right) cn = ot at *
    generalize mayB t.size left right = q at *
    obtain ⟨z, hz⟩ : ∃ z, z = pl.length := ⟨_, rfl⟩
    have HZ := Lib.hid hz
    have hz9 : (z : Int) ≤ 900000 := by have := HLN.out; omega
    rw [← hz] at ⊢
    have hn64 : (n : Int) ≤ 1000000 := by omega
    have hts64 : (t.size : Int) ≤ 40 := by omega
    have hts1 : (1 : Int) ≤ (t.size : Int) := by omega
    have HMM := Lib.hid hmm
    clear hz hs su hu hmm ok htl htz hb HIN W0 ht hpl sn hp hdn hm
    have HN := Lib.hid hn
    clear hn
    go_enter Tryz.func50, Tryz.ntmps50
    go_upto_region 1 with (fail)
    rw [← hV]
    clear hV
    have KB := Lib.hid kB
    generalize w.heap.size = R at *
    clear kB
    go_wp2_with fail
    refine CO.out.mono ?_; rintro e w1 ⟨rfl, x1⟩
    have X1 := Lib.hid x1
    clear x1 CO
    go_wp2_with fail
    go_loopw [13, 14, 15] (fun v b i wr => ∃ (vv : Value) (fb : Bool) (k : Nat), vv = v ∧ b = .bool fb ∧ k ≤ n ∧ i = .int .i64 k ∧ Hid ((fb = false ∧ (∀ j, j < k → hitE l t.data.toList j = false) ∧ vv = .slice none 0 0 ∧ Ext w1 wr) ∨ (fb = true ∧ OwnI w1 wr vv pl))) (fun _ _ i _ => n - (intOf i).toNat)
    case atStart => exact ⟨_, false, 0, rfl, rfl, Nat.zero_le _, rfl, Lib.hid (.inl ⟨rfl, fun j hj => absurd hj (by omega), rfl, Ext.refl _⟩)⟩
    case round =>
      obtain ⟨vv, fb, k, hvv, rfl, hk, rfl, hi⟩ := hrel
      subst hvv
      obtain ⟨wo, hwo⟩ : ∃ wo : World, wo = wr := ⟨_, rfl⟩
      subst hwo
      cases fb with
      | true =>
        have ho := Lib.hid (show OwnI w1 wo vv pl from by
          rcases hi.out with h | h
          · cases h.1
          · exact h.2)
        clear hi
        by_cases hlt : k < n
        · obtain ⟨A9, c9, rfl, s9, _⟩ := ho.out.seen
          have X9 := Lib.hid ho.out.2
          have S9 := Lib.hid s9
          clear ho s9
          rw [← HZ.out]
          go_wp2_with fail
          go_loopw [18, 19] (fun v i wr => ∃ (vv : Value) (k : Nat), vv = v ∧ k ≤ z ∧ i = .int .i64 k ∧ Hid (OwnI wo wr vv (ot k))) (fun _ i _ => z - (intOf i).toNat)
          case atStart => exact ⟨_, 0, rfl, Nat.zero_le _, rfl, Lib.hid (by rw [KZ.out]; exact OwnI.nil (Ext.refl _))⟩
          case round =>
            obtain ⟨vv, k, hvv, hk, rfl, ho⟩ := hrel
            subst hvv
            by_cases hlt : k < z
            · have hlt' : k < pl.length := by rw [← HZ.out]; exact hlt
              obtain ⟨ad, rfl, hc⟩ := (S9.out.ext ho.out.2).get hlt'
              have hs := KS.out k hlt'
              have hol := KL.out k
              have hmem := HW.out (pl.getD k 0) (by rw [List.getD, List.getElem?_eq_getElem hlt']; exact List.getElem_mem hlt')
              have hmb := MB.out (pl.getD k 0)
              generalize pl.getD k 0 = x at *
              obtain ⟨y, hy⟩ : ∃ y, IntKind.i64.wrap ((t.size : Int) - x) = y := ⟨_, rfl⟩
              rw [hy] at hmb
              by_cases h1 : left ≤ x
              · by_cases h2 : x ≤ (t.size : Int)
                · by_cases h3 : right ≤ y
                  · have H2 := Lib.hid (show ot (k + 1) = ot k ++ [(cn : Int) + x] by rw [hs, hmb, decide_eq_true h1, decide_eq_true h2, decide_eq_true h3]; rfl)
                    have hw : IntKind.i64.wrap (x + (cn : Int)) = cn + x := by rw [IntWalk.i64_in _ (by have := HM.out; have := HMM.out; omega)]; omega
                    obtain ⟨v3, w6, r3, o3⟩ := ho.out.put ((cn : Int) + x) (by have := HZ.out; have := HLN.out; omega) 48
                    have O3 := Lib.hid o3
                    clear hs hmb hmem o3
                    go_wp2_with (at_builtin; refine wpList_ran rfl _ _ rfl r3 ?_)
                    go_roundw
                    case rel => exact ⟨_, k + 1, rfl, by omega, by go_num, Lib.hid (by rw [H2.out]; exact O3.out)⟩
                    case measure => simp [intOf]; omega
                  · have H2 := Lib.hid (show ot (k + 1) = ot k by rw [hs, hmb, decide_eq_false h3]; simp)
                    clear hs hmb hmem
                    go_wp2_with fail
                    go_roundw
                    case rel => exact ⟨_, k + 1, rfl, by omega, by go_num, Lib.hid (by rw [H2.out]; exact ho.out)⟩
                    case measure => simp [intOf]; omega
                · have H2 := Lib.hid (show ot (k + 1) = ot k by rw [hs, hmb, decide_eq_false h2]; simp)
                  clear hs hmb hmem
                  go_wp2_with fail
                  go_roundw
                  case rel => exact ⟨_, k + 1, rfl, by omega, by go_num, Lib.hid (by rw [H2.out]; exact ho.out)⟩
                  case measure => simp [intOf]; omega
              · have H2 := Lib.hid (show ot (k + 1) = ot k by rw [hs, hmb, decide_eq_false h1]; simp)
                clear hs hmb hmem
                go_wp2_with fail
                go_roundw
                case rel => exact ⟨_, k + 1, rfl, by omega, by go_num, Lib.hid (by rw [H2.out]; exact ho.out)⟩
                case measure => simp [intOf]; omega
            · obtain rfl : k = z := by omega
              obtain ⟨A8, c8, rfl, s8, _⟩ := ho.out.seen
              have FIN := Lib.hid (show RPointsQ w (ot k) (.returned (.slice A8 (ot k).length c8)) wr from ⟨((HX.out.trans X1.out).trans X9.out).trans ho.out.2, A8, c8, rfl, s8⟩)
              go_wp2_with fail
              go_ret
              exact FIN.out
        · obtain rfl : k = n := by omega
          obtain ⟨A9, c9, rfl, s9, _⟩ := ho.out.seen
          have X9 := Lib.hid ho.out.2
          have S9 := Lib.hid s9
          clear ho s9
          rw [← HZ.out]
          go_wp2_with fail
          go_loopw [18, 19] (fun v i wr => ∃ (vv : Value) (k : Nat), vv = v ∧ k ≤ z ∧ i = .int .i64 k ∧ Hid (OwnI wo wr vv (ot k))) (fun _ i _ => z - (intOf i).toNat)
          case atStart => exact ⟨_, 0, rfl, Nat.zero_le _, rfl, Lib.hid (by rw [KZ.out]; exact OwnI.nil (Ext.refl _))⟩
          case round =>
            obtain ⟨vv, k, hvv, hk, rfl, ho⟩ := hrel
            subst hvv
            by_cases hlt : k < z
            · have hlt' : k < pl.length := by rw [← HZ.out]; exact hlt
              obtain ⟨ad, rfl, hc⟩ := (S9.out.ext ho.out.2).get hlt'
              have hs := KS.out k hlt'
              have hol := KL.out k
              have hmem := HW.out (pl.getD k 0) (by rw [List.getD, List.getElem?_eq_getElem hlt']; exact List.getElem_mem hlt')
              have hmb := MB.out (pl.getD k 0)
              generalize pl.getD k 0 = x at *
              obtain ⟨y, hy⟩ : ∃ y, IntKind.i64.wrap ((t.size : Int) - x) = y := ⟨_, rfl⟩
              rw [hy] at hmb
              by_cases h1 : left ≤ x
              · by_cases h2 : x ≤ (t.size : Int)
                · by_cases h3 : right ≤ y
                  · have H2 := Lib.hid (show ot (k + 1) = ot k ++ [(cn : Int) + x] by rw [hs, hmb, decide_eq_true h1, decide_eq_true h2, decide_eq_true h3]; rfl)
                    have hw : IntKind.i64.wrap (x + (cn : Int)) = cn + x := by rw [IntWalk.i64_in _ (by have := HM.out; have := HMM.out; omega)]; omega
                    obtain ⟨v3, w6, r3, o3⟩ := ho.out.put ((cn : Int) + x) (by have := HZ.out; have := HLN.out; omega) 48
                    have O3 := Lib.hid o3
                    clear hs hmb hmem o3
                    go_wp2_with (at_builtin; refine wpList_ran rfl _ _ rfl r3 ?_)
                    go_roundw
                    case rel => exact ⟨_, k + 1, rfl, by omega, by go_num, Lib.hid (by rw [H2.out]; exact O3.out)⟩
                    case measure => simp [intOf]; omega
                  · have H2 := Lib.hid (show ot (k + 1) = ot k by rw [hs, hmb, decide_eq_false h3]; simp)
                    clear hs hmb hmem
                    go_wp2_with fail
                    go_roundw
                    case rel => exact ⟨_, k + 1, rfl, by omega, by go_num, Lib.hid (by rw [H2.out]; exact ho.out)⟩
                    case measure => simp [intOf]; omega
                · have H2 := Lib.hid (show ot (k + 1) = ot k by rw [hs, hmb, decide_eq_false h2]; simp)
                  clear hs hmb hmem
                  go_wp2_with fail
                  go_roundw
                  case rel => exact ⟨_, k + 1, rfl, by omega, by go_num, Lib.hid (by rw [H2.out]; exact ho.out)⟩
                  case measure => simp [intOf]; omega
              · have H2 := Lib.hid (show ot (k + 1) = ot k by rw [hs, hmb, decide_eq_false h1]; simp)
                clear hs hmb hmem
                go_wp2_with fail
                go_roundw
                case rel => exact ⟨_, k + 1, rfl, by omega, by go_num, Lib.hid (by rw [H2.out]; exact ho.out)⟩
                case measure => simp [intOf]; omega
            · obtain rfl : k = z := by omega
              obtain ⟨A8, c8, rfl, s8, _⟩ := ho.out.seen
              have FIN := Lib.hid (show RPointsQ w (ot k) (.returned (.slice A8 (ot k).length c8)) wr from ⟨((HX.out.trans X1.out).trans X9.out).trans ho.out.2, A8, c8, rfl, s8⟩)
              go_wp2_with fail
              go_ret
              exact FIN.out
      | false =>
        have hi := Lib.hid (show (∀ j, j < k → hitE l t.data.toList j = false) ∧ vv = .slice none 0 0 ∧ Ext w1 wo from by
          rcases hi.out with h | h
          · exact h.2
          · cases h.1)
        obtain ⟨ha, rfl, hx⟩ := hi.out
        have HA := Lib.hid ha
        have XO := Lib.hid hx
        clear hi ha hx
        by_cases hlt : k < n
        · have hkl : k < l.length := by rw [← HN.out]; exact hlt
          obtain ⟨⟨ad, hA, u0, u1⟩, sx⟩ := SE.out k hkl wo (X1.out.trans XO.out)
          have HH := Lib.hid (HE.out k hkl)
          have HP := Lib.hid (HPL.out k hkl HA.out)
          have BE := Lib.hid (bytes_eq l[k].s t)
          have hxz := OKS.out k hkl
          rw [HH.out] at HP
          have NO := Lib.hid (fun h : hitE l t.data.toList k = false => show ∀ j, j < k + 1 → hitE l t.data.toList j = false from fun j hj => if e : j = k then e ▸ h else HA.out j (by omega))
          rw [HH.out] at NO
          rw [← BE.out] at HP NO
          clear HH BE
          generalize l[k].s = xs at *
          generalize l[k].A = xA at *
          generalize l[k].ns = xn at *
          generalize l[k].c = xc at *
          subst hA
          cases hbb : (xs.toList == t.toList) with
          | false =>
            rw [hbb] at NO
            have H := Lib.hid (NO.out rfl)
            clear NO HP u1 sx
            go_wp2_with fail
            go_roundw
            case rel => exact ⟨_, false, k + 1, rfl, rfl, by omega, by go_num, Lib.hid (.inl ⟨rfl, H.out, rfl, XO.out⟩)⟩
            case measure => simp [intOf]; omega
          | true =>
            rw [hbb] at HP
            have H := Lib.hid (HP.out rfl)
            have o0 := OwnI.empty XO.out
            obtain ⟨v3, w3, r3, o3⟩ := o0.puts xA xn xn.length xc (sx.ext ((Ext.refl wo).alloc (.cells #[] 3))) rfl (by simp; omega) 48
            have O3 := Lib.hid o3
            have u1 := ((Ext.refl wo).alloc (.cells #[] 3)).at u1
            generalize xn.length = xl at *
            clear NO HP sx o3 o0
            go_wp2_with (at_builtin; refine wpList_ran rfl _ _ rfl r3 ?_)
            go_roundw
            case rel => exact ⟨_, true, k + 1, rfl, rfl, by omega, by go_num, Lib.hid (.inr ⟨rfl, by rw [H.out]; exact O3.out⟩)⟩
            case measure => simp [intOf]; omega
        · obtain rfl : k = n := by omega
          have HPE := Lib.hid (HPN.out (by rw [← HN.out]; exact HA.out))
          have q0 := (KB.out.ext (X1.out.trans XO.out)).cell 0
          have q1 := (KB.out.ext (X1.out.trans XO.out)).cell 1
          dsimp only [List.getElem?_cons_zero, List.getElem?_cons_succ] at q0 q1
          have RV := Lib.hid (RVA.out wo (X1.out.trans XO.out))
          obtain ⟨zv, hzv⟩ : ∃ zv, zv = vl.length := ⟨_, rfl⟩
          have hzt : zv = t.size + 1 := by rw [hzv, HVL.out]
          have HZV := Lib.hid hzv
          rw [← hzv] at RV
          clear hzv RVA
          go_wp2_with fail
          refine RV.out.mono ?_; rintro e w2 ⟨x2, Av, cv, rfl, sv⟩
          have SV := Lib.hid sv
          have XO2 := Lib.hid (XO.out.trans x2)
          clear x2 sv RV q0 q1 HA
          go_wp2_with fail
          go_loopw [13, 17] (fun v i wr => ∃ (vv : Value) (k : Nat), vv = v ∧ 1 ≤ k ∧ k ≤ t.size ∧ i = .int .i64 k ∧ Hid (OwnI w2 wr vv (ot2 k))) (fun _ i _ => t.size - (intOf i).toNat)
          case atStart => exact ⟨_, 1, rfl, Nat.le_refl _, by omega, rfl, Lib.hid (by rw [HO1.out]; exact OwnI.nil (Ext.refl _))⟩
          case round =>
            obtain ⟨vv, k, hvv, hk1, hk, rfl, ho⟩ := hrel
            subst hvv
            by_cases hlt : k < t.size
            · obtain ⟨ad, rfl, hc⟩ := (SV.out.ext ho.out.2).get (k := k) (by rw [← HZV.out]; omega)
              have hn := HVN.out k
              have hkz : (k : Int) < zv := by omega
              have hs := HO.out k
              have hol := HOL.out k
              generalize vl.getD k 0 = x at *
              by_cases hx : x % 2 = 1
              · have hr : (x.tmod 2 == 1) = true := by rw [rem_two hn, hx]; rfl
                have H2 := Lib.hid (show ot2 (k + 1) = ot2 k ++ [(k : Int)] by rw [hs, if_pos ⟨by omega, hx⟩])
                obtain ⟨v3, w3, r3, o3⟩ := ho.out.put (k : Int) (by omega) 48
                have O3 := Lib.hid o3
                clear hs hn hx o3
                go_wp2_with (at_builtin; refine wpList_ran rfl _ _ rfl r3 ?_)
                go_roundw
                case rel => exact ⟨_, k + 1, rfl, by omega, by omega, by go_num, Lib.hid (by rw [H2.out]; exact O3.out)⟩
                case measure => simp [intOf]; omega
              · have hr : (x.tmod 2 == 1) = false := by rw [rem_two hn]; simpa using hx
                have H2 := Lib.hid (show ot2 (k + 1) = ot2 k by rw [hs, if_neg (fun h => hx h.2)]; simp)
                clear hs hn hx
                go_wp2_with fail
                go_roundw
                case rel => exact ⟨_, k + 1, rfl, by omega, by omega, by go_num, Lib.hid (by rw [H2.out]; exact ho.out)⟩
                case measure => simp [intOf]; omega
            · obtain rfl : k = t.size := by omega
              obtain ⟨wo, hwo⟩ : ∃ wo : World, wo = wr := ⟨_, rfl⟩
              subst hwo
              rw [← HPE.out] at ho
              obtain ⟨A9, c9, rfl, s9, _⟩ := ho.out.seen
              have X9 := Lib.hid (XO2.out.trans ho.out.2)
              have S9 := Lib.hid s9
              clear ho s9
              rw [← HZ.out]
              go_wp2_with fail
              go_loopw [18, 19] (fun v i wr => ∃ (vv : Value) (k : Nat), vv = v ∧ k ≤ z ∧ i = .int .i64 k ∧ Hid (OwnI wo wr vv (ot k))) (fun _ i _ => z - (intOf i).toNat)
              case atStart => exact ⟨_, 0, rfl, Nat.zero_le _, rfl, Lib.hid (by rw [KZ.out]; exact OwnI.nil (Ext.refl _))⟩
              case round =>
                obtain ⟨vv, k, hvv, hk, rfl, ho⟩ := hrel
                subst hvv
                by_cases hlt : k < z
                · have hlt' : k < pl.length := by rw [← HZ.out]; exact hlt
                  obtain ⟨ad, rfl, hc⟩ := (S9.out.ext ho.out.2).get hlt'
                  have hs := KS.out k hlt'
                  have hol := KL.out k
                  have hmem := HW.out (pl.getD k 0) (by rw [List.getD, List.getElem?_eq_getElem hlt']; exact List.getElem_mem hlt')
                  have hmb := MB.out (pl.getD k 0)
                  generalize pl.getD k 0 = x at *
                  obtain ⟨y, hy⟩ : ∃ y, IntKind.i64.wrap ((t.size : Int) - x) = y := ⟨_, rfl⟩
                  rw [hy] at hmb
                  by_cases h1 : left ≤ x
                  · by_cases h2 : x ≤ (t.size : Int)
                    · by_cases h3 : right ≤ y
                      · have H2 := Lib.hid (show ot (k + 1) = ot k ++ [(cn : Int) + x] by rw [hs, hmb, decide_eq_true h1, decide_eq_true h2, decide_eq_true h3]; rfl)
                        have hw : IntKind.i64.wrap (x + (cn : Int)) = cn + x := by rw [IntWalk.i64_in _ (by have := HM.out; have := HMM.out; omega)]; omega
                        obtain ⟨v3, w6, r3, o3⟩ := ho.out.put ((cn : Int) + x) (by have := HZ.out; have := HLN.out; omega) 48
                        have O3 := Lib.hid o3
                        clear hs hmb hmem o3
                        go_wp2_with (at_builtin; refine wpList_ran rfl _ _ rfl r3 ?_)
                        go_roundw
                        case rel => exact ⟨_, k + 1, rfl, by omega, by go_num, Lib.hid (by rw [H2.out]; exact O3.out)⟩
                        case measure => simp [intOf]; omega
                      · have H2 := Lib.hid (show ot (k + 1) = ot k by rw [hs, hmb, decide_eq_false h3]; simp)
                        clear hs hmb hmem
                        go_wp2_with fail
                        go_roundw
                        case rel => exact ⟨_, k + 1, rfl, by omega, by go_num, Lib.hid (by rw [H2.out]; exact ho.out)⟩
                        case measure => simp [intOf]; omega
                    · have H2 := Lib.hid (show ot (k + 1) = ot k by rw [hs, hmb, decide_eq_false h2]; simp)
                      clear hs hmb hmem
                      go_wp2_with fail
                      go_roundw
                      case rel => exact ⟨_, k + 1, rfl, by omega, by go_num, Lib.hid (by rw [H2.out]; exact ho.out)⟩
                      case measure => simp [intOf]; omega
                  · have H2 := Lib.hid (show ot (k + 1) = ot k by rw [hs, hmb, decide_eq_false h1]; simp)
                    clear hs hmb hmem
                    go_wp2_with fail
                    go_roundw
                    case rel => exact ⟨_, k + 1, rfl, by omega, by go_num, Lib.hid (by rw [H2.out]; exact ho.out)⟩
                    case measure => simp [intOf]; omega
                · obtain rfl : k = z := by omega
                  obtain ⟨A8, c8, rfl, s8, _⟩ := ho.out.seen
                  have FIN := Lib.hid (show RPointsQ w (ot k) (.returned (.slice A8 (ot k).length c8)) wr from ⟨((HX.out.trans X1.out).trans X9.out).trans ho.out.2, A8, c8, rfl, s8⟩)
                  go_wp2_with fail
                  go_ret
                  exact FIN.out
end L12
end Go.Proofs.YtdiccmlpppkgpaaGreatDoor

namespace Go.Proofs.YtdiccmlpppkgpaaGreatDoor
open Go.RowKit
namespace L13
open L10 (risesB)

theorem all_step {p : Int → Bool} {l : List Int} {k : Nat} (h : k < l.length) : (l.drop k).all p = (p (l.getD k 0) && (l.drop (k + 1)).all p) := by
  rw [List.drop_eq_getElem_cons h, List.all_cons, List.getD, List.getElem?_eq_getElem h]; rfl
set_option maxRecDepth 100000 in
set_option maxHeartbeats 4000000 in
theorem rword_any (x : CW) (ok : x.Ok) (w : World) (s1 : SeenL w x.A x.cs) (s2 : SeenL w x.B x.ss) : Calls Tryz.prog 36 #[cwV x] w (Ret w (.bool (wordB (tw x)))) := by
  obtain ⟨cs, A, c, ss, B, d⟩ := x
  obtain ⟨hr1, hm1, hr2, hm2, hw1, hw2⟩ := ok
  dsimp only at hr1 hm1 hr2 hm2 hw1 hw2 s1 s2
  unfold maxLen at hm1 hm2
  rw [show (2 : Nat) ^ 63 - 1 = 9223372036854775807 from rfl] at hm1 hm2
  obtain ⟨V, hV⟩ : ∃ V, V = w.alloc (.cells #[.slice A cs.length c, .slice B ss.length d] 50) := ⟨_, rfl⟩
  have W0 : Ext w V := by rw [hV]; exact (Ext.refl _).alloc _
  have kB : Blk V w.heap.size 50 [.slice A cs.length c, .slice B ss.length d] := by rw [hV]; exact Blk.lit _ _ _ _ rfl
  have S1 := Lib.hid (fun w' (x : Ext V w') => SeenL.ext (SeenL.ext s1 W0) x)
  have S2 := Lib.hid (fun w' (x : Ext V w') => SeenL.ext (SeenL.ext s2 W0) x)
  have HP := Lib.hid (show wordB (tw ⟨cs, A, c, ss, B, d⟩) = (decide (1 ≤ cs.length ∧ cs.length ≤ 60) && (cs.all codeB && risesB cs.length 1 ss)) from rfl)
  obtain ⟨b, hb⟩ : ∃ b, wordB (tw ⟨cs, A, c, ss, B, d⟩) = b := ⟨_, rfl⟩
  rw [hb]
  rw [hb] at HP
  clear hb
  have HW := Lib.hid (fun k => getD_wide hw2 k)
  obtain ⟨m, hm⟩ : ∃ m, m = cs.length := ⟨_, rfl⟩
  have HM := Lib.hid hm
  obtain ⟨n, hn⟩ : ∃ n, n = ss.length := ⟨_, rfl⟩
  have HN := Lib.hid hn
  unfold cwV
  dsimp only
  rw [← hn] at hV kB hr2 ⊢
  rw [← hm] at hV kB hr1 HP ⊢
  clear hw1 hw2 s1 s2 hn hm
  have hn64 : (n : Int) ≤ 9223372036854775807 := by omega
  go_enter Tryz.func36, Tryz.ntmps36
  go_upto_region 1 with (fail)
  rw [← hV]
  clear hV
  generalize w.heap.size = R at *
  have q0 : V.cell? ⟨R, 0, none⟩ = some (.slice A m c) := kB.cell 0
  have q1 : V.cell? ⟨R, 1, none⟩ = some (.slice B n d) := kB.cell 1
  have HX := Lib.hid W0
  clear W0 kB
  by_cases h1 : m < 1
  · have HF := Lib.hid (show false = b by rw [HP.out, decide_eq_false (by omega)]; rfl)
    have h1' : (m : Int) < 1 := by omega
    clear HP
    go_wp2_with fail
    go_ret
    exact ⟨ret_bool HF.out, HX.out⟩
  by_cases h2 : 60 < m
  · have HF := Lib.hid (show false = b by rw [HP.out, decide_eq_false (by omega)]; rfl)
    have h1' : ¬ (m : Int) < 1 := by omega
    have h2' : (60 : Int) < m := by omega
    clear HP
    go_wp2_with fail
    go_ret
    exact ⟨ret_bool HF.out, HX.out⟩
  have h1' : ¬ (m : Int) < 1 := by omega
  have h2' : ¬ (60 : Int) < m := by omega
  have HP := Lib.hid (show (cs.all codeB && risesB m 1 ss) = b by rw [HP.out, decide_eq_true (show 1 ≤ m ∧ m ≤ 60 by omega), Bool.true_and])
  go_wp2_with fail
  go_loopw [3] (fun i wr => ∃ k : Nat, k ≤ m ∧ i = .int .i64 k ∧ Hid (Ext V wr) ∧ Hid (cs.all codeB = (cs.drop k).all codeB)) (fun i _ => m - (intOf i).toNat)
  case atStart => exact ⟨0, Nat.zero_le _, rfl, Lib.hid (Ext.refl _), Lib.hid rfl⟩
  case round =>
    obtain ⟨k, hk, rfl, hX, hall⟩ := hrel
    have q0 := hX.out.at q0
    have q1 := hX.out.at q1
    by_cases hlt : k < m
    · have hlt' : k < cs.length := by rw [← HM.out]; exact hlt
      obtain ⟨ad, rfl, hc⟩ := (S1.out wr hX.out).get hlt'
      have hall := hall.out
      rw [all_step hlt'] at hall
      have HALL := Lib.hid hall
      have hk64 : (k : Int) < (m : Int) := by omega
      clear hall
      generalize cs.getD k 0 = v at *
      by_cases g1 : v < 33
      · have HF := Lib.hid (show false = b by rw [← HP.out, HALL.out, codeB, decide_eq_false (by omega)]; rfl)
        clear HALL
        go_wp2_with fail
        go_ret
        exact ⟨ret_bool HF.out, HX.out.trans hX.out⟩
      · by_cases g2 : 126 < v
        · have HF := Lib.hid (show false = b by rw [← HP.out, HALL.out, codeB, decide_eq_false (by omega)]; rfl)
          clear HALL
          go_wp2_with fail
          go_ret
          exact ⟨ret_bool HF.out, HX.out.trans hX.out⟩
        · have H2 := Lib.hid (show cs.all codeB = (cs.drop (k + 1)).all codeB by rw [HALL.out, codeB, decide_eq_true (by omega), Bool.true_and])
          clear HALL
          go_wp2_with fail
          go_roundw
          case rel => exact ⟨k + 1, by omega, by go_num, hX, H2⟩
          case measure => simp [intOf]; omega
    · have hkm : k = m := by omega
      subst hkm
      obtain ⟨k0, hk0⟩ : ∃ k0, k0 = k := ⟨_, rfl⟩
      obtain ⟨w2, hw2⟩ : ∃ w2 : World, w2 = wr := ⟨_, rfl⟩
      subst hw2
      have X2 := hX
      have HB2 := Lib.hid (show risesB k0 1 ss = b by rw [hk0, ← HP.out, hall.out, HM.out, List.drop_length]; rfl)
      clear hall HP
      rw [← hk0] at *
      go_wp2_with fail
      go_loopw [4] (fun i wr => ∃ (k : Nat) (z : Int), k ≤ n ∧ i = .int .i64 k ∧ 1 ≤ z ∧ (k = 0 → z = 1) ∧ Hid (0 < k → ss.getD (k - 1) 0 + 1 = z) ∧ Hid (Ext w2 wr) ∧ Hid (risesB k0 1 ss = risesB k0 z (ss.drop k))) (fun i _ => n - (intOf i).toNat)
      case atStart => exact ⟨0, 1, Nat.zero_le _, rfl, by omega, fun _ => rfl, (fun h => absurd h (by omega)), Ext.refl _, rfl⟩
      case round =>
        obtain ⟨k, z, hk, rfl, hz1, hz0, hzk, hY, hall⟩ := hrel
        have q0 := hY.out.at q0
        have q1 := hY.out.at q1
        by_cases hlt : k < n
        · have hlt' : k < ss.length := by rw [← HN.out]; exact hlt
          obtain ⟨ad, rfl, hc⟩ := (S2.out wr (X2.out.trans hY.out)).get hlt'
          have hall := hall.out
          rw [rises_drop hlt'] at hall
          have hw := HW.out k
          have HALL := Lib.hid hall
          have hk64 : (k : Int) < (n : Int) := by omega
          obtain ⟨v, hv⟩ : ∃ v, ss.getD k 0 = v := ⟨_, rfl⟩
          rw [hv] at hc hw HALL
          have HV := Lib.hid hv
          clear hall hv
          by_cases h1 : v < 1
          · have H2 := Lib.hid (show false = b by rw [← HB2.out, HALL.out, decide_eq_false (by omega)]; rfl)
            have g1 : decide (v < 1) = true := decide_eq_true h1
            clear HALL h1 hz0
            go_wp2_with fail
            go_quiet (fail)
            go_wp2_with fail
            go_ret
            exact ⟨ret_bool H2.out, HX.out.trans ((X2.out.trans hY.out).drewN _)⟩
          · have g1 : decide (v < 1) = false := decide_eq_false h1
            by_cases h2 : (k0 : Int) ≤ v
            · have H2 := Lib.hid (show false = b by rw [← HB2.out, HALL.out, decide_eq_false (by omega)]; rfl)
              have g2 : decide ((k0 : Int) ≤ v) = true := decide_eq_true h2
              clear HALL h1 h2 hz0
              go_wp2_with fail
              go_quiet (fail)
              go_wp2_with fail
              go_ret
              exact ⟨ret_bool H2.out, HX.out.trans ((X2.out.trans hY.out).drewN _)⟩
            · have g2 : decide ((k0 : Int) ≤ v) = false := decide_eq_false h2
              have hv1 : 1 ≤ v := by omega
              by_cases h3 : k = 0
              · have H2 := Lib.hid (show risesB k0 1 ss = risesB k0 (v + 1) (ss.drop (k + 1)) by rw [HALL.out, decide_eq_true (by have := hz0 h3; omega)]; rfl)
                subst h3
                rw [Addr.add_zero'] at hc
                clear HALL hz0 h1 h2
                go_wp2_with fail
                go_quiet (fail)
                go_wp2_with fail
                go_roundw
                case rel => exact ⟨0 + 1, v + 1, by omega, by go_num, by omega, fun h => absurd h (by omega), Lib.hid (fun _ => by rw [Nat.add_sub_cancel, HV.out]), Lib.hid (hY.out.drewN _), H2⟩
                case measure => simp [intOf]; omega
              · have g3 : decide ((0 : Int) < k) = true := decide_eq_true (by omega)
                have g5 : decide (0 < k) = true := decide_eq_true (by omega)
                have hlp : k - 1 < ss.length := by omega
                obtain ⟨ad', e', hc'⟩ := (S2.out wr (X2.out.trans hY.out)).get hlp
                cases e'
                have hzk := hzk.out (by omega)
                obtain ⟨u, hu⟩ : ∃ u, ss.getD (k - 1) 0 = u := ⟨_, rfl⟩
                rw [hu] at hc' hzk
                have hwk : wrap64 ((k : Int) - 1) = ((k - 1 : Nat) : Int) := by rw [IntWalk.wrap64_in _ (by omega)]; omega
                have hwi : IntKind.i64.wrap ((k : Int) - 1) = ((k - 1 : Nat) : Int) := by rw [IntWalk.i64_in _ (by omega)]; omega
                have hkp : ((k - 1 : Nat) : Int) < (n : Int) := by omega
                have hwu := HW.out (k - 1)
                rw [hu] at hwu
                clear hu hlp
                have HKJ := Lib.hid (show k - 1 + 1 = k by omega)
                generalize k - 1 = j at *
                have hjn : j < n := by omega
                have HZK := Lib.hid hzk
                by_cases h4 : v ≤ u
                · have H2 := Lib.hid (show false = b by rw [← HB2.out, HALL.out, decide_eq_false (by omega)]; rfl)
                  have g4 : decide (v ≤ u) = true := decide_eq_true h4
                  clear HALL hz0 h1 h2 h4 hzk h3
                  go_wp2_with fail
                  go_quiet (fail)
                  go_wp2_with fail
                  go_ret
                  exact ⟨ret_bool H2.out, HX.out.trans ((X2.out.trans hY.out).drewN _)⟩
                · have H2 := Lib.hid (show risesB k0 1 ss = risesB k0 (v + 1) (ss.drop (k + 1)) by rw [HALL.out, decide_eq_true (by omega)]; rfl)
                  have g4 : decide (v ≤ u) = false := decide_eq_false h4
                  clear HALL hz0 h1 h2 h4 hzk h3
                  go_wp2_with fail
                  go_quiet (fail)
                  go_wp2_with fail
                  go_roundw
                  case rel => exact ⟨k + 1, v + 1, by omega, by go_num, by omega, fun h => absurd h (by omega), Lib.hid (fun _ => by rw [Nat.add_sub_cancel, HV.out]), Lib.hid (hY.out.drewN _), H2⟩
                  case measure => simp [intOf]; omega
        · obtain rfl : k = n := by omega
          have HF := Lib.hid (show true = b by rw [← HB2.out, hall.out, HN.out, List.drop_length]; rfl)
          clear hall
          go_wp2_with fail
          go_ret
          exact ⟨ret_bool HF.out, HX.out.trans (X2.out.trans hY.out)⟩
end L13
end Go.Proofs.YtdiccmlpppkgpaaGreatDoor

namespace Go.Proofs.YtdiccmlpppkgpaaGreatDoor
open Go.RowKit
namespace L13

theorem sumC_snoc (l : List TW) (p : TW) : sumC (l ++ [p]) = sumC l + p.1.length := by simp [sumC]
theorem take_map {l : List CW} {k : Nat} (h : k < l.length) : (l.take (k + 1)).map tw = (l.take k).map tw ++ [tw l[k]] := by
  rw [List.take_succ_eq_append_getElem h, List.map_append]; rfl
theorem word_short {p : TW} (h : wordB p = true) : 1 ≤ p.1.length ∧ p.1.length ≤ 60 := by
  simp only [wordB, Bool.and_eq_true, decide_eq_true_eq] at h
  exact h.1
theorem sum_most {l : List TW} (h : ∀ p ∈ l, wordB p = true) : sumC l ≤ l.length * 60 := by
  induction l with
  | nil => simp [sumC]
  | cons p r ih =>
    have h1 := word_short (h p (by simp))
    have h2 := ih (fun q hq => h q (by simp [hq]))
    have e : sumC (p :: r) = p.1.length + sumC r := by simp [sumC]
    rw [e, List.length_cons]
    omega
set_option maxRecDepth 100000 in
set_option maxHeartbeats 4000000 in
theorem rcheck_any (A : Option Addr) (l : List CW) (n c : Nat) (w : World) (hs : SeenC w A l) (hn : n = l.length) (ok : ∀ x ∈ l, x.Ok) :
    Calls Tryz.prog 25 #[.slice A n c] w (Ret w (.bool (checkB (l.map tw)))) := by
  have SN := Lib.hid hs
  have HN := Lib.hid hn
  have OK := Lib.hid ok
  obtain ⟨b, hb⟩ : ∃ b, checkB (l.map tw) = b := ⟨_, rfl⟩
  rw [hb]
  have HB := Lib.hid (show b = (decide (1 ≤ n ∧ n ≤ 100) && ((l.map tw).all wordB && decide (sumC (l.map tw) ≤ 400))) by rw [← hb, checkB, List.length_map, hn])
  clear hs hn ok hb
  by_cases h1 : n < 1
  · have HF := Lib.hid (show false = b by rw [HB.out, decide_eq_false (by omega)]; rfl)
    have h1' : (n : Int) < 1 := by omega
    clear HB
    go_enter Tryz.func25, Tryz.ntmps25
    go_wp2_with fail
    go_ret
    exact ⟨ret_bool HF.out, Ext.refl _⟩
  by_cases h2 : 100 < n
  · have HF := Lib.hid (show false = b by rw [HB.out, decide_eq_false (by omega)]; rfl)
    have h1' : ¬ (n : Int) < 1 := by omega
    have h2' : (100 : Int) < n := by omega
    clear HB
    go_enter Tryz.func25, Tryz.ntmps25
    go_wp2_with fail
    go_ret
    exact ⟨ret_bool HF.out, Ext.refl _⟩
  have h1' : ¬ (n : Int) < 1 := by omega
  have h2' : ¬ (100 : Int) < n := by omega
  have hn100 : (n : Int) ≤ 100 := by omega
  have HB2 := Lib.hid (show b = ((l.map tw).all wordB && decide (sumC (l.map tw) ≤ 400)) by rw [HB.out, decide_eq_true (by omega), Bool.true_and])
  clear HB
  go_enter Tryz.func25, Tryz.ntmps25
  go_wp2_with fail
  go_loopw [3, 4] (fun s i wr => ∃ (k t : Nat), k ≤ n ∧ i = .int .i64 k ∧ s = .int .i64 t ∧ t ≤ k * 60 ∧ Hid (Ext w wr) ∧ Hid (t = sumC ((l.take k).map tw) ∧ ∀ p ∈ (l.take k).map tw, wordB p = true)) (fun _ i _ => n - (intOf i).toNat)
  case atStart => exact ⟨0, 0, Nat.zero_le _, rfl, rfl, by omega, Lib.hid (Ext.refl _), Lib.hid ⟨by simp [sumC], fun p hp => by simp at hp⟩⟩
  case round =>
    obtain ⟨k, t, hk, rfl, rfl, ht, X, hh⟩ := hrel
    by_cases hlt : k < n
    · have hkl : k < l.length := by rw [← HN.out]; exact hlt
      obtain ⟨⟨ad, rfl, u0, u1⟩, s1, s2⟩ := (SN.out.ext X.out).get hkl
      have C := Lib.hid (rword_any l[k] (OK.out _ (List.getElem_mem hkl)) wr s1 s2)
      have TM := Lib.hid (take_map hkl)
      have LM := Lib.hid (show tw l[k] ∈ l.map tw from List.mem_map.2 ⟨_, List.getElem_mem hkl, rfl⟩)
      have WS := Lib.hid (word_short (p := tw l[k]))
      have TL := Lib.hid (show (tw l[k]).1.length = l[k].cs.length from rfl)
      unfold cwV at C
      generalize tw l[k] = p at *
      generalize l[k].cs.length = x0 at *
      generalize l[k].A = x1 at *
      generalize l[k].c = x2 at *
      generalize l[k].ss.length = x3 at *
      generalize l[k].B = x4 at *
      generalize l[k].d = x5 at *
      have hk64 : (k : Int) < n := by omega
      clear s1 s2
      go_wp2_with fail
      refine C.out.mono ?_; rintro e w5 ⟨rfl, x⟩
      have X5 := Lib.hid (X.out.trans x)
      have u0 := x.at u0
      clear x C
      cases hp : wordB p with
      | false =>
        have HF := Lib.hid (show false = b by
          rw [HB2.out]
          have : (l.map tw).all wordB = false := by
            rw [Bool.eq_false_iff]
            intro h
            rw [List.all_eq_true] at h
            rw [h p LM.out] at hp
            cases hp
          rw [this]; rfl)
        clear hp
        go_wp2_with fail
        go_ret
        exact ⟨ret_bool HF.out, X5.out⟩
      | true =>
        obtain ⟨y1, y2⟩ := WS.out hp
        rw [TL.out] at y1 y2
        have H2 := Lib.hid (show t + x0 = sumC ((l.take (k + 1)).map tw) ∧ ∀ q ∈ (l.take (k + 1)).map tw, wordB q = true by
          rw [TM.out, sumC_snoc, ← hh.out.1, TL.out]
          refine ⟨rfl, fun q hq => ?_⟩
          rcases List.mem_append.1 hq with hq | hq
          · exact hh.out.2 q hq
          · rw [List.mem_singleton.1 hq]; exact hp)
        have ht64 : (t : Int) ≤ 6000 := by omega
        have hx64 : (x0 : Int) ≤ 60 := by omega
        clear hp
        go_wp2_with fail
        go_roundw
        case rel => exact ⟨k + 1, t + x0, by omega, by go_num, by go_num, by omega, X5, H2⟩
        case measure => simp [intOf]; omega
    · obtain rfl : k = n := by omega
      obtain ⟨e1, e2⟩ := hh.out
      have et : l.take k = l := List.take_of_length_le (by rw [HN.out]; exact Nat.le_refl _)
      rw [et] at e1 e2
      have HF := Lib.hid (show decide (t ≤ 400) = b by
        rw [HB2.out, ← e1, show (l.map tw).all wordB = true from List.all_eq_true.2 e2, Bool.true_and])
      clear e1 e2 et
      by_cases h4 : t ≤ 400
      · have h4' : (t : Int) ≤ 400 := by omega
        rw [decide_eq_true h4] at HF
        clear h4
        go_wp2_with fail
        go_ret
        exact ⟨ret_bool HF.out, X.out⟩
      · have h4' : ¬ (t : Int) ≤ 400 := by omega
        rw [decide_eq_false h4] at HF
        clear h4
        go_wp2_with fail
        go_ret
        exact ⟨ret_bool HF.out, X.out⟩
end L13
end Go.Proofs.YtdiccmlpppkgpaaGreatDoor

namespace Go.Proofs.YtdiccmlpppkgpaaGreatDoor
open Go.RowKit
namespace L14

/-- Within bounds. -/
def inB (n a b : Int) : Bool := decide (a ≤ n) && decide (n ≤ b)
theorem in_any (n a b : Int) (w : World) : Calls Tryz.prog 37 #[.int .i64 n, .int .i64 a, .int .i64 b] w (fun e w' => e = .returned (.bool (inB n a b)) ∧ w = w') := by
  by_cases h : a ≤ n
  · go_enter Tryz.func37, Tryz.ntmps37
    go_wp2_with fail
    go_ret
    exact ⟨ret_bool (by simp [inB]; omega), rfl⟩
  · go_enter Tryz.func37, Tryz.ntmps37
    go_wp2_with fail
    go_ret
    exact ⟨ret_bool (by simp [inB]; omega), rfl⟩
end L14
end Go.Proofs.YtdiccmlpppkgpaaGreatDoor

namespace Go.Proofs.YtdiccmlpppkgpaaGreatDoor
open Go.RowKit
namespace L14

def oneB (L : LayD) : Bool := inB (L.v 0) 1 67108864 && inB (L.v 1) 0 4194304 && inB (L.v 2) 0 4194304 && inB (L.v 3) 0 4194304 && decide ((L.n : Int) ≤ 40)
def twoB (L : LayD) : Bool := inB (L.v 5) (wrap64 (1 - L.v 0)) (wrap64 (L.v 0 - 1)) && inB (L.v 6) (-100) 100 && inB (L.v 7) 0 40 && inB (L.v 8) 0 40 && inB (L.v 9) (-1) 10000 && inB (L.v 10) 0 10000 && inB (L.v 11) 0 67108864
def threeB (L : LayD) : Bool := inB (L.v 12) 0 1000 && inB (L.v 13) (-1000) 1000 && inB (L.v 14) (-1000) 1000 && inB (L.v 20) (-5) 5
def fourB (L : LayD) : Bool := inB (L.v 15) 0 10000 && inB (L.v 16) 0 10000 && inB (L.v 17) 0 10000 && inB (L.v 18) 0 10000 && inB (L.v 19) 0 10000
def lineB (L : LayD) (t : Nat) : Bool := inB (L.sh t).1 0 67108864 && inB (L.sh t).2 1 67108864
def linesB (L : LayD) (n : Nat) : Bool := (List.range n).all (lineB L)
theorem mayL_eq (L : LayD) : mayL L = (oneB L && twoB L && threeB L && fourB L && linesB L L.n) := by
  have e0 : ∀ t, okL L (2, t) = lineB L t := fun t => by
    simp [okL, okN, lineB, inB, cntK, loK, hiK, valD, List.range_succ]
  have e1 : mayL L = (decide (L.n ≤ 40) && (okL L (0, 0) && okL L (1, 0) && linesB L L.n && (okL L (3, 0) && okL L (4, 0) && okL L (5, 0) && okL L (6, 0) && okL L (7, 0) && okL L (8, 0) && okL L (9, 0)))) := by
    have : ((List.range L.n).map (fun t => (2, t))).all (okL L) = linesB L L.n := by
      rw [List.all_map, linesB]
      congr 1
      funext t
      exact e0 t
    rw [mayL, seqN, List.all_append, List.all_append, this]
    simp [Bool.and_assoc]
  rw [e1]
  have e2 : oneB L = (okL L (0, 0) && okL L (1, 0) && decide (L.n ≤ 40)) := by
    have : decide ((L.n : Int) ≤ 40) = decide (L.n ≤ 40) := by simp; omega
    rw [oneB, this]
    simp [okL, okN, inB, cntK, loK, hiK, valD, baseK, List.range_succ, Bool.and_assoc]
  have e3 : twoB L = (okL L (3, 0) && okL L (4, 0) && okL L (5, 0) && okL L (6, 0)) := by
    simp [twoB, okL, okN, inB, cntK, loK, hiK, valD, baseK, List.range_succ, Bool.and_assoc]
  have e4 : (threeB L && fourB L) = (okL L (7, 0) && okL L (8, 0) && okL L (9, 0)) := by
    simp only [threeB, fourB, okL, okN, inB, cntK, loK, hiK, valD, baseK, List.range_succ, List.range_zero, List.nil_append, List.cons_append, List.all_cons, List.all_nil, Bool.and_true]
    simp
    generalize L.v 20 = z
    ac_rfl
  rw [Bool.and_assoc (oneB L && twoB L), e4, e2, e3]
  ac_rfl

theorem lines_no {L : LayD} {n k : Nat} (hk : k < n) (h : lineB L k = false) : linesB L n = false := by
  unfold linesB
  rw [List.all_eq_false]
  exact ⟨k, List.mem_range.2 hk, by simp [h]⟩
theorem lines_next {L : LayD} {k : Nat} (h : linesB L k = true) (h' : lineB L k = true) : linesB L (k + 1) = true := by
  unfold linesB at *
  rw [List.range_succ, List.all_append, h]
  simp [h']

set_option maxRecDepth 100000 in
set_option maxHeartbeats 4000000 in
theorem rcheck_any (L : LayD) (A : Option Addr) (c : Nat) (w : World) (ok : LayOk L c) (sn : SeenP w A L.n L.sh) :
    Calls Tryz.prog 26 #[.agg (layC L A c).toArray] w (Ret w (.bool (mayL L))) := by
  have MAY := Lib.hid (mayL_eq L)
  have n64 : (L.n : Int) ≤ 9223372036854775807 := by have := ok.n; have := ok.c; have : maxLen ≤ 9223372036854775807 := by decide
                                                     omega
  obtain ⟨WB, hWB⟩ : ∃ WB, WB = w.alloc (.cells (layC L A c).toArray 28) := ⟨_, rfl⟩
  have x0 : Ext w WB := by rw [hWB]; exact (Ext.refl _).alloc _
  have K0 := Lib.hid (show Blk WB w.heap.size 28 (layC L A c) by rw [hWB]; exact Blk.lit _ _ _ _ rfl)
  have SN := Lib.hid (sn.ext x0)
  have X := Lib.hid x0
  obtain ⟨lo, hlo⟩ : ∃ lo, lo = wrap64 (1 - L.v 0) := ⟨_, rfl⟩
  obtain ⟨hi, hhi⟩ : ∃ hi, hi = wrap64 (L.v 0 - 1) := ⟨_, rfl⟩
  have l1 : IntKind.i64.wrap (1 - L.v 0) = lo := by rw [hlo, IntKind.wrap_i64]; unfold wrap64; omega
  have h1 : IntKind.i64.wrap (L.v 0 - 1) = hi := by rw [hhi, IntKind.wrap_i64]; unfold wrap64; omega
  have TWO := Lib.hid (show twoB L = (inB (L.v 5) lo hi && inB (L.v 6) (-100) 100 && inB (L.v 7) 0 40 && inB (L.v 8) 0 40 && inB (L.v 9) (-1) 10000 && inB (L.v 10) 0 10000 && inB (L.v 11) 0 67108864) by rw [twoB, ← hlo, ← hhi])
  clear sn x0 ok hlo hhi
  go_enter Tryz.func26, Tryz.ntmps26
  go_upto_region 1 with (fail)
  rw [← hWB]
  clear hWB
  generalize w.heap.size = b0 at *
  have a0 : WB.cell? ⟨b0, 0, none⟩ = some (.int .i64 (L.v 0)) := K0.out.cell 0
  have a1 : WB.cell? ⟨b0, 1, none⟩ = some (.int .i64 (L.v 1)) := K0.out.cell 1
  have a2 : WB.cell? ⟨b0, 2, none⟩ = some (.int .i64 (L.v 2)) := K0.out.cell 2
  have a3 : WB.cell? ⟨b0, 3, none⟩ = some (.int .i64 (L.v 3)) := K0.out.cell 3
  have a5 : WB.cell? ⟨b0, 5, none⟩ = some (.int .i64 (L.v 5)) := K0.out.cell 5
  have a6 : WB.cell? ⟨b0, 6, none⟩ = some (.int .i64 (L.v 6)) := K0.out.cell 6
  have a7 : WB.cell? ⟨b0, 7, none⟩ = some (.int .i64 (L.v 7)) := K0.out.cell 7
  have a8 : WB.cell? ⟨b0, 8, none⟩ = some (.int .i64 (L.v 8)) := K0.out.cell 8
  have a9 : WB.cell? ⟨b0, 9, none⟩ = some (.int .i64 (L.v 9)) := K0.out.cell 9
  have a10 : WB.cell? ⟨b0, 10, none⟩ = some (.int .i64 (L.v 10)) := K0.out.cell 10
  have a11 : WB.cell? ⟨b0, 11, none⟩ = some (.int .i64 (L.v 11)) := K0.out.cell 11
  have a12 : WB.cell? ⟨b0, 12, none⟩ = some (.int .i64 (L.v 12)) := K0.out.cell 12
  have a13 : WB.cell? ⟨b0, 13, none⟩ = some (.int .i64 (L.v 13)) := K0.out.cell 13
  have a14 : WB.cell? ⟨b0, 14, none⟩ = some (.int .i64 (L.v 14)) := K0.out.cell 14
  have a15 : WB.cell? ⟨b0, 15, none⟩ = some (.int .i64 (L.v 15)) := K0.out.cell 15
  have a16 : WB.cell? ⟨b0, 16, none⟩ = some (.int .i64 (L.v 16)) := K0.out.cell 16
  have a17 : WB.cell? ⟨b0, 17, none⟩ = some (.int .i64 (L.v 17)) := K0.out.cell 17
  have a18 : WB.cell? ⟨b0, 18, none⟩ = some (.int .i64 (L.v 18)) := K0.out.cell 18
  have a19 : WB.cell? ⟨b0, 19, none⟩ = some (.int .i64 (L.v 19)) := K0.out.cell 19
  have a20 : WB.cell? ⟨b0, 20, none⟩ = some (.int .i64 (L.v 20)) := K0.out.cell 20
  have a4 : WB.cell? ⟨b0, 4, none⟩ = some (.slice A L.n c) := K0.out.cell 4
  go_cut [3] from 8 to 31 (fun vv wx => vv = .bool (oneB L) ∧ WB = wx)
  case first =>
    go_wp2_with fail
    refine (in_any _ _ _ _).mono ?_
    rintro e w' ⟨rfl, hw'⟩
    subst hw'
    cases i0 : inB (L.v 0) 1 67108864 with
    | false =>
      go_wp2_with fail
      go_meet
      exact ⟨by rw [oneB, i0]; rfl, rfl⟩
    | true =>
      go_wp2_with fail
      refine (in_any _ _ _ _).mono ?_
      rintro e w' ⟨rfl, hw'⟩
      subst hw'
      cases i1 : inB (L.v 1) 0 4194304 with
      | false =>
        go_wp2_with fail
        go_meet
        exact ⟨by rw [oneB, i0, i1]; rfl, rfl⟩
      | true =>
        go_wp2_with fail
        refine (in_any _ _ _ _).mono ?_
        rintro e w' ⟨rfl, hw'⟩
        subst hw'
        cases i2 : inB (L.v 2) 0 4194304 with
        | false =>
          go_wp2_with fail
          go_meet
          exact ⟨by rw [oneB, i0, i1, i2]; rfl, rfl⟩
        | true =>
          go_wp2_with fail
          refine (in_any _ _ _ _).mono ?_
          rintro e w' ⟨rfl, hw'⟩
          subst hw'
          cases i3 : inB (L.v 3) 0 4194304 with
          | false =>
            go_wp2_with fail
            go_meet
            exact ⟨by rw [oneB, i0, i1, i2, i3]; rfl, rfl⟩
          | true =>
            by_cases hn : (L.n : Int) ≤ 40
            · go_wp2_with fail
              go_meet
              exact ⟨by rw [oneB, i0, i1, i2, i3, decide_eq_true hn]; rfl, rfl⟩
            · go_wp2_with fail
              go_meet
              exact ⟨by rw [oneB, i0, i1, i2, i3, decide_eq_false (by omega)]; rfl, rfl⟩
  case rest =>
  obtain ⟨rfl, hwx⟩ := hcut
  subst hwx
  go_upto_region 2 with (fail)
  go_cut [4] from 32 to 70 (fun vv wx => vv = .bool (twoB L) ∧ WB = wx)
  case first =>
    go_wp2_with fail
    refine (in_any _ _ _ _).mono ?_
    rintro e w' ⟨rfl, hw'⟩
    subst hw'
    cases i0 : inB (L.v 5) lo hi with
    | false =>
      go_wp2_with fail
      go_meet
      exact ⟨by rw [TWO.out, i0]; rfl, rfl⟩
    | true =>
      go_wp2_with fail
      refine (in_any _ _ _ _).mono ?_
      rintro e w' ⟨rfl, hw'⟩
      subst hw'
      cases i1 : inB (L.v 6) (-100) 100 with
      | false =>
        go_wp2_with fail
        go_meet
        exact ⟨by rw [TWO.out, i0, i1]; rfl, rfl⟩
      | true =>
        go_wp2_with fail
        refine (in_any _ _ _ _).mono ?_
        rintro e w' ⟨rfl, hw'⟩
        subst hw'
        cases i2 : inB (L.v 7) 0 40 with
        | false =>
          go_wp2_with fail
          go_meet
          exact ⟨by rw [TWO.out, i0, i1, i2]; rfl, rfl⟩
        | true =>
          go_wp2_with fail
          refine (in_any _ _ _ _).mono ?_
          rintro e w' ⟨rfl, hw'⟩
          subst hw'
          cases i3 : inB (L.v 8) 0 40 with
          | false =>
            go_wp2_with fail
            go_meet
            exact ⟨by rw [TWO.out, i0, i1, i2, i3]; rfl, rfl⟩
          | true =>
            go_wp2_with fail
            refine (in_any _ _ _ _).mono ?_
            rintro e w' ⟨rfl, hw'⟩
            subst hw'
            cases i4 : inB (L.v 9) (-1) 10000 with
            | false =>
              go_wp2_with fail
              go_meet
              exact ⟨by rw [TWO.out, i0, i1, i2, i3, i4]; rfl, rfl⟩
            | true =>
              go_wp2_with fail
              refine (in_any _ _ _ _).mono ?_
              rintro e w' ⟨rfl, hw'⟩
              subst hw'
              cases i5 : inB (L.v 10) 0 10000 with
              | false =>
                go_wp2_with fail
                go_meet
                exact ⟨by rw [TWO.out, i0, i1, i2, i3, i4, i5]; rfl, rfl⟩
              | true =>
                go_wp2_with fail
                refine (in_any _ _ _ _).mono ?_
                rintro e w' ⟨rfl, hw'⟩
                subst hw'
                cases i6 : inB (L.v 11) 0 67108864 with
                | false =>
                  go_wp2_with fail
                  go_meet
                  exact ⟨by rw [TWO.out, i0, i1, i2, i3, i4, i5, i6]; rfl, rfl⟩
                | true =>
                  go_wp2_with fail
                  go_meet
                  exact ⟨by rw [TWO.out, i0, i1, i2, i3, i4, i5, i6]; rfl, rfl⟩
  case rest =>
  obtain ⟨rfl, hwx⟩ := hcut
  subst hwx
  go_upto_region 3 with (fail)
  go_cut [5] from 71 to 88 (fun vv wx => vv = .bool (threeB L) ∧ WB = wx)
  case first =>
    go_wp2_with fail
    refine (in_any _ _ _ _).mono ?_
    rintro e w' ⟨rfl, hw'⟩
    subst hw'
    cases i0 : inB (L.v 12) 0 1000 with
    | false =>
      go_wp2_with fail
      go_meet
      exact ⟨by rw [threeB, i0]; rfl, rfl⟩
    | true =>
      go_wp2_with fail
      refine (in_any _ _ _ _).mono ?_
      rintro e w' ⟨rfl, hw'⟩
      subst hw'
      cases i1 : inB (L.v 13) (-1000) 1000 with
      | false =>
        go_wp2_with fail
        go_meet
        exact ⟨by rw [threeB, i0, i1]; rfl, rfl⟩
      | true =>
        go_wp2_with fail
        refine (in_any _ _ _ _).mono ?_
        rintro e w' ⟨rfl, hw'⟩
        subst hw'
        cases i2 : inB (L.v 14) (-1000) 1000 with
        | false =>
          go_wp2_with fail
          go_meet
          exact ⟨by rw [threeB, i0, i1, i2]; rfl, rfl⟩
        | true =>
          go_wp2_with fail
          refine (in_any _ _ _ _).mono ?_
          rintro e w' ⟨rfl, hw'⟩
          subst hw'
          cases i3 : inB (L.v 20) (-5) 5 with
          | false =>
            go_wp2_with fail
            go_meet
            exact ⟨by rw [threeB, i0, i1, i2, i3]; rfl, rfl⟩
          | true =>
            go_wp2_with fail
            go_meet
            exact ⟨by rw [threeB, i0, i1, i2, i3]; rfl, rfl⟩
  case rest =>
  obtain ⟨rfl, hwx⟩ := hcut
  subst hwx
  go_upto_region 4 with (fail)
  go_cut [6] from 89 to 111 (fun vv wx => vv = .bool (fourB L) ∧ WB = wx)
  case first =>
    go_wp2_with fail
    refine (in_any _ _ _ _).mono ?_
    rintro e w' ⟨rfl, hw'⟩
    subst hw'
    cases i0 : inB (L.v 15) 0 10000 with
    | false =>
      go_wp2_with fail
      go_meet
      exact ⟨by rw [fourB, i0]; rfl, rfl⟩
    | true =>
      go_wp2_with fail
      refine (in_any _ _ _ _).mono ?_
      rintro e w' ⟨rfl, hw'⟩
      subst hw'
      cases i1 : inB (L.v 16) 0 10000 with
      | false =>
        go_wp2_with fail
        go_meet
        exact ⟨by rw [fourB, i0, i1]; rfl, rfl⟩
      | true =>
        go_wp2_with fail
        refine (in_any _ _ _ _).mono ?_
        rintro e w' ⟨rfl, hw'⟩
        subst hw'
        cases i2 : inB (L.v 17) 0 10000 with
        | false =>
          go_wp2_with fail
          go_meet
          exact ⟨by rw [fourB, i0, i1, i2]; rfl, rfl⟩
        | true =>
          go_wp2_with fail
          refine (in_any _ _ _ _).mono ?_
          rintro e w' ⟨rfl, hw'⟩
          subst hw'
          cases i3 : inB (L.v 18) 0 10000 with
          | false =>
            go_wp2_with fail
            go_meet
            exact ⟨by rw [fourB, i0, i1, i2, i3]; rfl, rfl⟩
          | true =>
            go_wp2_with fail
            refine (in_any _ _ _ _).mono ?_
            rintro e w' ⟨rfl, hw'⟩
            subst hw'
            cases i4 : inB (L.v 19) 0 10000 with
            | false =>
              go_wp2_with fail
              go_meet
              exact ⟨by rw [fourB, i0, i1, i2, i3, i4]; rfl, rfl⟩
            | true =>
              go_wp2_with fail
              go_meet
              exact ⟨by rw [fourB, i0, i1, i2, i3, i4]; rfl, rfl⟩
  case rest =>
  obtain ⟨rfl, hwx⟩ := hcut
  subst hwx
  obtain ⟨c1, e1⟩ : ∃ x, x = oneB L := ⟨_, rfl⟩
  obtain ⟨c2, e2⟩ : ∃ x, x = twoB L := ⟨_, rfl⟩
  obtain ⟨c3, e3⟩ : ∃ x, x = threeB L := ⟨_, rfl⟩
  obtain ⟨c4, e4⟩ : ∃ x, x = fourB L := ⟨_, rfl⟩
  rw [← e1, ← e2, ← e3, ← e4] at MAY ⊢
  clear e1 e2 e3 e4 TWO
  cases c1 with
  | false =>
    go_wp2_with fail
    go_ret
    exact ⟨ret_bool (by rw [MAY.out]; rfl), X.out⟩
  | true =>
  cases c2 with
  | false =>
    go_wp2_with fail
    go_ret
    exact ⟨ret_bool (by rw [MAY.out]; rfl), X.out⟩
  | true =>
  cases c3 with
  | false =>
    go_wp2_with fail
    go_ret
    exact ⟨ret_bool (by rw [MAY.out]; rfl), X.out⟩
  | true =>
  cases c4 with
  | false =>
    go_wp2_with fail
    go_ret
    exact ⟨ret_bool (by rw [MAY.out]; rfl), X.out⟩
  | true =>
  have MAY := Lib.hid (show mayL L = linesB L L.n by rw [MAY.out]; rfl)
  have NO := Lib.hid (fun k (hk : k < L.n) (h : lineB L k = false) => show mayL L = false by rw [MAY.out]; exact lines_no hk h)
  have NEXT := Lib.hid (fun k (h : linesB L k = true) (h' : lineB L k = true) => lines_next h h')
  have EQ := Lib.hid (fun k (_ : k < L.n) => show lineB L k = (inB (L.sh k).1 0 67108864 && inB (L.sh k).2 1 67108864) from rfl)
  go_wp2_with fail
  go_loopw [7] (fun vi wr => ∃ k : Nat, k ≤ L.n ∧ vi = .int .i64 (k : Int) ∧ Hid (linesB L k = true) ∧ WB = wr) (fun i _ => L.n + 1 - (intOf i).toNat)
  case atStart => exact ⟨0, Nat.zero_le _, rfl, Lib.hid rfl, rfl⟩
  case round =>
    obtain ⟨k, hk, rfl, H, hwr⟩ := hrel
    subst hwr
    by_cases hlt : k < L.n
    · have hk64 : (k : Int) < (L.n : Int) := by omega
      obtain ⟨ad, hA, g0, g1⟩ := SN.out.get hlt
      subst hA
      have E := Lib.hid (EQ.out k hlt)
      have N1 := Lib.hid (NO.out k hlt)
      have N2 := Lib.hid (NEXT.out k H.out)
      clear NO NEXT EQ
      generalize (L.sh k).1 = p at *
      generalize (L.sh k).2 = q at *
      go_wp2_with fail
      refine (in_any _ _ _ _).mono ?_
      rintro e w' ⟨rfl, hw'⟩
      subst hw'
      cases i1 : inB p 0 67108864 with
      | false =>
        have N := Lib.hid (N1.out (by rw [E.out, i1]; rfl))
        go_wp2_with fail
        go_ret
        exact ⟨ret_bool N.out.symm, X.out⟩
      | true =>
        go_wp2_with fail
        refine (in_any _ _ _ _).mono ?_
        rintro e w' ⟨rfl, hw'⟩
        subst hw'
        cases i2 : inB q 1 67108864 with
        | false =>
          have N := Lib.hid (N1.out (by rw [E.out, i1, i2]; rfl))
          go_wp2_with fail
          go_ret
          exact ⟨ret_bool N.out.symm, X.out⟩
        | true =>
          have N := Lib.hid (N2.out (by rw [E.out, i1, i2]; rfl))
          go_wp2_with fail
          go_roundw
          case rel => exact ⟨k + 1, hlt, by go_num, N, trivial⟩
          case measure => simp [intOf]; omega
    · have hk64 : ¬ (k : Int) < (L.n : Int) := by omega
      have N := Lib.hid (show mayL L = true by rw [MAY.out, show L.n = k by omega]; exact H.out)
      go_wp2_with fail
      go_ret
      exact ⟨ret_bool N.out.symm, X.out⟩
end L14
end Go.Proofs.YtdiccmlpppkgpaaGreatDoor

