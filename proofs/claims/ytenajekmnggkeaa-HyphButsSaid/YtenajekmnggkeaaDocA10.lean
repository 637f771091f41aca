/- The document's letter, core, plain, pattern, exception of layer 10. -/
import Derived.Test.YtenajekmnggkeaaFew10
namespace Go.Proofs.Ytenajekmnggkeaa
open Go.RowKit
open Go.Lib hiding intOf
namespace L10

theorem ret_str {a b : ByteArray} (h : a = b) : Ending.returned (.string a) = .returned (.string b) := by rw [h]
theorem byte_ne {b : UInt8} (h : ¬ b = 46) : ((b.toNat : Int) == 46) = false := by
  have : ¬ b.toNat = 46 := fun e => h (UInt8.toNat.inj (by simpa using e))
  simp; omega
theorem get_at (s : ByteArray) (k : Nat) (_h : k < s.size) (h' : k < s.data.toList.length) : s.data.toList[k] = s[k] := by
  rw [Array.getElem_toList]; rfl
theorem ba_list {a b : ByteArray} (h : a.data.toList = b.data.toList) : a = b := ByteArray.ext (by rw [← Array.toList_inj]; exact h)
theorem head_cut (s : ByteArray) (h : 0 < s.size) (e : s[0] = 46) : s.extract 1 s.size = ⟨(headD s.data.toList).toArray⟩ := by
  apply ba_list
  have hl := list_len s
  have h1 : s.data.toList.head? = some 46 := by
    rw [List.head?_eq_getElem?, List.getElem?_eq_getElem (by omega), get_at s 0 h (by omega), e]
  unfold headD
  rw [if_pos h1]
  simp [ByteArray.data_extract]
  rw [List.take_of_length_le]
  rw [List.length_tail]
  omega
theorem head_same (s : ByteArray) (h : s.size = 0 ∨ ∃ h : 0 < s.size, ¬ s[0] = 46) : s = ⟨(headD s.data.toList).toArray⟩ := by
  apply ba_list
  have hl := list_len s
  unfold headD
  rw [if_neg]
  rw [List.head?_eq_getElem?]
  rcases h with h | ⟨h, e⟩
  · rw [List.getElem?_eq_none (by omega)]; simp
  · rw [List.getElem?_eq_getElem (by omega), get_at s 0 h (by omega)]
    simpa using e
theorem tail_cut (s : ByteArray) (h : s.size - 1 < s.size) (e : s[s.size - 1] = 46) : (⟨(tailD s.data.toList).toArray⟩ : ByteArray) = s.extract 0 (s.size - 1) := by
  apply ba_list
  have hl := list_len s
  have h1 : s.data.toList.getLast? = some 46 := by
    rw [List.getLast?_eq_getElem?, List.getElem?_eq_getElem (by omega)]
    have := get_at s (s.size - 1) h (by omega)
    simp only [hl]
    rw [this, e]
  unfold tailD
  rw [if_pos h1]
  simp [ByteArray.data_extract, List.dropLast_eq_take]
theorem tail_same (s : ByteArray) (h : s.size = 0 ∨ ∃ h : s.size - 1 < s.size, ¬ s[s.size - 1] = 46) : (⟨(tailD s.data.toList).toArray⟩ : ByteArray) = s := by
  apply ba_list
  have hl := list_len s
  unfold tailD
  rw [if_neg]
  rw [List.getLast?_eq_getElem?]
  rcases h with h | ⟨h, e⟩
  · rw [List.getElem?_eq_none (by omega)]; simp
  · rw [List.getElem?_eq_getElem (by omega)]
    have := get_at s (s.size - 1) h (by omega)
    simp only [hl]
    rw [this]
    simpa using e

theorem rletter_any (b : UInt8) (z : Int) (hz : z = b.toNat) (w : World) : Calls Try.prog 45 #[.int .u8 z] w (Ret w (.bool (letterB b))) := by
  have e : letterB b = decide (97 ≤ z ∧ z ≤ 122) := by
    unfold letterB; rw [decide_eq_decide]; omega
  rw [e]
  clear e hz
  by_cases h1 : 97 ≤ z
  · by_cases h2 : z ≤ 122
    · rw [decide_eq_true ⟨h1, h2⟩]
      go_enter Try.func45, Try.ntmps45
      go_wp2_with fail
      go_ret
      exact ⟨rfl, Ext.refl _⟩
    · rw [decide_eq_false (fun h => h2 h.2)]
      go_enter Try.func45, Try.ntmps45
      go_wp2_with fail
      go_ret
      exact ⟨rfl, Ext.refl _⟩
  · rw [decide_eq_false (fun h => h1 h.1)]
    go_enter Try.func45, Try.ntmps45
    go_wp2_with fail
    go_ret
    exact ⟨rfl, Ext.refl _⟩

set_option maxRecDepth 100000 in
set_option maxHeartbeats 2000000 in
theorem rcore_any (s : ByteArray) (hs : s.size ≤ 1000000) (w : World) : Calls Try.prog 37 #[.string s] w (Ret w (.string ⟨(coreL s.data.toList).toArray⟩)) := by
  by_cases h0 : s.size = 0
  · have HS1 := Lib.hid (show (⟨(tailD s.data.toList).toArray⟩ : ByteArray) = ⟨(coreL s.data.toList).toArray⟩ by
      have e := congrArg (fun x => x.data.toList) (head_same s (.inl h0))
      unfold coreL
      rw [show headD s.data.toList = s.data.toList from e.symm])
    have F := Lib.hid (show s = ⟨(tailD s.data.toList).toArray⟩ from (tail_same s (.inl h0)).symm)
    go_enter Try.func37, Try.ntmps37
    go_wp2_with fail
    go_ret
    exact ⟨ret_str (F.out.trans HS1.out), Ext.refl _⟩
  · have h1 : 0 < s.size := by omega
    by_cases hb : s[0] = 46
    · obtain ⟨s1, hs1⟩ : ∃ s1, s.extract 1 s.size = s1 := ⟨_, rfl⟩
      have HS1 := Lib.hid (show (⟨(tailD s1.data.toList).toArray⟩ : ByteArray) = ⟨(coreL s.data.toList).toArray⟩ by
        rw [← hs1, head_cut s h1 hb]; rfl)
      have hsz : s1.size = s.size - 1 := by rw [← hs1]; simp
      have gb : ((s[0].toNat : Int) == 46) = true := by rw [hb]; rfl
      have HSZ := Lib.hid hsz
      have hs2 : s1.size ≤ 1000000 := by omega
      have HX := Lib.hid hs1
      clear hb hs1 hsz
      go_enter Try.func37, Try.ntmps37
      go_upto_region 3 with (fail)
      rw [HX.out]
      clear HX HSZ
      by_cases g0 : s1.size = 0
      · have F := Lib.hid (show s1 = ⟨(tailD s1.data.toList).toArray⟩ from (tail_same s1 (.inl g0)).symm)
        go_wp2_with fail
        go_ret
        exact ⟨ret_str (F.out.trans HS1.out), Ext.refl _⟩
      · have hw : wrap64 ((s1.size : Int) - 1) = ((s1.size - 1 : Nat) : Int) := by
          rw [IntWalk.wrap64_in _ (by omega)]; omega
        have g1 : 0 < s1.size := by omega
        have gz : s1.size - 1 < s1.size := by omega
        by_cases g2 : s1[s1.size - 1] = 46
        · have F := Lib.hid (show s1.extract 0 (s1.size - 1) = ⟨(tailD s1.data.toList).toArray⟩ from (tail_cut s1 gz g2).symm)
          have gb : ((s1[s1.size - 1].toNat : Int) == 46) = true := by rw [g2]; rfl
          clear g2
          go_wp2_with fail
          go_ret
          exact ⟨ret_str (F.out.trans HS1.out), Ext.refl _⟩
        · have F := Lib.hid (show s1 = ⟨(tailD s1.data.toList).toArray⟩ from (tail_same s1 (.inr ⟨gz, g2⟩)).symm)
          have gb : ((s1[s1.size - 1].toNat : Int) == 46) = false := byte_ne g2
          clear g2
          go_wp2_with fail
          go_ret
          exact ⟨ret_str (F.out.trans HS1.out), Ext.refl _⟩
    · have HS1 := Lib.hid (show (⟨(tailD s.data.toList).toArray⟩ : ByteArray) = ⟨(coreL s.data.toList).toArray⟩ by
        have e := congrArg (fun x => x.data.toList) (head_same s (.inr ⟨h1, hb⟩))
        unfold coreL
        rw [show headD s.data.toList = s.data.toList from e.symm])
      have gb : ((s[0].toNat : Int) == 46) = false := byte_ne hb
      clear hb
      by_cases g0 : s.size = 0
      · have F := Lib.hid (show s = ⟨(tailD s.data.toList).toArray⟩ from (tail_same s (.inl g0)).symm)
        go_enter Try.func37, Try.ntmps37
        go_wp2_with fail
        go_ret
        exact ⟨ret_str (F.out.trans HS1.out), Ext.refl _⟩
      · have hw : wrap64 ((s.size : Int) - 1) = ((s.size - 1 : Nat) : Int) := by
          rw [IntWalk.wrap64_in _ (by omega)]; omega
        have g1 : 0 < s.size := by omega
        have gz : s.size - 1 < s.size := by omega
        by_cases g2 : s[s.size - 1] = 46
        · have F := Lib.hid (show s.extract 0 (s.size - 1) = ⟨(tailD s.data.toList).toArray⟩ from (tail_cut s gz g2).symm)
          have gb : ((s[s.size - 1].toNat : Int) == 46) = true := by rw [g2]; rfl
          clear g2
          go_enter Try.func37, Try.ntmps37
          go_wp2_with fail
          go_ret
          exact ⟨ret_str (F.out.trans HS1.out), Ext.refl _⟩
        · have F := Lib.hid (show s = ⟨(tailD s.data.toList).toArray⟩ from (tail_same s (.inr ⟨gz, g2⟩)).symm)
          have gb : ((s[s.size - 1].toNat : Int) == 46) = false := byte_ne g2
          clear g2
          go_enter Try.func37, Try.ntmps37
          go_wp2_with fail
          go_ret
          exact ⟨ret_str (F.out.trans HS1.out), Ext.refl _⟩

set_option maxRecDepth 100000 in
set_option maxHeartbeats 2000000 in
theorem rplain_any (s : ByteArray) (w : World) : Calls Try.prog 36 #[.string s] w (Ret w (.bool (plainB s.data.toList))) := by
  have hlen := list_len s
  by_cases h1 : s.size < 1
  · have e : plainB s.data.toList = false := by
      rw [plainB, hlen, decide_eq_false (by omega)]; rfl
    rw [e]
    go_enter Try.func36, Try.ntmps36
    go_wp2_with fail
    go_ret
    exact ⟨rfl, Ext.refl _⟩
  · by_cases h2 : 40 < s.size
    · have e : plainB s.data.toList = false := by
        rw [plainB, hlen, decide_eq_false (by omega)]; rfl
      rw [e]
      go_enter Try.func36, Try.ntmps36
      go_wp2_with fail
      go_ret
      exact ⟨rfl, Ext.refl _⟩
    · have e : plainB s.data.toList = s.data.toList.all letterB := by
        rw [plainB, hlen, decide_eq_true (by omega)]; rfl
      obtain ⟨b, hb⟩ : ∃ b, s.data.toList.all letterB = b := ⟨_, rfl⟩
      rw [e, hb]
      have HB := Lib.hid hb
      have HLN := Lib.hid hlen
      have h3 : s.size ≤ 40 := by omega
      clear e hb hlen
      go_enter Try.func36, Try.ntmps36
      go_wp2_with fail
      go_loopw [3] (fun i wr => ∃ k : Nat, k ≤ s.size ∧ i = .int .i64 k ∧ Hid (Ext w wr) ∧ Hid (s.data.toList.all letterB = (s.data.toList.drop k).all letterB)) (fun i _ => s.size - (intOf i).toNat)
      case atStart => exact ⟨0, Nat.zero_le _, rfl, Lib.hid (Ext.refl _), rfl⟩
      case round =>
        obtain ⟨k, hk, rfl, hX, hall⟩ := hrel
        by_cases hlt : k < s.size
        · have hlt' : k < s.data.toList.length := by rw [HLN.out]; exact hlt
          have hall := hall.out
          rw [all_drop hlt', get_at s k hlt hlt'] at hall
          have HALL := Lib.hid hall
          have hk64 : (k : Int) < (s.size : Int) := by omega
          have C := Lib.hid (rletter_any s[k] _ rfl wr)
          clear hall
          go_wp2_with fail
          refine C.out.mono ?_; rintro e w2 ⟨rfl, x2⟩
          cases hL : letterB s[k] with
          | false =>
            have HB2 := Lib.hid (show false = b by rw [← HB.out, HALL.out, hL]; rfl)
            clear HALL hL
            go_wp2_with fail
            go_ret
            exact ⟨ret_bool HB2.out, hX.out.trans x2⟩
          | true =>
            have HR := Lib.hid (show s.data.toList.all letterB = (s.data.toList.drop (k + 1)).all letterB by rw [HALL.out, hL]; rfl)
            clear HALL hL
            go_wp2_with fail
            go_roundw
            case rel => exact ⟨k + 1, by omega, by go_num, Lib.hid (hX.out.trans x2), HR⟩
            case measure => simp [intOf]; omega
        · have hb : true = b := by
            rw [← HB.out, hall.out, List.drop_of_length_le (by rw [HLN.out]; omega)]; rfl
          have HB2 := Lib.hid hb
          clear hall hb
          obtain rfl : k = s.size := by omega
          go_wp2_with fail
          go_ret
          exact ⟨ret_bool HB2.out, hX.out⟩
end L10
end Go.Proofs.Ytenajekmnggkeaa

