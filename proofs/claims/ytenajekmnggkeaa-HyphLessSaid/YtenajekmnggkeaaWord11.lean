/- The landed wordMayBe of layer 11. -/
import Derived.Test.YtenajekmnggkeaaAsk11
namespace Go.Proofs.Ytenajekmnggkeaa
open Go.RowKit
open Go.Lib hiding intOf
namespace L11
open L10 (TN plainB patB tn letterB)

theorem plain_size (s : ByteArray) : plainB s.data.toList = (decide (1 ≤ s.size ∧ s.size ≤ 40) && s.data.toList.all letterB) := by rw [plainB, list_size]
theorem all_drop_at {s : ByteArray} {k : Nat} (h : k < s.size) : (s.data.toList.drop k).all letterB = (letterB s[k] && (s.data.toList.drop (k + 1)).all letterB) := by
  rw [List.drop_eq_getElem_cons (by rw [list_size]; exact h), List.all_cons]; rfl
set_option maxRecDepth 100000 in
set_option maxHeartbeats 4000000 in
theorem word_any (s : ByteArray) (w : World) : Calls Try.prog 41 #[.string s] w (Ret w (.bool (plainB s.data.toList))) := by
  by_cases h1 : s.size < 1
  · rw [plain_size, decide_eq_false (by omega)]
    go_enter Try.func41, Try.ntmps41
    go_wp2_with fail
    go_ret
    exact ⟨rfl, Ext.refl _⟩
  · by_cases h2 : 40 < s.size
    · rw [plain_size, decide_eq_false (by omega)]
      go_enter Try.func41, Try.ntmps41
      go_wp2_with fail
      go_ret
      exact ⟨rfl, Ext.refl _⟩
    · rw [plain_size, decide_eq_true (by omega)]
      obtain ⟨b, hb⟩ : ∃ b, (true && s.data.toList.all letterB) = b := ⟨_, rfl⟩
      rw [hb]
      have HB := Lib.hid (show (s.data.toList.drop 0).all letterB = b from hb)
      clear hb
      go_enter Try.func41, Try.ntmps41
      go_wp2_with fail
      go_loop [14] (fun i => ∃ k : Nat, k ≤ s.size ∧ i = .int .i64 k ∧ Hid ((s.data.toList.drop k).all letterB = b)) (fun i => s.size - (intOf i).toNat)
      case atStart => exact ⟨0, Nat.zero_le _, rfl, HB⟩
      case round =>
        obtain ⟨k, hk, rfl, hh⟩ := hrel
        by_cases hlt : k < s.size
        · have hr := hh.out
          rw [all_drop_at hlt] at hr
          by_cases l1 : s[k].toNat < 97
          · have H := Lib.hid (show false = b by rw [← hr, show letterB s[k] = false from decide_eq_false (by omega)]; rfl)
            clear hr hh HB
            go_wp2_with fail
            go_ret
            exact ⟨ret_bool H.out, Ext.refl _⟩
          · by_cases l2 : 122 < s[k].toNat
            · have H := Lib.hid (show false = b by rw [← hr, show letterB s[k] = false from decide_eq_false (by omega)]; rfl)
              clear hr hh HB
              go_wp2_with fail
              go_ret
              exact ⟨ret_bool H.out, Ext.refl _⟩
            · have H := Lib.hid (show (s.data.toList.drop (k + 1)).all letterB = b by rw [← hr, show letterB s[k] = true from decide_eq_true (by omega)]; rfl)
              clear hr hh HB
              go_wp2_with fail
              go_round
              case rel => exact ⟨k + 1, by omega, by go_num, H⟩
              case measure => simp [intOf]; omega
        · obtain rfl : k = s.size := by omega
          have H := Lib.hid (show true = b by rw [← hh.out, List.drop_of_length_le (by rw [list_size]; exact Nat.le_refl _)]; rfl)
          clear hh HB
          go_wp2_with fail
          go_ret
          exact ⟨ret_bool H.out, Ext.refl _⟩
end L11
end Go.Proofs.Ytenajekmnggkeaa

