/- The landed letter, gap, lettersMayBe of layer 10. -/
import Derived.Test.YtenajekmnggkeaaDoor
import Derived.Test.YtenajekmnggkeaaTexts10
import Derived.Test.YtenajekmnggkeaaLiangR10
import Derived.Test.YtenajekmnggkeaaBytes
import Derived.Lib.OthersKept
namespace Go.Proofs.Ytenajekmnggkeaa
open Go.RowKit
namespace L10

theorem letter_any (r : Int) (w : World) : Calls Try.prog 48 #[.int .i32 r] w (Ret w (.bool (decide (97 ≤ r ∧ r ≤ 122)))) := by
  by_cases h1 : 97 ≤ r
  · by_cases h2 : r ≤ 122
    · rw [decide_eq_true ⟨h1, h2⟩]
      go_enter Try.func48, Try.ntmps48
      go_wp2_with fail
      go_ret
      exact ⟨rfl, Ext.refl _⟩
    · rw [decide_eq_false (fun h => h2 h.2)]
      go_enter Try.func48, Try.ntmps48
      go_wp2_with fail
      go_ret
      exact ⟨rfl, Ext.refl _⟩
  · rw [decide_eq_false (fun h => h1 h.1)]
    go_enter Try.func48, Try.ntmps48
    go_wp2_with fail
    go_ret
    exact ⟨rfl, Ext.refl _⟩
def gapN (r : Int) : Bool := decide (r = 9 ∨ r = 10 ∨ r = 13 ∨ r = 32)
set_option maxRecDepth 100000 in
set_option maxHeartbeats 2000000 in
theorem letters_any (s : ByteArray) (w : World) : Calls Try.prog 40 #[.string s] w (Ret w (.bool (plainB s.data.toList))) := by
  have hlen := list_len s
  by_cases h1 : s.size < 1
  · have e : plainB s.data.toList = false := by
      rw [plainB, hlen, decide_eq_false (by omega)]; rfl
    rw [e]
    go_enter Try.func40, Try.ntmps40
    go_wp2_with fail
    go_ret
    exact ⟨rfl, Ext.refl _⟩
  · by_cases h2 : 40 < s.size
    · have e : plainB s.data.toList = false := by
        rw [plainB, hlen, decide_eq_false (by omega)]; rfl
      rw [e]
      go_enter Try.func40, Try.ntmps40
      go_wp2_with fail
      go_ret
      exact ⟨rfl, Ext.refl _⟩
    · have e : plainB s.data.toList = (runesL s).all letterN := by
        rw [plainB, hlen, decide_eq_true (by omega), runesL, runes_letters s _ _ (by omega)]; rfl
      obtain ⟨b, hb⟩ : ∃ b, (runesL s).all letterN = b := ⟨_, rfl⟩
      rw [e, hb]
      have HB := Lib.hid (show (runesF s s.size 0).all letterN = b from hb)
      clear e hb hlen
      go_enter Try.func40, Try.ntmps40
      go_wp2_with fail
      go_loopg [] s.size (fun gk wx => ∃ pos : Nat, wx.heap[w.heap.size]? = some (.stringIter s pos) ∧ Ext w wx ∧ Hid ((runesF s gk pos).all letterN = b) ∧ s.size ≤ pos + gk)
      case atStart => exact ⟨0, World.iter_heap w s 0, (Ext.refl w).alloc _, HB, by omega⟩
      case round =>
        obtain ⟨pos, hit, X, hrest, hfu⟩ := hrel
        by_cases hp : pos < s.size
        · obtain ⟨g', rfl⟩ : ∃ g', gk = g' + 1 := ⟨gk - 1, by omega⟩
          have hnx : ∀ ty, (Instr.next (.pointer (some ⟨w.heap.size, 0, none⟩)) true ty).run Try.prog wr = _ := fun ty => Lib.run_next_any_at wr w.heap.size s pos ty hit hp
          have hwd := decode_pos s pos hp
          have hr := hrest.out
          rw [runesF, if_pos hp, List.all_cons] at hr
          obtain ⟨R, hR⟩ : ∃ R, (Utf8.decode s pos).1 = R := ⟨_, rfl⟩
          obtain ⟨K, hK⟩ : ∃ K, (Utf8.decode s pos).2 = K := ⟨_, rfl⟩
          rw [hR, hK] at hnx hr
          rw [hK] at hwd
          have hit2 := Lib.iterAt_heap wr w.heap.size s pos (pos + K) hit
          have X2 : Ext w (wr.iterAt w.heap.size s (pos + K)) := Lib.below_iterAt X (Nat.le_refl _) s (pos + K)
          generalize wr.iterAt w.heap.size s (pos + K) = W at *
          have C := Lib.hid (letter_any (R : Int) W)
          have hl : letterN R = decide (97 ≤ (R : Int) ∧ (R : Int) ≤ 122) := by
            unfold letterN
            rw [decide_eq_decide]
            omega
          have HR := Lib.hid hr
          rw [← hl] at C
          clear hr hR hK hrest hl
          go_wp2_with fail
          refine C.out.mono ?_; rintro e w2 ⟨rfl, x2⟩
          cases hL : letterN R with
          | false =>
            have hb := HR.out
            rw [hL] at hb
            simp only [Bool.false_and] at hb
            have HB2 := Lib.hid hb
            clear hb HR
            go_wp2_with fail
            go_ret
            exact ⟨ret_bool HB2.out, X2.trans x2⟩
          | true =>
            have hb := HR.out
            rw [hL, Bool.true_and] at hb
            have HB2 := Lib.hid hb
            clear hb HR
            go_wp2_with fail
            go_roundg g'
            case measure => omega
            case rel => exact ⟨pos + K, (x2.block _ (Array.getElem?_eq_some_iff.1 hit2).1).trans hit2, X2.trans x2, HB2, by omega⟩
        · have hnx : ∀ ty, (Instr.next (.pointer (some ⟨w.heap.size, 0, none⟩)) true ty).run Try.prog wr = _ := fun ty => Lib.run_next_end_at wr w.heap.size s pos ty hit hp
          have hb : true = b := by
            have := hrest.out
            cases gk with
            | zero => exact this
            | succ g => rw [runesF, if_neg hp] at this; exact this
          clear hrest
          have HB := Lib.hid hb
          clear hb
          go_wp2_with fail
          go_ret
          exact ⟨ret_bool HB.out, X⟩
end L10
end Go.Proofs.Ytenajekmnggkeaa

