/- The landed small, first and Core of layer 12. -/
import Derived.Test.YtenajekmnggkeaaHyph12
import Derived.Test.YtenajekmnggkeaaTexts10
import Derived.Test.YtenajekmnggkeaaBytes
import Derived.Deep.QuietTactic
import Derived.BigQuiet
import Derived.StillTailTactics
namespace Go.Proofs.Ytenajekmnggkeaa
open Go.RowKit
namespace L12

theorem u8_in (n : Int) (h : 0 ≤ n ∧ n ≤ 255) : IntKind.u8.wrap n = n := by
  simp only [IntKind.wrap, IntKind.signed, IntKind.bits]
  simp
  omega
theorem ret_k {k : IntKind} {a b : Int} (h : a = b) : Ending.returned (.int k a) = .returned (.int k b) := by rw [h]
theorem small_any (c : Int) (w : World) : Calls Try.prog 19 #[.int .i64 c] w (Ret w (.int .u8 (small c))) := by
  by_cases h1 : 65 ≤ c ∧ c ≤ 90
  · rw [show small c = c + 32 from if_pos h1]
    have e1 := u8_in c (by omega)
    have e2 := u8_in (c + 97) (by omega)
    have e3 := u8_in (c + 97 - 65) (by omega)
    have E := Lib.hid (show c + 97 - 65 = c + 32 by omega)
    obtain ⟨h1, h2⟩ := h1
    go_enter Try.func19, Try.ntmps19
    go_wp2_with fail
    go_ret
    exact ⟨ret_k E.out, Ext.refl _⟩
  · by_cases h2 : 97 ≤ c ∧ c ≤ 122
    · rw [show small c = c by rw [small, if_neg h1, if_pos h2]]
      have e1 := u8_in c (by omega)
      obtain ⟨h2, h3⟩ := h2
      have h4 : ¬ c ≤ 90 := by omega
      have h5 : 65 ≤ c := by omega
      clear h1
      go_enter Try.func19, Try.ntmps19
      go_wp2_with fail
      go_ret
      exact ⟨rfl, Ext.refl _⟩
    · rw [show small c = 0 by rw [small, if_neg h1, if_neg h2]]
      by_cases h3 : 65 ≤ c
      · have h4 : ¬ c ≤ 90 := by omega
        by_cases h5 : 97 ≤ c
        · have h6 : ¬ c ≤ 122 := by omega
          clear h1 h2
          go_enter Try.func19, Try.ntmps19
          go_wp2_with fail
          go_ret
          exact ⟨rfl, Ext.refl _⟩
        · clear h1 h2
          go_enter Try.func19, Try.ntmps19
          go_wp2_with fail
          go_ret
          exact ⟨rfl, Ext.refl _⟩
      · have h5 : ¬ 97 ≤ c := by omega
        clear h1 h2
        go_enter Try.func19, Try.ntmps19
        go_wp2_with fail
        go_ret
        exact ⟨rfl, Ext.refl _⟩
theorem nought (c : Int) : (small c != 0) = isL c := by
  unfold isL
  by_cases h : small c = 0
  · simp [h]
  · simp [h]
/-- The first place that may be, whatever tells it. -/
theorem first_any (fn : FuncId) (cap : Array Value) (q : Nat → Bool) (n : Nat) (w : World) (hn : n ≤ 9223372036854775807) (eg : ∀ args w, (callFunc fn args).run Try.prog w = .ok (.enter fn args) w)
    (hc : ∀ (i : Nat) (w' : World), i < n → Ext w w' → Calls Try.prog fn (#[.int .i64 i] ++ cap) w' (Ret w' (.bool (q i)))) :
    Calls Try.prog 20 #[.int .i64 n, .func (.func fn) #[] cap] w (Ret w (.int .i64 (firstF q n))) := by
  have HC := Lib.hid hc
  clear hc
  go_enter Try.func20, Try.ntmps20
  go_wp2_with fail
  go_loopw [7] (fun i wr => ∃ k : Nat, k ≤ n ∧ i = .int .i64 k ∧ Hid (∀ j, j < k → q j = false) ∧ Hid (Ext w wr)) (fun i _ => n - (intOf i).toNat)
  case atStart => exact ⟨0, by omega, rfl, Lib.hid (fun j hj => absurd hj (by omega)), Lib.hid (Ext.refl _)⟩
  case round =>
    obtain ⟨k, hk, rfl, hall, X⟩ := hrel
    by_cases hlt : k < n
    · have C := Lib.hid (HC.out k wr hlt X.out)
      have YES := Lib.hid (fun h : q k = true => show (k : Int) = (firstF q n : Nat) by rw [firstF_eq (by omega) hall.out (fun _ => h)])
      have NO := Lib.hid (fun h : q k = false => show ∀ j, j < k + 1 → q j = false from fun j hj => if e : j = k then e ▸ h else hall.out j (by omega))
      generalize q k = b at *
      go_wp2_with fail
      refine C.out.mono ?_; rintro e w' ⟨rfl, x1⟩
      have X1 := Lib.hid (X.out.trans x1)
      clear x1 C
      cases b with
      | true =>
        have H := Lib.hid (YES.out rfl)
        clear YES NO
        go_wp2_with fail
        go_ret
        exact ⟨ret_int H.out, X1.out⟩
      | false =>
        have H := Lib.hid (NO.out rfl)
        clear YES NO
        go_wp2_with fail
        go_roundw
        case rel => exact ⟨k + 1, by omega, by go_num, H, X1⟩
        case measure => simp [intOf]; omega
    · obtain rfl : k = n := by omega
      have H := Lib.hid (show (k : Int) = (firstF q k : Nat) by rw [firstF_eq (Nat.le_refl _) hall.out (fun h => absurd h (by omega))])
      go_wp2_with fail
      go_ret
      exact ⟨ret_int H.out, X.out⟩
/-- Is it a letter? The closure. -/
theorem is_any (r : Nat) (A : Option Addr) (l : List Int) (n c : Nat) (i : Nat) (w : World) (hr : w.cell? ⟨r, 0, none⟩ = some (.slice A n c)) (hs : SeenL w A l) (hn : n = l.length) (hi : i < l.length) :
    Calls Try.prog 18 #[.int .i64 i, .pointer (some ⟨r, 0, none⟩)] w (Ret w (.bool (isL (l.getD i 0)))) := by
  obtain ⟨ad, rfl, hc⟩ := hs.get hi
  rw [← nought]
  have hin : (i : Int) < n := by omega
  have C := Lib.hid (fun w' => small_any (l.getD i 0) w')
  generalize l.getD i 0 = x at *
  clear hs hn hi
  go_enter Try.func18, Try.ntmps18
  go_wp2_with fail
  refine (C.out _).mono ?_; rintro e w1 ⟨rfl, x1⟩
  generalize small x = y at *
  go_wp2_with fail
  go_ret
  exact ⟨rfl, x1⟩
theorem isb_any (r s : Nat) (A : Option Addr) (l : List Int) (n c : Nat) (i : Nat) (w : World) (hr : w.cell? ⟨r, 0, none⟩ = some (.slice A n c))
    (hf : w.cell? ⟨s, 0, none⟩ = some (.func (.func 18) #[] #[.pointer (some ⟨r, 0, none⟩)])) (hs : SeenL w A l) (hn : n = l.length) (hm : n ≤ maxLen) (hi : i < l.length) :
    Calls Try.prog 21 #[.int .i64 i, .pointer (some ⟨s, 0, none⟩), .pointer (some ⟨r, 0, none⟩)] w (Ret w (.bool (isL (l.getD (l.length - 1 - i) 0)))) := by
  have hw : IntKind.i64.wrap ((n : Int) - 1) = n - 1 := IntWalk.i64_in _ (by unfold maxLen at hm; omega)
  have hw2 : IntKind.i64.wrap ((n : Int) - 1 - i) = (l.length - 1 - i : Nat) := by rw [IntWalk.i64_in _ (by unfold maxLen at hm; omega)]; omega
  have C := Lib.hid (is_any r A l n c (l.length - 1 - i) w hr hs hn (by omega))
  generalize l.getD (l.length - 1 - i) 0 = x at *
  generalize l.length - 1 - i = y at *
  clear hs hn hi
  go_enter Try.func21, Try.ntmps21
  go_wp2_with fail
  refine C.out.mono ?_; rintro e w1 ⟨rfl, x1⟩
  go_wp2_with fail
  go_ret
  exact ⟨rfl, x1⟩
end L12
end Go.Proofs.Ytenajekmnggkeaa

