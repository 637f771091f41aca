/- The document's Few of layer 13. -/
import Derived.Test.YtmmgmcfhlhghoaaWords13
import Derived.Test.YtmmgmcfhlhghoaaMid09
namespace Go.Proofs.Ytmmgmcfhlhghoaa
open Go.RowKit
namespace L13

def few1 (p : TW) : Bool := decide (p.1.length ≤ 100) && decide (p.2.length ≤ 100)
def fewB (l : List TW) : Bool := decide (l.length ≤ 110) && l.all few1
theorem all_few {l : List CW} {k : Nat} (h : k < l.length) : ((l.drop k).map tw).all few1 = (few1 (tw l[k]) && ((l.drop (k + 1)).map tw).all few1) := by
  rw [List.drop_eq_getElem_cons h, List.map_cons, List.all_cons]
set_option maxRecDepth 100000 in
set_option maxHeartbeats 2000000 in
theorem rfew_any (A : Option Addr) (l : List CW) (n c : Nat) (w : World) (hs : SeenC w A l) (hn : n = l.length) : Calls Try.prog 7 #[.slice A n c] w (Ret w (.bool (fewB (l.map tw)))) := by
  have SN := Lib.hid hs
  have HN := Lib.hid hn
  obtain ⟨b, hb⟩ : ∃ b, fewB (l.map tw) = b := ⟨_, rfl⟩
  rw [hb]
  have HB0 := Lib.hid (show (decide (n ≤ 110) && (l.map tw).all few1) = b by rw [← hb, fewB, List.length_map, hn])
  clear hs hn hb
  by_cases h1 : (110 : Int) < n
  · have HF := Lib.hid (show false = b by rw [← HB0.out, decide_eq_false (show ¬ n ≤ 110 by omega)]; rfl)
    clear HB0
    go_enter Try.func7, Try.ntmps7
    go_wp2_with fail
    go_ret
    exact ⟨ret_bool HF.out, Ext.refl _⟩
  have HB := Lib.hid (show (l.map tw).all few1 = b by rw [← HB0.out, decide_eq_true (show n ≤ 110 by omega), Bool.true_and])
  clear HB0
  go_enter Try.func7, Try.ntmps7
  go_wp2_with fail
  go_loop [3] (fun i => ∃ k : Nat, k ≤ n ∧ i = .int .i64 k ∧ Hid ((l.map tw).all few1 = ((l.drop k).map tw).all few1)) (fun i => n - (intOf i).toNat)
  case atStart => exact ⟨0, Nat.zero_le _, rfl, rfl⟩
  case round =>
    obtain ⟨k, hk, rfl, hall⟩ := hrel
    by_cases hlt : k < n
    · have hlt' : k < l.length := by rw [← HN.out]; exact hlt
      obtain ⟨⟨ad, rfl, e0, e1⟩, _⟩ := SN.out.get hlt'
      have hall := hall.out
      rw [all_few hlt'] at hall
      have HALL := Lib.hid hall
      have hk64 : (k : Int) < (n : Int) := by omega
      have F1 := Lib.hid (show few1 (tw l[k]) = (decide (l[k].cs.length ≤ 100) && decide (l[k].ss.length ≤ 100)) from rfl)
      clear hall
      generalize few1 (tw l[k]) = f1 at *
      generalize l[k].cs.length = y at *
      generalize l[k].ss.length = z at *
      generalize l[k].A = A1 at *
      generalize l[k].c = c1 at *
      generalize l[k].B = B1 at *
      generalize l[k].d = d1 at *
      by_cases h60 : (100 : Int) < y
      · have HF := Lib.hid (show false = b by rw [← HB.out, HALL.out, F1.out, decide_eq_false (show ¬ y ≤ 100 by omega)]; rfl)
        clear HALL F1
        go_wp2_with fail
        go_ret
        exact ⟨ret_bool HF.out, Ext.refl _⟩
      · by_cases h61 : (100 : Int) < z
        · have HF := Lib.hid (show false = b by rw [← HB.out, HALL.out, F1.out, decide_eq_true (show y ≤ 100 by omega), decide_eq_false (show ¬ z ≤ 100 by omega)]; rfl)
          clear HALL F1
          go_wp2_with fail
          go_ret
          exact ⟨ret_bool HF.out, Ext.refl _⟩
        · have HR := Lib.hid (show (l.map tw).all few1 = ((l.drop (k + 1)).map tw).all few1 by rw [HALL.out, F1.out, decide_eq_true (show y ≤ 100 by omega), decide_eq_true (show z ≤ 100 by omega)]; rfl)
          clear HALL F1
          go_wp2_with fail
          go_round
          case rel => exact ⟨k + 1, by omega, by go_num, HR⟩
          case measure => simp [intOf]; omega
    · obtain rfl : k = n := by omega
      have HF := Lib.hid (show true = b by rw [← HB.out, hall.out, HN.out, List.drop_length]; rfl)
      clear hall HB
      go_wp2_with fail
      go_ret
      exact ⟨ret_bool HF.out, Ext.refl _⟩
end L13
end Go.Proofs.Ytmmgmcfhlhghoaa

