/- The document's Same of layer 4, for later layers. -/
import Derived.Test.YtmmgmcfhlhghoaaRowF
import Derived.Deep.QuietTactic
import Derived.BigQuiet
namespace Go.Proofs.Ytmmgmcfhlhghoaa
open Go.RowKit
namespace L04

theorem ret_b {a b : Bool} (h : a = b) : Ending.returned (.bool a) = .returned (.bool b) := by rw [h]
/-- Two lists that are the same. -/
def sameB (n m : Nat) (f g : Nat → Int) : Bool := decide (n = m ∧ ∀ j, j < n → f j = g j)
theorem same_any (A B : Option Addr) (n m c d : Nat) (f g : Nat → Int) (w : World) (hs : SeenF w A n f) (ht : SeenF w B m g) (hn : n ≤ 9223372036854775806) :
    Calls Try.prog 24 #[.slice A n c, .slice B m d] w (Ret w (.bool (sameB n m f g))) := by
  by_cases h1 : n = m
  · subst h1
    go_enter Try.func24, Try.ntmps24
    go_wp2_with fail
    go_loopw [5] (fun i wr => ∃ (k : Nat), k ≤ n ∧ i = .int .i64 k ∧ Hid (∀ j, j < k → f j = g j) ∧ Ext w wr) (fun i _ => n - (intOf i).toNat)
    case atStart => exact ⟨0, by omega, rfl, fun j hj => absurd hj (by omega), Ext.refl _⟩
    case round =>
      obtain ⟨k, hk, rfl, ha, hx⟩ := hrel
      by_cases hlt : k < n
      · obtain ⟨ad, rfl, hc⟩ := (hs.ext hx).get hlt
        obtain ⟨be, rfl, hd⟩ := (ht.ext hx).get hlt
        have HX := Lib.hid hx
        clear hx
        by_cases h2 : f k = g k
        · have HK : Hid (∀ j, j < k + 1 → f j = g j) := fun j hj => by
            by_cases e : j = k
            · subst e; exact h2
            · exact ha.out j (by omega)
          rw [← h2] at hd
          generalize f k = x at *
          clear h2
          go_wp2_with fail
          go_quiet (fail)
          go_wp2_with fail
          go_roundw
          case rel => exact ⟨k + 1, by omega, by go_num, HK, HX.out.drewN _⟩
          case measure => simp [intOf]; omega
        · have NO : Hid (false = sameB n n f g) := (decide_eq_false fun h => h2 (h.2 k hlt)).symm
          generalize f k = x at *
          generalize g k = y at *
          go_wp2_with fail
          go_quiet (fail)
          go_wp2_with fail
          go_ret
          exact ⟨ret_b NO.out, HX.out.drewN _⟩
      · obtain rfl : k = n := by omega
        have NO : Hid (true = sameB k k f g) := (decide_eq_true ⟨rfl, ha.out⟩).symm
        go_wp2_with fail
        go_ret
        exact ⟨ret_b NO.out, hx⟩
  · have h1z : ¬ ((n : Int) = (m : Int)) := by omega
    rw [show sameB n m f g = false from decide_eq_false fun h => h1 h.1]
    go_enter Try.func24, Try.ntmps24
    go_wp2_with fail
    go_ret
    exact ⟨rfl, Ext.refl _⟩
end L04
end Go.Proofs.Ytmmgmcfhlhghoaa

