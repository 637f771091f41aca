/- Layer 17, plain: a paragraph's breaks may be ones of its words. -/
import Derived.Test.YtmmgmcfhlhghoaaGreatDoorGI16
import Derived.Test.YtmmgmcfhlhghoaaGreatDoorRise16
namespace Go.Proofs.YtmmgmcfhlhghoaaGreatDoor
open Go.RowKit
namespace L17
open L10 (TN)
open L13 (TW tw checkB wordB)
open L16 (Brk allL all_mem rise_of_mem ofW endK)

/-- A paragraph's breaks may be ones of its words. -/
theorem all_stand {p but : List TN} {lf rg : Int} {parted : Bool} {l : List TW} (hc : checkB l = true) {b : Brk} (h : b ∈ allL p but lf rg parted l) : stB l b = true := by
  have h1 : 1 ≤ l.length := by
    simp only [checkB, Bool.and_eq_true, decide_eq_true_eq] at hc
    omega
  have wp := word_pos hc
  unfold stB
  rw [hc, Bool.true_and]
  rcases all_mem h with rfl | ⟨j, hj, hb | rfl⟩
  · simp [placeB]; omega
  · obtain ⟨i, i0, i1, rfl, hk⟩ := rise_of_mem hb
    dsimp only at hk ⊢
    generalize L16.kindA _ _ _ = k at *
    unfold placeB
    dsimp only
    rw [if_neg (by omega), if_neg (by omega), if_neg (by omega), Int.toNat_natCast]
    simp only [Bool.and_eq_true, decide_eq_true_eq]
    omega
  · have hw := wp j hj
    unfold placeB
    dsimp only
    rw [Int.toNat_natCast]
    by_cases he : j + 1 = l.length
    · have e : endK l.length j = 5 := by unfold endK; rw [if_pos he]
      rw [e, if_neg (by decide), if_neg (by decide), if_pos rfl]
      simp only [Bool.and_eq_true, decide_eq_true_eq]
      exact ⟨by omega, by omega, by omega, by trivial⟩
    · have e : endK l.length j = 1 := by unfold endK; rw [if_neg he]
      rw [e, if_neg (by decide), if_pos rfl]
      simp only [Bool.and_eq_true, decide_eq_true_eq]
      exact ⟨by omega, by omega, by omega, by trivial⟩
end L17
end Go.Proofs.YtmmgmcfhlhghoaaGreatDoor

