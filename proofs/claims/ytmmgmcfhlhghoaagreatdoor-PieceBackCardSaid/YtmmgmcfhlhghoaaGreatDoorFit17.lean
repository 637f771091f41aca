/- Words that may be are few, and short. -/
import Derived.Test.YtmmgmcfhlhghoaaGreatDoorGI16
import Derived.Test.YtmmgmcfhlhghoaaGreatDoorGH16
namespace Go.Proofs.YtmmgmcfhlhghoaaGreatDoor
open Go.RowKit
namespace L17
open L13 (TW tw checkB wordB)

theorem words_fit {wl : List CW} (h : checkB (wl.map tw) = true) : wl.length ≤ 110 ∧ ∀ x ∈ wl, 1 ≤ x.cs.length ∧ x.cs.length ≤ 1000 := by
  simp only [checkB, Bool.and_eq_true, decide_eq_true_eq, List.all_eq_true, List.length_map] at h
  refine ⟨by omega, fun x hx => ?_⟩
  have hw := L13.word_short (h.2.1 (tw x) (List.mem_map.2 ⟨x, hx, rfl⟩))
  have e1 : (tw x).1.length = x.cs.length := rfl
  omega
end L17
end Go.Proofs.YtmmgmcfhlhghoaaGreatDoor

