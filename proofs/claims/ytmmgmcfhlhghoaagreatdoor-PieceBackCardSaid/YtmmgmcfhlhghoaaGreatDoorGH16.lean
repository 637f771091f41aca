/- The document's word of layer 13. The document's Check of layer 13. -/
import Derived.Test.YtmmgmcfhlhghoaaGreatDoorGF16
import Derived.Test.YtmmgmcfhlhghoaaGreatDoorGA16
import Derived.Deep.QuietTactic
import Derived.BigQuiet
import Derived.Deep.CutBlock
namespace Go.Proofs.YtmmgmcfhlhghoaaGreatDoor
open Go.RowKit
namespace L13
open L10 (risesB)

theorem all_step {p : Int → Bool} {l : List Int} {k : Nat} (h : k < l.length) : (l.drop k).all p = (p (l.getD k 0) && (l.drop (k + 1)).all p) := by
  rw [List.drop_eq_getElem_cons h, List.all_cons, List.getD, List.getElem?_eq_getElem h]; rfl
end L13
end Go.Proofs.YtmmgmcfhlhghoaaGreatDoor

namespace Go.Proofs.YtmmgmcfhlhghoaaGreatDoor
open Go.RowKit
namespace L13

theorem sumC_snoc (l : List TW) (p : TW) : sumC (l ++ [p]) = sumC l + p.1.length := by simp [sumC]
theorem take_map {l : List CW} {k : Nat} (h : k < l.length) : (l.take (k + 1)).map tw = (l.take k).map tw ++ [tw l[k]] := by
  rw [List.take_succ_eq_append_getElem h, List.map_append]; rfl
theorem word_short {p : TW} (h : wordB p = true) : 1 ≤ p.1.length ∧ p.1.length ≤ 60 := by
  simp only [wordB, Bool.and_eq_true, decide_eq_true_eq] at h
  exact h.1
theorem sum_most {l : List TW} (h : ∀ p ∈ l, wordB p = true) : sumC l ≤ l.length * 60 := by
  induction l with
  | nil => simp [sumC]
  | cons p r ih =>
    have h1 := word_short (h p (by simp))
    have h2 := ih (fun q hq => h q (by simp [hq]))
    have e : sumC (p :: r) = p.1.length + sumC r := by simp [sumC]
    rw [e, List.length_cons]
    omega
end L13
end Go.Proofs.YtmmgmcfhlhghoaaGreatDoor

