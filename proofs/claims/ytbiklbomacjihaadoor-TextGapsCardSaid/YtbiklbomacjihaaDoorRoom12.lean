/- One's own numbers: there is room for what there is. -/
import Derived.Test.YtbiklbomacjihaaDoorOwnI12
namespace Go.Proofs.YtbiklbomacjihaaDoor
open Go.RowKit

theorem OwnI.room {w0 w : World} {A : Option Addr} {n c : Nat} {l : List Int} (h : OwnI w0 w (.slice A n c) l) : n ≤ c ∧ c ≤ maxLen := by
  rcases h.1.2 with ⟨e, _⟩ | ⟨g, cap, cur, e, _, _, hnc, hc⟩
  · simp only [Value.slice.injEq] at e
    obtain ⟨_, rfl, rfl⟩ := e
    exact ⟨Nat.le_refl _, by unfold maxLen; omega⟩
  · simp only [Value.slice.injEq] at e
    obtain ⟨_, rfl, rfl⟩ := e
    exact ⟨hnc, hc.1⟩
end Go.Proofs.YtbiklbomacjihaaDoor

