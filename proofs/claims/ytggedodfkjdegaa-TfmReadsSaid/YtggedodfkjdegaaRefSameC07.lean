/- The document's Same, whole. -/
import Derived.Test.YtggedodfkjdegaaRefSameB07
namespace Go.Proofs.Ytggedodfkjdegaa
open Go.RowKit
namespace L07

theorem same_any (D E : FontD) (P Q : FontP) (w : World) (hfew : fewB D = true) (snD : SeenFont w D P) (snE : SeenFont w E Q) :
    Calls Try.prog 7 #[fontV D P, fontV E Q] w (Ret w (.bool (sameFontB D E))) := by
  have no : Calls Try.prog 7 #[fontV D P, fontV E Q] w (Ret w (.bool false)) → ¬ (D.sum = E.sum ∧ D.design = E.design ∧ D.first = E.first ∧ D.nc = E.nc ∧ D.ns = E.ns) → Calls Try.prog 7 #[fontV D P, fontV E Q] w (Ret w (.bool (sameFontB D E))) := fun h k => by
    rw [sameFontB, decide_eq_false k]; exact h
  by_cases e0 : D.sum = E.sum
  · by_cases e1 : D.design = E.design
    · by_cases e2 : D.first = E.first
      · by_cases e3 : D.nc = E.nc
        · by_cases e4 : D.ns = E.ns
          · rw [sameFontB, decide_eq_true ⟨e0, e1, e2, e3, e4⟩]
            exact same_rest D E P Q w hfew snD snE (by simpa using e0) (by simpa using e1) (by simpa using e2) e3.symm e4.symm
          · exact no (same5 D E P Q w (by simpa using e0) (by simpa using e1) (by simpa using e2) (by simp [e3]) (by simp; omega)) fun k => e4 k.2.2.2.2
        · exact no (same4 D E P Q w (by simpa using e0) (by simpa using e1) (by simpa using e2) (by simp; omega)) fun k => e3 k.2.2.2.1
      · exact no (same3 D E P Q w (by simpa using e0) (by simpa using e1) (by simpa using e2)) fun k => e2 k.2.2.1
    · exact no (same2 D E P Q w (by simpa using e0) (by simpa using e1)) fun k => e1 k.2.1
  · exact no (same1 D E P Q w (by simpa using e0)) fun k => e0 k.1
end L07
end Go.Proofs.Ytggedodfkjdegaa

