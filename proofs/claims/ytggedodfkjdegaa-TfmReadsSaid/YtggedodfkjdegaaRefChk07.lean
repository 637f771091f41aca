/- The document's Check, whole. -/
import Derived.Test.YtggedodfkjdegaaRefTabs07
import Derived.Test.YtggedodfkjdegaaRefLoops07
namespace Go.Proofs.Ytggedodfkjdegaa
open Go.RowKit
namespace L07

theorem check_any (D : FontD) (P : FontP) (w : World) (ok : FontOk D P) (sn : SeenFont w D P) :
    Calls Try.prog 32 #[fontV D P] w (Ret w (.bool (checkB D))) := by
  have no : ∀ {b : Bool}, b = false → Calls Try.prog 32 #[fontV D P] w (Ret w (.bool false)) → checkB D = false → Calls Try.prog 32 #[fontV D P] w (Ret w (.bool (checkB D))) := fun _ h e => by rw [e]; exact h
  cases s1 : inB D.sum 4294967296 with
  | false => exact no rfl (head1 D P w s1) (by simp [checkB, headB, s1])
  | true =>
  by_cases d1 : D.design < 1048576
  · exact no rfl (head2 D P w s1 d1) (by simp only [checkB, headB]; rw [show decide (1048576 ≤ D.design ∧ D.design ≤ 2147483647) = false by simp; omega]; simp)
  by_cases d2 : 2147483647 < D.design
  · exact no rfl (head3 D P w s1 d1 d2) (by simp only [checkB, headB]; rw [show decide (1048576 ≤ D.design ∧ D.design ≤ 2147483647) = false by simp; omega]; simp)
  have e1 : decide (1048576 ≤ D.design ∧ D.design ≤ 2147483647) = true := by simp; omega
  cases f0 : inB D.first 256 with
  | false => exact no rfl (head4 D P w s1 (by omega) (by omega) f0) (by simp only [checkB, headB, f0]; simp)
  | true =>
  have hf : 0 ≤ D.first ∧ D.first < 256 := by simpa [inB] using f0
  by_cases c1 : (D.nc : Int) < 1
  · exact no rfl (head5 D P w s1 (by omega) (by omega) f0 hf.1 hf.2 c1) (by simp only [checkB, headB]; rw [show decide (1 ≤ (D.nc : Int) ∧ (D.nc : Int) ≤ 256 - D.first) = false by simp; omega]; simp)
  by_cases c2 : 256 - D.first < (D.nc : Int)
  · exact no rfl (head6 D P w s1 (by omega) (by omega) f0 hf.1 hf.2 c1 c2) (by simp only [checkB, headB]; rw [show decide (1 ≤ (D.nc : Int) ∧ (D.nc : Int) ≤ 256 - D.first) = false by simp; omega]; simp)
  have e2 : decide (1 ≤ (D.nc : Int) ∧ (D.nc : Int) ≤ 256 - D.first) = true := by simp; omega
  by_cases n1 : 256 < (D.ns : Int)
  · exact no rfl (head7 D P w s1 (by omega) (by omega) f0 hf.1 hf.2 c1 c2 n1) (by simp only [checkB, headB]; rw [show decide (D.ns ≤ 256) = false by simp; omega]; simp)
  have e3 : decide (D.ns ≤ 256) = true := by simp; omega
  have hh : headB D = true := by simp only [headB, s1, e1, f0, e2, e3]; rfl
  cases t0 : fixesB D.nw D.wd 1 256 true with
  | false => exact no rfl (tabs1 D P w ok sn s1 (by omega) (by omega) f0 hf.1 hf.2 c1 c2 n1 t0) (by simp [checkB, tabsB, t0])
  | true =>
  cases t1 : fixesB D.nh D.hd 1 16 true with
  | false => exact no rfl (tabs2 D P w ok sn s1 (by omega) (by omega) f0 hf.1 hf.2 c1 c2 n1 t0 t1) (by simp [checkB, tabsB, t1])
  | true =>
  cases t2 : fixesB D.nd D.dd 1 16 true with
  | false => exact no rfl (tabs3 D P w ok sn s1 (by omega) (by omega) f0 hf.1 hf.2 c1 c2 n1 t0 t1 t2) (by simp [checkB, tabsB, t2])
  | true =>
  cases t3 : fixesB D.ni D.id 1 64 true with
  | false => exact no rfl (tabs4 D P w ok sn s1 (by omega) (by omega) f0 hf.1 hf.2 c1 c2 n1 t0 t1 t2 t3) (by simp [checkB, tabsB, t3])
  | true =>
  cases t4 : fixesB D.nk D.kd 0 256 false with
  | false => exact no rfl (tabs5 D P w ok sn s1 (by omega) (by omega) f0 hf.1 hf.2 c1 c2 n1 t0 t1 t2 t3 t4) (by simp [checkB, tabsB, t4])
  | true =>
  cases t5 : fixesB D.np D.pd 0 30 false with
  | false => exact no rfl (tabs6 D P w ok sn s1 (by omega) (by omega) f0 hf.1 hf.2 c1 c2 n1 t0 t1 t2 t3 t4 t5) (by simp [checkB, tabsB, t5])
  | true =>
  have ht : tabsB D = true := by simp only [tabsB, t0, t1, t2, t3, t4, t5]; rfl
  have e : checkB D = (allB (chrB D) D.nc && allB (stpB D) D.ns) := by rw [checkB, hh, ht]; rfl
  rw [e]
  exact check_loops D P w ok sn s1 (by omega) (by omega) f0 hf.1 hf.2 c1 c2 n1 t0 t1 t2 t3 t4 t5
end L07
end Go.Proofs.Ytggedodfkjdegaa

