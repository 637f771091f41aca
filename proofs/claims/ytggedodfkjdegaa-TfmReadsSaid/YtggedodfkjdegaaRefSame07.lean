/- The document's Same. -/
import Derived.Test.YtggedodfkjdegaaSameLib
import Derived.Test.YtggedodfkjdegaaRefLoops07
namespace Go.Proofs.Ytggedodfkjdegaa
open Go.RowKit
namespace L07

/-- Rows of k integers that are the same. -/
def rowsB (k n : Nat) (f g : Nat → Nat → Int) : Bool := decide (∀ i, i < n → ∀ j, j < k → f i j = g i j)
/-- Two fonts that are the same. -/
def sameFontB (D E : FontD) : Bool :=
  decide (D.sum = E.sum ∧ D.design = E.design ∧ D.first = E.first ∧ D.nc = E.nc ∧ D.ns = E.ns) && (rowsB 6 D.nc D.chr E.chr && (rowsB 4 D.ns D.stp E.stp &&
    (L04.sameB D.nw E.nw D.wd E.wd && (L04.sameB D.nh E.nh D.hd E.hd && (L04.sameB D.nd E.nd D.dd E.dd && (L04.sameB D.ni E.ni D.id E.id && (L04.sameB D.nk E.nk D.kd E.kd && L04.sameB D.np E.np D.pd E.pd)))))))

theorem same1 (D E : FontD) (P Q : FontP) (w : World)  (e0 : (D.sum != E.sum) = true) :
    Calls Try.prog 7 #[fontV D P, fontV E Q] w (Ret w (.bool false)) := by
  unfold fontV
  go_enter Try.func7, Try.ntmps7
  go_wp2_with fail
  go_ret
  exact ⟨rfl, ((Ext.refl _).alloc _).alloc _⟩
theorem same2 (D E : FontD) (P Q : FontP) (w : World) (e0 : (D.sum != E.sum) = false) (e1 : (D.design != E.design) = true) :
    Calls Try.prog 7 #[fontV D P, fontV E Q] w (Ret w (.bool false)) := by
  unfold fontV
  go_enter Try.func7, Try.ntmps7
  go_wp2_with fail
  go_ret
  exact ⟨rfl, ((Ext.refl _).alloc _).alloc _⟩
theorem same3 (D E : FontD) (P Q : FontP) (w : World) (e0 : (D.sum != E.sum) = false) (e1 : (D.design != E.design) = false) (e2 : (D.first != E.first) = true) :
    Calls Try.prog 7 #[fontV D P, fontV E Q] w (Ret w (.bool false)) := by
  unfold fontV
  go_enter Try.func7, Try.ntmps7
  go_wp2_with fail
  go_ret
  exact ⟨rfl, ((Ext.refl _).alloc _).alloc _⟩
theorem same4 (D E : FontD) (P Q : FontP) (w : World) (e0 : (D.sum != E.sum) = false) (e1 : (D.design != E.design) = false) (e2 : (D.first != E.first) = false) (e3 : ((D.nc : Int) != (E.nc : Int)) = true) :
    Calls Try.prog 7 #[fontV D P, fontV E Q] w (Ret w (.bool false)) := by
  unfold fontV
  go_enter Try.func7, Try.ntmps7
  go_wp2_with fail
  go_ret
  exact ⟨rfl, ((Ext.refl _).alloc _).alloc _⟩
theorem same5 (D E : FontD) (P Q : FontP) (w : World) (e0 : (D.sum != E.sum) = false) (e1 : (D.design != E.design) = false) (e2 : (D.first != E.first) = false) (e3 : ((D.nc : Int) != (E.nc : Int)) = false) (e4 : ((D.ns : Int) != (E.ns : Int)) = true) :
    Calls Try.prog 7 #[fontV D P, fontV E Q] w (Ret w (.bool false)) := by
  unfold fontV
  go_enter Try.func7, Try.ntmps7
  go_wp2_with fail
  go_ret
  exact ⟨rfl, ((Ext.refl _).alloc _).alloc _⟩
end L07
end Go.Proofs.Ytggedodfkjdegaa

