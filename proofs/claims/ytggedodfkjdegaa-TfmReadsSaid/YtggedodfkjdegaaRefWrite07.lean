/- The document's Write. -/
import Derived.Test.YtggedodfkjdegaaFacts07
import Derived.Test.YtggedodfkjdegaaRefW07
import Derived.Test.YtggedodfkjdegaaRefLoops07
namespace Go.Proofs.Ytggedodfkjdegaa
open Go.RowKit
namespace L07
open L06

set_option maxRecDepth 100000 in
set_option maxHeartbeats 4000000 in
theorem rwrite_no (D : FontD) (P : FontP) (w : World) (ok : FontOk D P) (sn : SeenFont w D P) (h : checkB D = false) :
    Calls Try.prog 15 #[fontV D P] w (Ret w (.tuple #[.slice none 0 0, .int .i64 70])) := by
  have T := Lib.hid (fun w' (x : Ext w w') => check_any D P w' ok (sn.ext x))
  rw [h] at T
  clear ok sn
  unfold fontV at *
  go_enter Try.func15, Try.ntmps15
  go_wp2_with fail
  refine (T.out _ ((Ext.refl _).alloc _)).mono ?_; rintro e w1 ⟨rfl, x1⟩
  go_wp2_with fail
  go_ret2
  exact ⟨rfl, ((Ext.refl _).alloc _).trans x1⟩
end L07
end Go.Proofs.Ytggedodfkjdegaa

