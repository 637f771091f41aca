/- The landed numbers of a line, whatever its kind. -/
import Derived.Test.YtaieafmgeheomaaDoorPlain14
import Derived.Test.YtaieafmgeheomaaDoorKinds14
namespace Go.Proofs.YtaieafmgeheomaaDoor
open Go.RowKit
namespace L14

/-- What the numbers of a line are answered as. -/
def NumsAt (w : World) (n : Nat) (cs : List Value) (e : Ending) (w' : World) : Prop := ∃ k, e = .returned (.slice (some ⟨k, 0, none⟩) n n) ∧ w.heap.size ≤ k ∧ Blk w' k 48 cs ∧ Ext w w'
theorem fk_any (j B : Nat) (S : Addr) (W : Int) (w : World) (hj : j < 10) (h2 : j ≠ 2) (c0 : w.cell? ⟨B, 0, none⟩ = some (.int .i64 W)) : Calls Tryd.prog (fK j) #[.pointer (some ⟨B, 0, none⟩)] w (NumsAt w (cntK j) (numC B S W j 0)) := by
  have hj' : j = 0 ∨ j = 1 ∨ j = 3 ∨ j = 4 ∨ j = 5 ∨ j = 6 ∨ j = 7 ∨ j = 8 ∨ j = 9 := by omega
  rcases hj' with rfl | rfl | rfl | rfl | rfl | rfl | rfl | rfl | rfl
  · exact k1_any B w
  · exact k2_any B w
  · exact k5_any B W w c0
  · exact k6_any B w
  · exact k7_any B w
  · exact k8_any B w
  · exact k9_any B w
  · exact k10_any B w
  · exact k11_any B w
theorem k4_all (B : Nat) (S : Addr) (W : Int) (n c t : Nat) (w : World) (c4 : w.cell? ⟨B, 4, none⟩ = some (.slice (some S) n c)) (ht : t < n) : Calls Tryd.prog 26 #[.pointer (some ⟨B, 0, none⟩), .int .i64 t] w (NumsAt w (cntK 2) (numC B S W 2 t)) := by
  have e : numC B S W 2 t = [.pointer (some (S.add (t * 2))), .int .i64 0, .int .i64 67108864, .pointer (some ⟨(S.add (t * 2)).block, (S.add (t * 2)).off + 1, none⟩), .int .i64 1, .int .i64 67108864] := rfl
  rw [e]
  exact k4_any B S n c t w c4 ht
/-- Through the closure that leaves the line's place out. -/
theorem two_any (j B nb t : Nat) (S : Addr) (W : Int) (w : World) (hj : j < 10) (h2 : j ≠ 2) (c0 : w.cell? ⟨B, 0, none⟩ = some (.int .i64 W)) (cn : w.cell? ⟨nb, 0, none⟩ = some (.func (.func (fK j)) #[] #[])) :
    Calls Tryd.prog 35 #[.pointer (some ⟨B, 0, none⟩), .int .i64 t, .pointer (some ⟨nb, 0, none⟩)] w (NumsAt w (cntK j) (numC B S W j t)) := by
  have e : numC B S W j t = numC B S W j 0 := by simp only [numC, adrK, if_neg h2]
  rw [e]
  have ef := fk_any j B S W w hj h2 c0
  obtain ⟨fn, hfn⟩ : ∃ fn, fn = fK j := ⟨_, rfl⟩
  rw [← hfn] at ef cn
  have hk : ∀ args w, (callFunc fn args).run Tryd.prog w = .ok (.enter fn args) w := by
    have hj' : j = 0 ∨ j = 1 ∨ j = 3 ∨ j = 4 ∨ j = 5 ∨ j = 6 ∨ j = 7 ∨ j = 8 ∨ j = 9 := by omega
    rw [hfn]
    rcases hj' with rfl | rfl | rfl | rfl | rfl | rfl | rfl | rfl | rfl
    · exact enters_of Tryd.func23 (by kernel_rfl) rfl
    · exact enters_of Tryd.func24 (by kernel_rfl) rfl
    · exact enters_of Tryd.func27 (by kernel_rfl) rfl
    · exact enters_of Tryd.func28 (by kernel_rfl) rfl
    · exact enters_of Tryd.func29 (by kernel_rfl) rfl
    · exact enters_of Tryd.func30 (by kernel_rfl) rfl
    · exact enters_of Tryd.func31 (by kernel_rfl) rfl
    · exact enters_of Tryd.func32 (by kernel_rfl) rfl
    · exact enters_of Tryd.func33 (by kernel_rfl) rfl
  clear hfn
  go_enter Tryd.func35, Tryd.ntmps35
  go_wp2_with (go_at_fn fn; refine ef.mono ?_; rintro e w1 ⟨k, rfl, hk1, hb, hx⟩)
  go_wp2_with fail
  go_ret
  exact ⟨k, rfl, hk1, hb, hx⟩
end L14
end Go.Proofs.YtaieafmgeheomaaDoor

