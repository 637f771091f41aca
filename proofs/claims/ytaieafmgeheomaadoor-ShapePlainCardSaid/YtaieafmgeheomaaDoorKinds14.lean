/- The landed numbers of a line: one function a kind. Written by gen14/kinds.py. -/
import Derived.Test.YtaieafmgeheomaaDoorLay14
import Derived.Test.YtaieafmgeheomaaDoorHome14
import Derived.Test.YtaieafmgeheomaaDoorKeep
import Derived.BigRegion
namespace Go.Proofs.YtaieafmgeheomaaDoor
open Go.RowKit
namespace L14


set_option maxRecDepth 100000 in
theorem k1_any (B : Nat) (w : World) : Calls Tryd.prog 23 #[.pointer (some ⟨B, 0, none⟩)] w fun e w' => ∃ k, e = .returned (.slice (some ⟨k, 0, none⟩) 1 1) ∧ w.heap.size ≤ k ∧
    Blk w' k 48 [.pointer (some ⟨B, 0, none⟩), .int .i64 1, .int .i64 67108864] ∧ Ext w w' := by
  go_enter Tryd.func23, Tryd.ntmps23
  go_wp2_with fail
  go_ret
  exact ⟨_, rfl, Nat.le_refl _, Blk.lit _ _ _ _ rfl, (Ext.refl _).alloc _⟩

set_option maxRecDepth 100000 in
theorem k2_any (B : Nat) (w : World) : Calls Tryd.prog 24 #[.pointer (some ⟨B, 0, none⟩)] w fun e w' => ∃ k, e = .returned (.slice (some ⟨k, 0, none⟩) 3 3) ∧ w.heap.size ≤ k ∧
    Blk w' k 48 [.pointer (some ⟨B, 1, none⟩), .int .i64 0, .int .i64 4194304, .pointer (some ⟨B, 2, none⟩), .int .i64 0, .int .i64 4194304, .pointer (some ⟨B, 3, none⟩), .int .i64 0, .int .i64 4194304] ∧ Ext w w' := by
  go_enter Tryd.func24, Tryd.ntmps24
  go_wp2_with fail
  go_region
  go_wp2_with fail
  go_ret
  exact ⟨_, rfl, Nat.le_refl _, (Blk.lit _ _ _ _ rfl).ext (Ext.refl _).drew, ((Ext.refl _).alloc _).drew⟩

set_option maxRecDepth 100000 in
theorem k6_any (B : Nat) (w : World) : Calls Tryd.prog 28 #[.pointer (some ⟨B, 0, none⟩)] w fun e w' => ∃ k, e = .returned (.slice (some ⟨k, 0, none⟩) 2 2) ∧ w.heap.size ≤ k ∧
    Blk w' k 48 [.pointer (some ⟨B, 7, none⟩), .int .i64 0, .int .i64 40, .pointer (some ⟨B, 8, none⟩), .int .i64 0, .int .i64 40] ∧ Ext w w' := by
  go_enter Tryd.func28, Tryd.ntmps28
  go_wp2_with fail
  go_region
  go_wp2_with fail
  go_ret
  exact ⟨_, rfl, Nat.le_refl _, (Blk.lit _ _ _ _ rfl).ext (Ext.refl _).drew, ((Ext.refl _).alloc _).drew⟩

set_option maxRecDepth 100000 in
theorem k7_any (B : Nat) (w : World) : Calls Tryd.prog 29 #[.pointer (some ⟨B, 0, none⟩)] w fun e w' => ∃ k, e = .returned (.slice (some ⟨k, 0, none⟩) 2 2) ∧ w.heap.size ≤ k ∧
    Blk w' k 48 [.pointer (some ⟨B, 9, none⟩), .int .i64 (-1), .int .i64 10000, .pointer (some ⟨B, 10, none⟩), .int .i64 0, .int .i64 10000] ∧ Ext w w' := by
  go_enter Tryd.func29, Tryd.ntmps29
  go_wp2_with fail
  go_region
  go_wp2_with fail
  go_ret
  exact ⟨_, rfl, Nat.le_refl _, (Blk.lit _ _ _ _ rfl).ext (Ext.refl _).drew, ((Ext.refl _).alloc _).drew⟩

set_option maxRecDepth 100000 in
theorem k8_any (B : Nat) (w : World) : Calls Tryd.prog 30 #[.pointer (some ⟨B, 0, none⟩)] w fun e w' => ∃ k, e = .returned (.slice (some ⟨k, 0, none⟩) 1 1) ∧ w.heap.size ≤ k ∧
    Blk w' k 48 [.pointer (some ⟨B, 11, none⟩), .int .i64 0, .int .i64 67108864] ∧ Ext w w' := by
  go_enter Tryd.func30, Tryd.ntmps30
  go_wp2_with fail
  go_ret
  exact ⟨_, rfl, Nat.le_refl _, Blk.lit _ _ _ _ rfl, (Ext.refl _).alloc _⟩

set_option maxRecDepth 100000 in
theorem k9_any (B : Nat) (w : World) : Calls Tryd.prog 31 #[.pointer (some ⟨B, 0, none⟩)] w fun e w' => ∃ k, e = .returned (.slice (some ⟨k, 0, none⟩) 3 3) ∧ w.heap.size ≤ k ∧
    Blk w' k 48 [.pointer (some ⟨B, 12, none⟩), .int .i64 0, .int .i64 1000, .pointer (some ⟨B, 13, none⟩), .int .i64 (-1000), .int .i64 1000, .pointer (some ⟨B, 14, none⟩), .int .i64 (-1000), .int .i64 1000] ∧ Ext w w' := by
  go_enter Tryd.func31, Tryd.ntmps31
  go_wp2_with fail
  go_region
  go_wp2_with fail
  go_ret
  exact ⟨_, rfl, Nat.le_refl _, (Blk.lit _ _ _ _ rfl).ext (Ext.refl _).drew, ((Ext.refl _).alloc _).drew⟩

set_option maxRecDepth 100000 in
theorem k10_any (B : Nat) (w : World) : Calls Tryd.prog 32 #[.pointer (some ⟨B, 0, none⟩)] w fun e w' => ∃ k, e = .returned (.slice (some ⟨k, 0, none⟩) 5 5) ∧ w.heap.size ≤ k ∧
    Blk w' k 48 [.pointer (some ⟨B, 15, none⟩), .int .i64 0, .int .i64 10000, .pointer (some ⟨B, 16, none⟩), .int .i64 0, .int .i64 10000, .pointer (some ⟨B, 17, none⟩), .int .i64 0, .int .i64 10000, .pointer (some ⟨B, 18, none⟩), .int .i64 0, .int .i64 10000, .pointer (some ⟨B, 19, none⟩), .int .i64 0, .int .i64 10000] ∧ Ext w w' := by
  go_enter Tryd.func32, Tryd.ntmps32
  go_wp2_with fail
  go_region
  go_wp2_with fail
  go_ret
  exact ⟨_, rfl, Nat.le_refl _, (Blk.lit _ _ _ _ rfl).ext (Ext.refl _).drew, ((Ext.refl _).alloc _).drew⟩

set_option maxRecDepth 100000 in
theorem k11_any (B : Nat) (w : World) : Calls Tryd.prog 33 #[.pointer (some ⟨B, 0, none⟩)] w fun e w' => ∃ k, e = .returned (.slice (some ⟨k, 0, none⟩) 1 1) ∧ w.heap.size ≤ k ∧
    Blk w' k 48 [.pointer (some ⟨B, 20, none⟩), .int .i64 (-5), .int .i64 5] ∧ Ext w w' := by
  go_enter Tryd.func33, Tryd.ntmps33
  go_wp2_with fail
  go_ret
  exact ⟨_, rfl, Nat.le_refl _, Blk.lit _ _ _ _ rfl, (Ext.refl _).alloc _⟩

set_option maxRecDepth 100000 in
theorem k5_any (B : Nat) (W : Int) (w : World) (c0 : w.cell? ⟨B, 0, none⟩ = some (.int .i64 W)) : Calls Tryd.prog 27 #[.pointer (some ⟨B, 0, none⟩)] w fun e w' => ∃ k, e = .returned (.slice (some ⟨k, 0, none⟩) 2 2) ∧ w.heap.size ≤ k ∧
    Blk w' k 48 [.pointer (some ⟨B, 5, none⟩), .int .i64 (wrap64 (1 - W)), .int .i64 (wrap64 (W - 1)), .pointer (some ⟨B, 6, none⟩), .int .i64 (-100), .int .i64 100] ∧ Ext w w' := by
  go_enter Tryd.func27, Tryd.ntmps27
  go_wp2_with fail
  go_region
  go_wp2_with fail
  go_ret
  exact ⟨_, rfl, Nat.le_refl _, (Blk.lit _ _ _ _ rfl).ext (Ext.refl _).drew, ((Ext.refl _).alloc _).drew⟩

set_option maxRecDepth 100000 in
theorem k4_any (B : Nat) (S : Addr) (n c t : Nat) (w : World) (c4 : w.cell? ⟨B, 4, none⟩ = some (.slice (some S) n c)) (ht : t < n) : Calls Tryd.prog 26 #[.pointer (some ⟨B, 0, none⟩), .int .i64 t] w fun e w' => ∃ k, e = .returned (.slice (some ⟨k, 0, none⟩) 2 2) ∧ w.heap.size ≤ k ∧
    Blk w' k 48 [.pointer (some (S.add (t * 2))), .int .i64 0, .int .i64 67108864, .pointer (some ⟨(S.add (t * 2)).block, (S.add (t * 2)).off + 1, none⟩), .int .i64 1, .int .i64 67108864] ∧ Ext w w' := by
  have ht' : (t : Int) < (n : Int) := by omega
  go_enter Tryd.func26, Tryd.ntmps26
  go_wp2_with fail
  go_region
  go_wp2_with fail
  go_ret
  exact ⟨_, rfl, Nat.le_refl _, (Blk.lit _ _ _ _ rfl).ext (Ext.refl _).drew, ((Ext.refl _).alloc _).drew⟩

set_option maxRecDepth 100000 in
theorem k3_any (B : Nat) (A : Option Addr) (n c : Nat) (w : World) (c4 : w.cell? ⟨B, 4, none⟩ = some (.slice A n c)) : Calls Tryd.prog 25 #[.pointer (some ⟨B, 0, none⟩)] w (fun e w' => e = .returned (.int .i64 n) ∧ w' = w) := by
  go_enter Tryd.func25, Tryd.ntmps25
  go_wp2_with fail
  go_ret
  exact ⟨rfl, rfl⟩
theorem one_any (v : Value) (w : World) : Calls Tryd.prog 34 #[v] w (fun e w' => e = .returned (.int .i64 1) ∧ w' = w) := by
  go_enter Tryd.func34, Tryd.ntmps34
  go_wp2_with fail
  go_ret
  exact ⟨rfl, rfl⟩
end L14
end Go.Proofs.YtaieafmgeheomaaDoor

