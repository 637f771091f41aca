/- The document's Check. -/
import Derived.Test.YtggedodfkjdegaaRefA07
namespace Go.Proofs.Ytggedodfkjdegaa
open Go.RowKit
namespace L07

/-- A font may be: what stands ahead; its tables; each character; each step. -/
def headB (D : FontD) : Bool := inB D.sum 4294967296 && (decide (1048576 ≤ D.design ∧ D.design ≤ 2147483647) && (inB D.first 256 && (decide (1 ≤ (D.nc : Int) ∧ (D.nc : Int) ≤ 256 - D.first) && decide (D.ns ≤ 256))))
def tabsB (D : FontD) : Bool := fixesB D.nw D.wd 1 256 true && (fixesB D.nh D.hd 1 16 true && (fixesB D.nd D.dd 1 16 true && (fixesB D.ni D.id 1 64 true && (fixesB D.nk D.kd 0 256 false && fixesB D.np D.pd 0 30 false))))
def tagB (t r : Int) (n : Nat) : Bool := (decide (t = 0) && decide (r = 0)) || (decide (t = 1) && inB r n)
def chrB (D : FontD) (j : Nat) : Bool := inB (D.chr j 0) D.nw && (inB (D.chr j 1) D.nh && (inB (D.chr j 2) D.nd && (inB (D.chr j 3) D.ni && tagB (D.chr j 4) (D.chr j 5) D.ns)))
def stpB (D : FontD) (j : Nat) : Bool := inB (D.stp j 0) 256 && (inB (D.stp j 1) 256 && (inB (D.stp j 2) 256 && inB (D.stp j 3) 256))
def checkB (D : FontD) : Bool := headB D && (tabsB D && (allB (chrB D) D.nc && allB (stpB D) D.ns))

set_option maxRecDepth 100000 in
set_option maxHeartbeats 4000000 in
theorem head1 (D : FontD) (P : FontP) (w : World) (s1 : inB D.sum 4294967296 = false) :
    Calls Try.prog 32 #[fontV D P] w (Ret w (.bool false)) := by
  unfold fontV
  go_enter Try.func32, Try.ntmps32
  go_wp2_with (go_at_call 45; refine (in_any _ _ _).mono ?_; rintro e w' ⟨rfl, rfl⟩)
  go_ret
  exact ⟨rfl, (Ext.refl _).alloc _⟩
set_option maxRecDepth 100000 in
set_option maxHeartbeats 4000000 in
theorem head2 (D : FontD) (P : FontP) (w : World) (s1 : inB D.sum 4294967296 = true) (d1 : D.design < 1048576) :
    Calls Try.prog 32 #[fontV D P] w (Ret w (.bool false)) := by
  unfold fontV
  go_enter Try.func32, Try.ntmps32
  go_wp2_with (go_at_call 45; refine (in_any _ _ _).mono ?_; rintro e w' ⟨rfl, rfl⟩)
  go_ret
  exact ⟨rfl, (Ext.refl _).alloc _⟩
set_option maxRecDepth 100000 in
set_option maxHeartbeats 4000000 in
theorem head3 (D : FontD) (P : FontP) (w : World) (s1 : inB D.sum 4294967296 = true) (d1 : ¬ D.design < 1048576) (d2 : 2147483647 < D.design) :
    Calls Try.prog 32 #[fontV D P] w (Ret w (.bool false)) := by
  unfold fontV
  go_enter Try.func32, Try.ntmps32
  go_wp2_with (go_at_call 45; refine (in_any _ _ _).mono ?_; rintro e w' ⟨rfl, rfl⟩)
  go_ret
  exact ⟨rfl, (Ext.refl _).alloc _⟩
set_option maxRecDepth 100000 in
set_option maxHeartbeats 4000000 in
theorem head4 (D : FontD) (P : FontP) (w : World) (s1 : inB D.sum 4294967296 = true) (d1 : 1048576 ≤ D.design) (d2 : D.design ≤ 2147483647) (f0 : inB D.first 256 = false) :
    Calls Try.prog 32 #[fontV D P] w (Ret w (.bool false)) := by
  unfold fontV
  go_enter Try.func32, Try.ntmps32
  go_wp2_with (go_at_call 45; refine (in_any _ _ _).mono ?_; rintro e w' ⟨rfl, rfl⟩)
  go_ret
  exact ⟨rfl, (Ext.refl _).alloc _⟩
set_option maxRecDepth 100000 in
set_option maxHeartbeats 4000000 in
theorem head5 (D : FontD) (P : FontP) (w : World) (s1 : inB D.sum 4294967296 = true) (d1 : 1048576 ≤ D.design) (d2 : D.design ≤ 2147483647) (f0 : inB D.first 256 = true) (_ : 0 ≤ D.first) (_ : D.first < 256) (c1 : (D.nc : Int) < 1) :
    Calls Try.prog 32 #[fontV D P] w (Ret w (.bool false)) := by
  unfold fontV
  go_enter Try.func32, Try.ntmps32
  go_wp2_with (go_at_call 45; refine (in_any _ _ _).mono ?_; rintro e w' ⟨rfl, rfl⟩)
  go_ret
  exact ⟨rfl, (Ext.refl _).alloc _⟩
set_option maxRecDepth 100000 in
set_option maxHeartbeats 4000000 in
theorem head6 (D : FontD) (P : FontP) (w : World) (s1 : inB D.sum 4294967296 = true) (d1 : 1048576 ≤ D.design) (d2 : D.design ≤ 2147483647) (f0 : inB D.first 256 = true) (f1 : 0 ≤ D.first) (f2 : D.first < 256) (c1 : ¬ (D.nc : Int) < 1) (c2 : 256 - D.first < (D.nc : Int)) :
    Calls Try.prog 32 #[fontV D P] w (Ret w (.bool false)) := by
  unfold fontV
  go_enter Try.func32, Try.ntmps32
  go_wp2_with (go_at_call 45; refine (in_any _ _ _).mono ?_; rintro e w' ⟨rfl, rfl⟩)
  go_ret
  exact ⟨rfl, (Ext.refl _).alloc _⟩
set_option maxRecDepth 100000 in
set_option maxHeartbeats 4000000 in
theorem head7 (D : FontD) (P : FontP) (w : World) (s1 : inB D.sum 4294967296 = true) (d1 : 1048576 ≤ D.design) (d2 : D.design ≤ 2147483647) (f0 : inB D.first 256 = true) (f1 : 0 ≤ D.first) (f2 : D.first < 256) (c1 : ¬ (D.nc : Int) < 1) (c2 : ¬ 256 - D.first < (D.nc : Int)) (n1 : 256 < (D.ns : Int)) :
    Calls Try.prog 32 #[fontV D P] w (Ret w (.bool false)) := by
  unfold fontV
  go_enter Try.func32, Try.ntmps32
  go_wp2_with (go_at_call 45; refine (in_any _ _ _).mono ?_; rintro e w' ⟨rfl, rfl⟩)
  go_ret
  exact ⟨rfl, (Ext.refl _).alloc _⟩
end L07
end Go.Proofs.Ytggedodfkjdegaa

