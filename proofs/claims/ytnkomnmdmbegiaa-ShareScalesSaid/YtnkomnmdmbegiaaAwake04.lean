/- What all statements of layer 4 begin with. -/
import Derived.Test.YtnkomnmdmbegiaaEnds04
namespace Go.Proofs.Ytnkomnmdmbegiaa
open Go.RowKit Go.Sort Go.Lib Go.Shelf
namespace L04

def at_ (l : List Int) (j : Nat) : Int := l.getD j 0
theorem Own.congr {w : World} {n : Nat} {f g : Nat → Int} {e : Ending} {w' : World} (h : Own w n f e w') (k : ∀ j, j < n → f j = g j) : Own w n g e w' := by
  obtain ⟨x, b, h1, h2, h3, h4⟩ := h
  exact ⟨x, b, h1, h2, h3, h4.congr k⟩
theorem seen_of (w : World) (l : List Int) (t : TypeId) (n : Nat) (hn : l.length = n) : SeenF (w.alloc (.cells (l.map (Value.int .i64)).toArray t)) (some ⟨w.heap.size, 0, none⟩) n (at_ l) := by
  subst hn; exact seen_lit w l t
theorem split_at (t : Int) (l v : List Int) (n : Nat) (A : Option Addr) (w : World) (hs : SeenF w A n (at_ l)) (h : MayP t n (at_ l)) (hv : ∀ j, j < n → partF t n (at_ l) j = at_ v j) :
    Calls Try.prog 9 #[.int .i64 t, .slice A n n] w (Own w n (at_ v)) :=
  (split_yes t A n n (at_ l) w hs h).mono fun _ _ k => k.congr hv
theorem ends_at (t : Int) (l v : List Int) (n : Nat) (A : Option Addr) (w : World) (hs : SeenF w A n (at_ l)) (h : MayP t n (at_ l)) (hv : ∀ j, j < n → endF t n (at_ l) j = at_ v j) :
    Calls Try.prog 11 #[.int .i64 t, .slice A n n] w (Own w n (at_ v)) :=
  (ends_yes t A n n (at_ l) w hs h).mono fun _ _ k => k.congr hv
theorem same_at (l : List Int) (n : Nat) (A B : Option Addr) (w : World) (hs : SeenF w A n (at_ l)) (ht : SeenF w B n (at_ l)) (hn : n ≤ 1000) :
    Calls Try.prog 13 #[.slice A n n, .slice B n n] w (Ret w (.bool true)) := by
  have h := same_any A B n n n n (at_ l) (at_ l) w hs ht (by omega)
  rwa [show sameB n n (at_ l) (at_ l) = true from decide_eq_true ⟨rfl, fun _ _ => rfl⟩] at h

set_option maxHeartbeats 4000000 in
theorem awake_any (w : World) : Calls Try.prog 8 #[] w (Ret w (.bool true)) := by
  go_enter Try.func8, Try.ntmps8
  go_wp2_with fail
  refine (split_at 10 [1, 1, 1] [4, 3, 3] 3 _ _ (seen_of w [1, 1, 1] 3 3 rfl) (by decide) (by decide)).mono ?_; rintro e w1 ⟨x1, b1, _, _, rfl, r1⟩
  have y1 : Ext w w1 := ((Ext.refl _).alloc _).trans x1
  clear x1
  go_wp2_with fail
  refine (ends_at 10 [1, 1, 1] [4, 7, 10] 3 _ _ (seen_of w1 [1, 1, 1] 3 3 rfl) (by decide) (by decide)).mono ?_; rintro e w2 ⟨x2, b2, _, _, rfl, r2⟩
  have z2 : Ext w1 w2 := ((Ext.refl _).alloc _).trans x2
  clear x2
  go_wp2_with fail
  refine (split_at 0 [0, 0] [0, 0] 2 _ _ (seen_of w2 [0, 0] 3 2 rfl) (by decide) (by decide)).mono ?_; rintro e w3 ⟨x3, b3, _, _, rfl, r3⟩
  have z3 : Ext w2 w3 := ((Ext.refl _).alloc _).trans x3
  clear x3
  go_wp2_with fail
  refine (split_no 1 _ 2 2 (at_ [0, 0]) _ (seen_of w3 [0, 0] 3 2 rfl) (by decide) (by decide)).mono ?_; rintro e w4 ⟨rfl, x4⟩
  have z4 : Ext w3 w4 := ((Ext.refl _).alloc _).trans x4
  clear x4
  go_wp2_with fail
  refine (split_no (-1) _ 1 1 (at_ [1]) _ (seen_of w4 [1] 3 1 rfl) (by decide) (by decide)).mono ?_; rintro e w5 ⟨rfl, x5⟩
  have z5 : Ext w4 w5 := ((Ext.refl _).alloc _).trans x5
  clear x5
  have q1 := ((((r1.ext z2).ext z3).ext z4).ext z5)
  have q2 := (((r2.ext z3).ext z4).ext z5)
  have q3 := ((r3.ext z4).ext z5)
  have y5 : Ext w w5 := (((y1.trans z2).trans z3).trans z4).trans z5
  clear r1 r2 r3 z2 z3 z4 z5 y1
  go_wp2_with fail
  refine (same_at [4, 3, 3] 3 _ _ _ ((q1.ext ((Ext.refl _).alloc _)).seen) (seen_of w5 [4, 3, 3] 3 3 rfl) (by decide)).mono ?_; rintro e w6 ⟨rfl, x6⟩
  have z6 : Ext w5 w6 := ((Ext.refl _).alloc _).trans x6
  clear x6
  go_wp2_with fail
  refine (same_at [4, 7, 10] 3 _ _ _ (((q2.ext z6).ext ((Ext.refl _).alloc _)).seen) (seen_of w6 [4, 7, 10] 3 3 rfl) (by decide)).mono ?_; rintro e w7 ⟨rfl, x7⟩
  have z7 : Ext w6 w7 := ((Ext.refl _).alloc _).trans x7
  clear x7
  go_wp2_with fail
  refine (same_at [0, 0] 2 _ _ _ ((((q3.ext z6).ext z7).ext ((Ext.refl _).alloc _)).seen) (seen_of w7 [0, 0] 3 2 rfl) (by decide)).mono ?_; rintro e w8 ⟨rfl, x8⟩
  have z8 : Ext w7 w8 := ((Ext.refl _).alloc _).trans x8
  clear x8
  go_wp2_with fail
  go_ret
  exact ⟨rfl, ((y5.trans z6).trans z7).trans z8⟩
end L04
end Go.Proofs.Ytnkomnmdmbegiaa

