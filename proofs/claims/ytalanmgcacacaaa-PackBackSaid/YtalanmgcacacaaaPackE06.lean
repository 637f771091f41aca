/- Contracts of layer 6 (pack): Take. -/
import Derived.Test.YtalanmgcacacaaaPackD06
namespace Go.Proofs.Ytalanmgcacacaaa
open Go.RowKit
namespace L06

/-- A number, what is behind, and no error. -/
def GivesT (w : World) (n : Int) (l : List UInt8) (e : Ending) (w' : World) : Prop :=
  ∃ A c, e = .returned (.tuple #[.int .i64 n, .slice A l.length c, .int .i64 0]) ∧ SeenB w' A l ∧ Ext w w'

theorem take_no (A : Option Addr) (m c : Nat) (size : Int) (w : World) (h : (size < 1 ∨ 4 < size) ∨ ((1 ≤ size ∧ size ≤ 4) ∧ (m : Int) < size)) :
    Calls Try.prog 14 #[.slice A m c, .int .i64 size] w (Ret w (.tuple #[.int .i64 0, .slice none 0 0, .int .i64 60])) := by
  rcases h with h | ⟨⟨h1, h2⟩, h⟩
  · go_enter Try.func14, Try.ntmps14
    go_wp2_with (go_at_call 18; refine (may_no _ _ h).mono ?_; rintro e w1 ⟨rfl, rfl⟩)
    go_ret3
    exact ⟨rfl, (Ext.refl _).alloc _⟩
  · go_enter Try.func14, Try.ntmps14
    go_wp2_with (go_at_call 18; refine (may_yes _ _ h1 h2).mono ?_; rintro e w1 ⟨rfl, rfl⟩)
    go_ret3
    exact ⟨rfl, (Ext.refl _).alloc _⟩

set_option maxHeartbeats 2000000 in
theorem take_yes (A : Option Addr) (l : List UInt8) (c n z : Nat) (w : World) (hs : SeenB w A l) (hn : n = l.length) (hc : n ≤ c) (hl : l.length ≤ 100000) (h1 : 1 ≤ z) (h2 : z ≤ 4) (h3 : z ≤ n) :
    Calls Try.prog 14 #[.slice A n c, .int .i64 z] w (GivesT w (num (l.take z)) (l.drop z)) := by
  have HN := Lib.hid hn
  have d1 : decide ((n : Int) < (z : Int)) = false := by simp; omega
  clear hn
  go_enter Try.func14, Try.ntmps14
  go_wp2_with (go_at_call 18; refine (may_yes _ _ (by omega) (by omega)).mono ?_; rintro e w1 ⟨rfl, rfl⟩)
  have c0 : (w.alloc (.cells #[.slice A n c] 22)).cell? ⟨w.heap.size, 0, none⟩ = some (.slice A n c) := by simp
  refine (down_take _ z (w.heap.size + 1) w.heap.size n c A l (w.alloc (.cells #[.slice A n c] 22)) _ rfl HN.out (by simp [go_sem]) (by simp [go_sem]) c0 (hs.ext ((Ext.refl _).alloc _)) ((Ext.refl _).alloc _) (by simp) h2 (by rw [← HN.out]; exact h3)).mono ?_
  rintro e w3 ⟨rfl, hn3, x3⟩
  have hb3 := x3.at c0
  have x3' : Ext w w3 := ((Ext.refl _).alloc _).trans x3
  have hs3 := hs.ext x3'
  have hcut := hs3.cut (k := z) (cap := c) (by rw [← HN.out]; exact h3) (by rw [← HN.out]; exact hc)
  clear hs c0 x3
  generalize w.heap.size = bw at *
  generalize num (l.take z) = N at *
  unfold cutA at hcut
  by_cases hcz : c = z
  · rw [if_pos hcz] at hcut
    subst hcz
    go_wp2_with fail
    go_region_held3 (fun w' => w'.cell? ⟨bw, 0, none⟩ = some (.slice A n c) ∧ w'.cell? ⟨bw + 1, 0, none⟩ = some (.int .i64 N) ∧ Ext w3 w')
      ((go_split_ands; first | (refine ⟨x1.at ?_, x1.at ?_, Ext.trans ?_ x1⟩ <;> with_reducible assumption) | (refine ⟨?_, ?_, ?_⟩ <;> first | with_reducible assumption | exact (Ext.refl _).drew | (simp only [World.cell?_drew]; with_reducible assumption))))
      ((go_at_call 23; go_split_ands; refine (clone_any _ (l.drop c) _ _ _ (hcut.ext (by assumption)) (by rw [List.length_drop, ← HN.out]; omega) (by simp; omega)).mono ?_; rintro e w1 ⟨A1, c1, rfl, s1, x1⟩))
    go_split_ands
    go_wp2_with fail
    go_ret3
    exact ⟨A1, c1, by simp, s1, x3'.trans (by assumption)⟩
  · rw [if_neg hcz] at hcut
    go_wp2_with fail
    go_region_held3 (fun w' => w'.cell? ⟨bw, 0, none⟩ = some (.slice A n c) ∧ w'.cell? ⟨bw + 1, 0, none⟩ = some (.int .i64 N) ∧ Ext w3 w')
      ((go_split_ands; first | (refine ⟨x1.at ?_, x1.at ?_, Ext.trans ?_ x1⟩ <;> with_reducible assumption) | (refine ⟨?_, ?_, ?_⟩ <;> first | with_reducible assumption | exact (Ext.refl _).drew | (simp only [World.cell?_drew]; with_reducible assumption))))
      ((go_at_call 23; go_split_ands; refine (clone_any _ (l.drop z) _ _ _ (hcut.ext (by assumption)) (by rw [List.length_drop, ← HN.out]) (by simp; omega)).mono ?_; rintro e w1 ⟨A1, c1, rfl, s1, x1⟩))
    go_split_ands
    go_wp2_with fail
    go_ret3
    exact ⟨A1, c1, by simp, s1, x3'.trans (by assumption)⟩
end L06
end Go.Proofs.Ytalanmgcacacaaa

