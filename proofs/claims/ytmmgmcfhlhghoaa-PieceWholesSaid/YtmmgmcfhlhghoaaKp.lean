/- Several rows of one's own beside each other, an iterator over a string, boxes: what stays while one of them turns. Any program. -/
import Derived.Test.YtmmgmcfhlhghoaaKeep
import Derived.Test.YtmmgmcfhlhghoaaBytes
import Derived.Lib.OthersKept
import Derived.OneCell
namespace Go.Proofs.Ytmmgmcfhlhghoaa
open Go.RowKit

/-- All blocks but one are as they were. -/
structure Kp (r : Option Nat) (w w' : World) : Prop where
  size : w.heap.size ≤ w'.heap.size
  same : ∀ b, b < w.heap.size → some b ≠ r → w'.heap[b]? = w.heap[b]?
theorem Kp.of_grown {r : Option Nat} {w w' : World} (h : w.grownBy w' r) : Kp r w w' := ⟨h.size, fun b hb hn => h.block b hb hn⟩
theorem Kp.of_ext {r : Option Nat} {w w' : World} (h : Ext w w') : Kp r w w' := ⟨h.size, fun b hb _ => h.block b hb⟩
theorem Kp.alloc {r : Option Nat} (w : World) (o : Obj) : Kp r w (w.alloc o) := Kp.of_ext ((Ext.refl w).alloc o)
theorem Kp.iter (w : World) (k : Nat) (s : ByteArray) (p : Nat) : Kp (some k) w (w.iterAt k s p) :=
  ⟨by rw [Lib.iterAt_size]; exact Nat.le_refl _, fun b _ hn => Lib.iterAt_other w k b s p (fun e => hn (by rw [e]))⟩
theorem Kp.set (w : World) (a : Addr) (u : Value) : Kp (some a.block) w (w.setCell a u) :=
  ⟨by simp [World.setCell], fun b _ hn => Below.heap_setCell w a u b (fun e => hn (by rw [e]))⟩
theorem Kp.sets : ∀ (vs : List Value) (b o : Nat) (w : World), Kp (some b) w (w.setCells b o vs)
  | [], _, _, w => ⟨Nat.le_refl _, fun _ _ _ => rfl⟩
  | v :: r, b, o, w => by
    have h1 := Kp.set w ⟨b, o, none⟩ v
    have h2 := Kp.sets r b (o + 1) (w.setCell ⟨b, o, none⟩ v)
    exact ⟨Nat.le_trans h1.size h2.size, fun c hc hn => (h2.same c (Nat.lt_of_lt_of_le hc h1.size) hn).trans (h1.same c hc hn)⟩
theorem Kp.blk {r : Option Nat} {w w' : World} {b : Nat} {t : TypeId} {cs : List Value} (k : Kp r w w') (h : Blk w b t cs) (hne : some b ≠ r) : Blk w' b t cs := (k.same b h.lt hne).trans h
theorem Kp.it {r : Option Nat} {w w' : World} {b : Nat} {o : Obj} (k : Kp r w w') (h : w.heap[b]? = some o) (hne : some b ≠ r) : w'.heap[b]? = some o :=
  (k.same b (Array.getElem?_eq_some_iff.1 h).1 hne).trans h
theorem Kp.row {r : Option Nat} {w w' : World} {base : Nat} {e : TypeId} {size n : Nat} {v : Value} {xs : List Value} (k : Kp r w w') (h : w.ownsRow base e size v n xs) (hne : ∀ g, v.ownBlock = some g → some g ≠ r) : w'.ownsRow base e size v n xs := by
  refine ⟨h.1, ?_⟩
  rcases h.2 with hn | ⟨g, cap, cur, rfl, hb, hgg, rest⟩
  · exact .inl hn
  · exact .inr ⟨g, cap, cur, rfl, hb, k.it hgg (hne g rfl), rest⟩
theorem row_lt {w : World} {base : Nat} {e : TypeId} {size n : Nat} {v : Value} {xs : List Value} (h : w.ownsRow base e size v n xs) {g : Nat} (hg : v.ownBlock = some g) : base ≤ g ∧ g < w.heap.size := h.lt g hg
/-- Extension, where only a block of one's own turns. -/
theorem ext_iter {a w : World} (h : Ext a w) {k : Nat} (hk : a.heap.size ≤ k) (s : ByteArray) (p : Nat) : Ext a (w.iterAt k s p) := Lib.below_iterAt h hk s p
/-- A store into a row of one's own. -/
theorem row_set {w : World} {base : Nat} {e : TypeId} {n g cap : Nat} {xs : List Value} (h : w.ownsRow base e 1 (.slice (some ⟨g, 0, none⟩) n cap) n xs) (i : Nat) (u : Value) :
    (w.setCell ⟨g, i, none⟩ u).ownsRow base e 1 (.slice (some ⟨g, 0, none⟩) n cap) n (xs.set i u) := by
  obtain ⟨h1, h2⟩ := h
  refine ⟨by simpa using h1, ?_⟩
  rcases h2 with ⟨h0, _⟩ | ⟨g', cap', cur, hv, hb, hgg, hc, hm, hs, ht⟩
  · cases h0
  · simp only [Value.slice.injEq, Option.some.injEq, Addr.mk.injEq, true_and, and_true] at hv
    obtain ⟨rfl, rfl⟩ := hv
    refine .inr ⟨g, cap, cur.setIfInBounds i u, rfl, hb, ?_, hc, hm, by simpa using hs, ?_⟩
    · simp [World.setCell, Array.getElem?_modify, hgg]
    · rw [Array.toList_setIfInBounds, List.take_set, ht]
theorem row_cell {w : World} {base : Nat} {e : TypeId} {n g cap : Nat} {xs : List Value} (h : w.ownsRow base e 1 (.slice (some ⟨g, 0, none⟩) n cap) n xs) {i : Nat} (hi : i < n) :
    w.cell? ⟨g, i, none⟩ = xs[i]? ∧ w.frozen? ⟨g, i, none⟩ = false := by
  obtain ⟨h1, h2⟩ := h
  rcases h2 with ⟨h0, _⟩ | ⟨g', cap', cur, hv, hb, hgg, hc, hm, hs, ht⟩
  · cases h0
  · simp only [Value.slice.injEq, Option.some.injEq, Addr.mk.injEq, true_and, and_true] at hv
    obtain ⟨rfl, rfl⟩ := hv
    refine ⟨?_, by simp [World.frozen?, hgg]⟩
    rw [← ht, List.getElem?_take, if_pos (by omega)]
    simp [World.cell?, hgg]
end Go.Proofs.Ytmmgmcfhlhghoaa

