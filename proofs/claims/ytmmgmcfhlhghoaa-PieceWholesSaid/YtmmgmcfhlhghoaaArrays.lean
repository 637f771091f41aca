/- Arrays in variables: their cells as lists, what a call leaves of them. -/
import Derived.Test.YtmmgmcfhlhghoaaFrame
import Derived.Deep.MidRow
namespace Go.Proofs.Ytmmgmcfhlhghoaa
open Go.RowKit

theorem range_lit (w : World) (cs : List Value) (t : TypeId) : (w.alloc (.cells cs.toArray t)).rangeAt w.heap.size 0 cs := by
  intro j v hv
  rw [Nat.zero_add, World.cell?_alloc_at _ _ _ _ rfl]
  simpa using hv
theorem there_lit (w : World) (cs : List Value) (t : TypeId) (n : Nat) (hn : cs.length = n) : (w.alloc (.cells cs.toArray t)).there w.heap.size 0 n := by
  intro j hj
  have h : j < cs.length := by omega
  refine ⟨?_, ?_⟩
  · rw [range_lit w cs t j cs[j] (List.getElem?_eq_getElem h)]; rfl
  · simp
theorem Ext.range {a b : World} (x : Ext a b) {n o : Nat} {cs : List Value} (h : a.rangeAt n o cs) : b.rangeAt n o cs := fun j v hv => x.at (h j v hv)
theorem Ext.there {a b : World} (x : Ext a b) {n o k : Nat} (h : a.there n o k) : b.there n o k := fun j hj => by
  obtain ⟨h1, h2⟩ := h j hj
  obtain ⟨u, hu⟩ := Option.isSome_iff_exists.1 h1
  exact ⟨by rw [x.at hu]; rfl, x.fz hu h2⟩
theorem Ext.setCells {a : World} {n : Nat} : ∀ (vs : List Value) (o : Nat) {w : World}, Ext a w → a.heap.size ≤ n → Ext a (w.setCells n o vs)
  | [], _, _, h, _ => h
  | v :: r, o, _, h, k => by rw [World.setCells]; exact Ext.setCells r (o + 1) (h.setCell k v) k
theorem ext_drew {V w1 : World} (h : Ext V.drew w1) : Ext V w1 := ((Ext.refl _).drew).trans h
/-- The cells of a block of two that a region has made, behind a call. -/
theorem ext_new {V w1 : World} {a b : Value} {t : TypeId} (h : Ext (V.alloc (.cells #[a, b] t)) w1) :
    w1.cell? ⟨V.heap.size, 0, none⟩ = some a ∧ w1.cell? ⟨V.heap.size, 1, none⟩ = some b ∧ w1.frozen? ⟨V.heap.size, 0, none⟩ = false ∧ w1.frozen? ⟨V.heap.size, 1, none⟩ = false :=
  ⟨h.at (by simp), h.at (by simp), h.fz (v := a) (by simp) (by simp), h.fz (v := b) (by simp) (by simp)⟩
theorem ext_carry {V W : World} {n : Nat} {a b : Value} (x : Ext V W) (h : V.cell? ⟨n, 0, none⟩ = some a ∧ V.cell? ⟨n, 1, none⟩ = some b ∧ V.frozen? ⟨n, 0, none⟩ = false ∧ V.frozen? ⟨n, 1, none⟩ = false) :
    W.cell? ⟨n, 0, none⟩ = some a ∧ W.cell? ⟨n, 1, none⟩ = some b ∧ W.frozen? ⟨n, 0, none⟩ = false ∧ W.frozen? ⟨n, 1, none⟩ = false :=
  ⟨x.at h.1, x.at h.2.1, x.fz h.1 h.2.2.1, x.fz h.2.1 h.2.2.2⟩
theorem stored2 {V : World} {n : Nat} {a b u l : Value} (h0 : V.cell? ⟨n, 0, none⟩ = some a) (h1 : V.cell? ⟨n, 1, none⟩ = some b) :
    ((V.setCell ⟨n, 0, none⟩ u).setCell ⟨n, 1, none⟩ l).cell? ⟨n, 0, none⟩ = some u ∧ ((V.setCell ⟨n, 0, none⟩ u).setCell ⟨n, 1, none⟩ l).cell? ⟨n, 1, none⟩ = some l :=
  ⟨(World.cell?_setCell_other _ _ _ _ (by simp)).trans (World.cell?_setCell_same _ _ _ h0), World.cell?_setCell_same _ _ _ ((World.cell?_setCell_other _ _ _ _ (by simp)).trans h1)⟩
/-- The block of a list that a region has made, behind a call. -/
theorem ext_there {V w1 : World} {cs : List Value} {t : TypeId} (h : Ext (V.alloc (.cells cs.toArray t)) w1) : w1.there V.heap.size 0 cs.length := h.there (there_lit V cs t _ rfl)
end Go.Proofs.Ytmmgmcfhlhghoaa

