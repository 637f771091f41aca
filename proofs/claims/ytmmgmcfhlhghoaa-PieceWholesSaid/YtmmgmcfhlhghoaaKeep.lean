/- A box that holds a slice of one's own, to which more is put: what stays. Any program. -/
import Derived.Test.YtmmgmcfhlhghoaaBytes
import Derived.RangeFuncBox
namespace Go.Proofs.Ytmmgmcfhlhghoaa
open Go.RowKit

/-- All blocks of cells but g, and but those of the type e, are as they were, and so is all that lies below N. -/
structure Keep (e : TypeId) (g N : Nat) (w w' : World) : Prop where
  size : w.heap.size ≤ w'.heap.size
  block : ∀ b cs t f, b ≠ g → t ≠ e → w.heap[b]? = some (.cells cs t f) → w'.heap[b]? = some (.cells cs t f)
  old : ∀ w0, w0.heap.size ≤ N → Ext w0 w → Ext w0 w'
theorem Keep.refl (e : TypeId) (g N : Nat) (w : World) : Keep e g N w w := ⟨Nat.le_refl _, fun _ _ _ _ _ _ h => h, fun _ _ h => h⟩
theorem Keep.trans {e : TypeId} {g N : Nat} {a b c : World} (h : Keep e g N a b) (k : Keep e g N b c) : Keep e g N a c :=
  ⟨Nat.le_trans h.size k.size, fun n cs t f hn ht hc => k.block n cs t f hn ht (h.block n cs t f hn ht hc), fun w0 l x => k.old w0 l (h.old w0 l x)⟩
theorem lt_of_block {w : World} {b : Nat} {o : Obj} (h : w.heap[b]? = some o) : b < w.heap.size := (Array.getElem?_eq_some_iff.1 h).1
theorem Keep.of_ext {e : TypeId} {g N : Nat} {a b : World} (x : Ext a b) : Keep e g N a b := ⟨x.size, fun n _ _ _ _ _ hc => (x.block n (lt_of_block hc)).trans hc, fun _ _ y => y.trans x⟩
theorem Keep.set {e : TypeId} {g N : Nat} (hg : N ≤ g) (w : World) (o : Nat) (u : Value) : Keep e g N w (w.setCell ⟨g, o, none⟩ u) := by
  refine ⟨Nat.le_of_eq (by simp [World.setCell]), fun n cs t f hn _ hc => ?_, fun w0 l x => x.setCell (by simp; omega) u⟩
  show (w.heap.modify g _)[n]? = _
  rw [Array.getElem?_modify, if_neg (by omega), hc]
theorem Keep.grown {e : TypeId} {g N size k : Nat} {w w' : World} {v : Value} {xs : List Value} (h : w.ownsRow N e size v k xs) (x : w.grownBy w' v.ownBlock) : Keep e g N w w' := by
  refine ⟨x.size, fun n cs t f _ ht hc => (x.block n (lt_of_block hc) fun e' => ?_).trans hc, fun w0 l y => Below.grown y x y.size fun k hk => Nat.le_trans l (h.lt k hk).1⟩
  rcases h.2 with ⟨rfl, _⟩ | ⟨b, cap, cur, rfl, _, hgb, _⟩
  · simp [Value.ownBlock] at e'
  · obtain rfl : n = b := by simpa [Value.ownBlock] using e'
    rw [hgb] at hc
    simp only [Option.some.injEq, Obj.cells.injEq] at hc
    exact ht hc.2.1.symm
theorem Keep.blk {e t : TypeId} {g N b : Nat} {w w' : World} {cs : List Value} (h : Keep e g N w w') (hb : Blk w b t cs) (hn : b ≠ g) (ht : t ≠ e) : Blk w' b t cs := h.block b _ t _ hn ht hb

/-- The box g holds a slice of bytes of one's own. -/
def BoxB (e t : TypeId) (w0 w : World) (g : Nat) (l : List UInt8) : Prop := ∃ v, Boxed w g t v ∧ OwnB e w0 w v l
theorem BoxB.ext {e t : TypeId} {w0 w w' : World} {g : Nat} {l : List UInt8} (h : BoxB e t w0 w g l) (x : Ext w w') : BoxB e t w0 w' g l := by
  obtain ⟨v, hb, ho⟩ := h
  exact ⟨v, (x.block g hb.lt).trans hb, ho.over x⟩
theorem BoxB.old {e t : TypeId} {w0 w : World} {g : Nat} {l : List UInt8} (h : BoxB e t w0 w g l) : Ext w0 w := by
  obtain ⟨v, _, ho⟩ := h
  exact ho.2
/-- What is put behind, and stored. -/
theorem BoxB.put {P : Program} {e t T ty : TypeId} {w0 w : World} {g : Nat} {m : List UInt8} {v : Value} (hb : Boxed w g t v) (ho : OwnB e w0 w v m) (hte : t ≠ e) (hg : w0.heap.size ≤ g)
    (ht : P.underlying T = some (.slice e)) (hz : (P.info? e).map (fun i => (i.zero, i.size, i.bytes)) = some (some (.int .u8 0), 1, 1)) (A : Option Addr) (l : List UInt8) (n c : Nat) (hx : SeenB w A l) (hn : n = l.length) (hm : m.length + l.length ≤ 1000000) :
    ∃ A' k' c' w', (Builtin.append_ #[T, T] ty #[v, .slice A n c]).run P w = .ok (.slice A' k' c') w' ∧ w'.cell? ⟨g, 0, none⟩ = some v ∧ w'.frozen? ⟨g, 0, none⟩ = false ∧
      BoxB e t w0 (w'.setCell ⟨g, 0, none⟩ (.slice A' k' c')) g (m ++ l) ∧ Keep e g w0.heap.size w (w'.setCell ⟨g, 0, none⟩ (.slice A' k' c')) := by
  obtain ⟨v', w', hr, ho', hgr⟩ := run_putB T ty e ht hz ho A l n c hx hn hm
  have hb' : Boxed w' g t v := hb.kept hgr (hb.not_row hte ho.1)
  obtain ⟨A', c', rfl, _, _⟩ := ho'.seen
  refine ⟨A', _, c', w', hr, hb'.cell, hb'.frozen, ⟨_, hb'.set _, ?_, ho'.2.setCell hg _⟩, (Keep.grown ho.1 hgr).trans (Keep.set hg w' 0 _)⟩
  exact ho'.1.kept (grownBy_setCell' w' g _) (.inr (hb'.not_row hte ho'.1).symm)
theorem Blk.lit (w : World) (b : Nat) (t : TypeId) (cs : Array Value) (h : b = w.heap.size) : Blk (w.alloc (.cells cs t)) b t cs.toList := by
  subst h
  exact Blk.new w t cs
theorem Boxed.lit (w : World) (b : Nat) (t : TypeId) (v : Value) (h : b = w.heap.size) : Boxed (w.alloc (.cells #[v] t)) b t v := by
  subst h
  exact Boxed.new w t v
theorem Boxed.ext {w w' : World} {b : Nat} {t : TypeId} {v : Value} (h : Boxed w b t v) (x : Ext w w') : Boxed w' b t v := (x.block b h.lt).trans h
end Go.Proofs.Ytmmgmcfhlhghoaa

