/- All blocks but some are as they were. Any program. -/
import Derived.Test.YtaieafmgeheomaaDoorKp
namespace Go.Proofs.YtaieafmgeheomaaDoor
open Go.RowKit

/-- All blocks that are not in S are as they were; so are the streams. -/
structure But (S : Nat → Prop) (w w' : World) : Prop where
  os : w'.os = w.os
  tape : w'.tape = w.tape
  output : w'.output = w.output
  size : w.heap.size ≤ w'.heap.size
  block : ∀ k, k < w.heap.size → ¬ S k → w'.heap[k]? = w.heap[k]?
theorem But.refl (S : Nat → Prop) (w : World) : But S w w := ⟨rfl, rfl, rfl, Nat.le_refl _, fun _ _ _ => rfl⟩
theorem But.of_ext {S : Nat → Prop} {w w' : World} (h : Ext w w') : But S w w' := ⟨h.os, h.tape, h.output, h.size, fun k hk _ => h.block k hk⟩
theorem But.trans {S T : Nat → Prop} {a b c : World} (h : But S a b) (k : But T b c) (hT : ∀ i, T i → S i ∨ a.heap.size ≤ i) : But S a c :=
  ⟨k.os.trans h.os, k.tape.trans h.tape, k.output.trans h.output, Nat.le_trans h.size k.size, fun i hi hs => (k.block i (Nat.lt_of_lt_of_le hi h.size) (fun t => (hT i t).elim hs (fun g => by omega))).trans (h.block i hi hs)⟩
theorem But.mono {S T : Nat → Prop} {a b : World} (h : But S a b) (hT : ∀ i, i < a.heap.size → S i → T i) : But T a b := ⟨h.os, h.tape, h.output, h.size, fun k hk ht => h.block k hk (fun s => ht (hT k hk s))⟩
theorem But.of_grown {S : Nat → Prop} {w w' : World} {r : Option Nat} (h : w.grownBy w' r) (hS : ∀ g, r = some g → S g) : But S w w' :=
  ⟨h.os, h.tape, h.output, h.size, fun k hk hs => h.block k hk (fun e => hs (hS k e.symm))⟩
theorem But.set {S : Nat → Prop} (w : World) (p : Addr) (u : Value) (hS : S p.block) : But S w (w.setCell p u) :=
  ⟨rfl, rfl, rfl, by simp [World.setCell], fun k _ hs => Below.heap_setCell w p u k (fun e => hs (by rw [e]; exact hS))⟩
theorem But.drew {S : Nat → Prop} {a w : World} (h : But S a w) : But S a w.drew := ⟨h.os, h.tape, h.output, h.size, h.block⟩
theorem But.alloc {S : Nat → Prop} (w : World) (o : Obj) : But S w (w.alloc o) := But.of_ext ((Ext.refl w).alloc o)
/-- What lies elsewhere is as it was. -/
theorem But.ext {S : Nat → Prop} {W w w' : World} (h : But S w w') (x : Ext W w) (hS : ∀ k, S k → W.heap.size ≤ k) : Ext W w' :=
  Below.trans x ⟨h.os, h.tape, h.output, h.size, fun k hk => h.block k (Nat.lt_of_lt_of_le hk x.size) (fun s => by have := hS k s; omega)⟩
theorem But.ext_all {S : Nat → Prop} {w w' : World} (h : But S w w') (hS : ∀ k, S k → w.heap.size ≤ k) : Ext w w' := h.ext (Ext.refl w) hS
theorem But.blk {S : Nat → Prop} {w w' : World} {b : Nat} {t : TypeId} {cs : List Value} (k : But S w w') (h : Blk w b t cs) (hne : ¬ S b) : Blk w' b t cs := (k.block b h.lt hne).trans h
theorem But.at {S : Nat → Prop} {w w' : World} (h : But S w w') {p : Addr} {v : Value} (hc : w.cell? p = some v) (hp : ¬ S p.block) : w'.cell? p = some v := by
  rw [World.cell?_of_block (h.block p.block (World.block_lt_of_cell? w _ hc) hp)]; exact hc
theorem But.fz {S : Nat → Prop} {w w' : World} (h : But S w w') {p : Addr} {v : Value} (hc : w.cell? p = some v) (hf : w.frozen? p = false) (hp : ¬ S p.block) : w'.frozen? p = false := by
  rw [World.frozen?_of_block (h.block p.block (World.block_lt_of_cell? w _ hc) hp)]; exact hf
/-- Only one block. -/
abbrev Only (b : Nat) : Nat → Prop := fun k => k = b
theorem blk_not {w : World} {b c : Nat} {t u : TypeId} {cs ds : List Value} (h : Blk w b t cs) (k : Blk w c u ds) (ht : t ≠ u) : b ≠ c := by
  rintro rfl
  unfold Blk at h k
  rw [h] at k
  simp only [Option.some.injEq, Obj.cells.injEq] at k
  exact ht k.2.1
end Go.Proofs.YtaieafmgeheomaaDoor

