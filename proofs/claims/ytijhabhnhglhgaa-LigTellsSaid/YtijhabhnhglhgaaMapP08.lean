/- A map of integers to pairs of integers, by a function. -/
import Derived.Test.YtijhabhnhglhgaaChg
import Derived.Maps.Own
import Derived.Maps.OwnOps
import Derived.Maps.OwnSet
import Derived.Maps.Views
namespace Go.Proofs.Ytijhabhnhglhgaa
open Go.RowKit
namespace L08

/-- How a pair reads. -/
def pairElem : Value → Option (DataW Unit × List MemPlace)
  | .agg cs => match cs.toList with
    | [.int .i64 a, .int .i64 b] => some (.agg [.lit (.int .i64 a), .lit (.int .i64 b)], [])
    | _ => none
  | _ => none
theorem pairElem_mk (a b : Int) : pairElem (.agg #[.int .i64 a, .int .i64 b]) = some (.agg [.lit (.int .i64 a), .lit (.int .i64 b)], []) := rfl
theorem pairElem_inv {v : Value} {a b : Int} {ps : List MemPlace} (h : pairElem v = some (.agg [.lit (.int .i64 a), .lit (.int .i64 b)], ps)) : v = .agg #[.int .i64 a, .int .i64 b] := by
  unfold pairElem at h
  split at h
  · rename_i cs
    split at h
    · rename_i x y e
      simp at h
      obtain ⟨⟨rfl, rfl⟩, _⟩ := h
      obtain ⟨l⟩ := cs
      simp at e
      subst e
      rfl
    · cases h
  · cases h
theorem keyed : Maps.Keyed Try.prog 3 := Maps.int_keyed Try.underlying3
theorem zero_pair (w : World) : (zeroValue 103).run Try.prog w = .ok (.agg #[.int .i64 0, .int .i64 0]) w := by kernel_rfl
/-- A number of 64 bits. -/
theorem wf_wide {x : Int} (h : -9223372036854775808 ≤ x ∧ x ≤ 9223372036854775807) : (Lit.int .i64 x).wf = true := by
  simp only [Lit.wf, IntKind.min, IntKind.max, IntKind.signed, IntKind.bits, Bool.and_eq_true, decide_eq_true_eq, if_true]
  omega

/-- Block b is a map of at most n entries, and it is m. -/
def MapF (w : World) (b n : Nat) (m : Int → Option (Int × Int)) : Prop :=
  ∃ D, w.ownsMap Try.prog 3 pairElem b n D ∧ ∀ x, Maps.has D (.int .i64 x) = (m x).isSome ∧ ∀ p, m x = some p → ∀ z, D.atKey (.int .i64 x) z = .agg [.lit (.int .i64 p.1), .lit (.int .i64 p.2)]

theorem MapF.lt {w : World} {b n : Nat} {m : Int → Option (Int × Int)} (h : MapF w b n m) : b < w.heap.size := by
  obtain ⟨D, h, _⟩ := h
  exact h.lt
theorem MapF.block {w w' : World} {b n : Nat} {m : Int → Option (Int × Int)} (h : MapF w b n m) (e : w'.heap[b]? = w.heap[b]?) : MapF w' b n m := by
  obtain ⟨D, ⟨es, c, hb, r⟩, q⟩ := h
  exact ⟨D, ⟨es, c, e.trans hb, r⟩, q⟩
theorem MapF.ext {w w' : World} {b n : Nat} {m : Int → Option (Int × Int)} (h : MapF w b n m) (x : Ext w w') : MapF w' b n m := h.block (x.block b h.lt)
theorem MapF.alloc {w : World} {b n : Nat} {m : Int → Option (Int × Int)} (h : MapF w b n m) (o : Obj) : MapF (w.alloc o) b n m := h.ext ((Ext.refl _).alloc o)
theorem MapF.kept {w w' : World} {b n : Nat} {row : Option Nat} {m : Int → Option (Int × Int)} (h : MapF w b n m) (g : w.grownBy w' row) (hne : some b ≠ row) : MapF w' b n m := h.block (g.block b h.lt hne)
theorem MapF.setCell {w : World} {b n : Nat} {m : Int → Option (Int × Int)} (h : MapF w b n m) {a : Addr} (ha : a.block ≠ b) (u : Value) : MapF (w.setCell a u) b n m := by
  refine h.block ?_
  show (w.heap.modify a.block _)[b]? = _
  rw [Array.getElem?_modify, if_neg ha]
theorem MapF.mono {w : World} {b n n' : Nat} {m : Int → Option (Int × Int)} (h : MapF w b n m) (hn : n ≤ n') : MapF w b n' m := by
  obtain ⟨D, h, q⟩ := h
  exact ⟨D, h.mono hn, q⟩
theorem MapF.made (w : World) : MapF (w.alloc (.map #[] 0)) w.heap.size 0 (fun _ => none) :=
  ⟨.map [], World.ownsMap_made _ _ _ _, fun x => ⟨rfl, fun p h => by cases h⟩⟩
/-- It is no cells. -/
theorem MapF.not_cell {w : World} {b n : Nat} {m : Int → Option (Int × Int)} (h : MapF w b n m) {p : Addr} {v : Value} (hc : w.cell? p = some v) : p.block ≠ b := by
  obtain ⟨D, ⟨es, c, hb, _⟩, _⟩ := h
  rintro rfl
  unfold World.cell? at hc
  rw [hb] at hc
  cases hc
theorem MapF.not_block {w : World} {b n k : Nat} {m : Int → Option (Int × Int)} (h : MapF w b n m) {cs : Array Value} {t : TypeId} {f : Nat × Nat} (hc : w.heap[k]? = some (.cells cs t f)) : k ≠ b := by
  obtain ⟨D, ⟨es, c, hb, _⟩, _⟩ := h
  rintro rfl
  rw [hb] at hc
  cases hc

/-- What is looked up. -/
def pairOf (m : Int → Option (Int × Int)) (x : Int) : Int × Int := (m x).getD (0, 0)
theorem MapF.look {w : World} {b n : Nat} {m : Int → Option (Int × Int)} (h : MapF w b n m) (x : Int) (hx : -9223372036854775808 ≤ x ∧ x ≤ 9223372036854775807) :
    (Instr.lookup 62 (.map (some b)) (.int .i64 x) true).run Try.prog w = .ok (.tuple #[.agg #[.int .i64 (pairOf m x).1, .int .i64 (pairOf m x).2], .bool (m x).isSome]) w := by
  obtain ⟨D, ho, q⟩ := h
  obtain ⟨q1, q2⟩ := q x
  obtain ⟨v, ps, hr, hv⟩ := ho.look_ok keyed Try.underlying62 (zero_pair w) (pairElem_mk 0 0) (Maps.keyOf_int_mk Try.underlying3 (wf_wide hx))
  rw [hr, q1]
  have e : v = .agg #[.int .i64 (pairOf m x).1, .int .i64 (pairOf m x).2] := by
    refine pairElem_inv (ps := ps) ?_
    rw [hv]
    unfold pairOf
    cases hm : m x with
    | none =>
      rw [hm] at q1
      rw [Maps.atKey_of_not_has q1]
      rfl
    | some p => rw [q2 p hm]; rfl
  rw [e]
/-- What is stored. -/
theorem MapF.store {w : World} {b n : Nat} {m : Int → Option (Int × Int)} (h : MapF w b n m) (hn : n < maxLen) (x : Int) (hx : -9223372036854775808 ≤ x ∧ x ≤ 9223372036854775807) (p : Int × Int) :
    ∃ w', (Instr.mapUpdate 62 (.map (some b)) (.int .i64 x) (.agg #[.int .i64 p.1, .int .i64 p.2])).run Try.prog w = .ok () w' ∧ MapF w' b (n + 1) (fun y => if y = x then some p else m y) ∧ w.grownBy w' (some b) := by
  obtain ⟨D, ho, q⟩ := h
  have hD : Maps.IsMap D := ho.isMap
  obtain ⟨w', hr, ho', hg⟩ := ho.update keyed Try.underlying62 hn (Maps.keyOf_int_mk Try.underlying3 (wf_wide hx)) (pairElem_mk p.1 p.2)
  have hk : WideAt.IsKeyLit (.int .i64 x) := trivial
  refine ⟨w', hr, ⟨_, ho', fun y => ?_⟩, hg⟩
  by_cases e : y = x
  · subst e
    simp only [if_true]
    exact ⟨Maps.has_put_same hD hk _, fun p' e' z => by cases e'; exact Maps.atKey_put_same hD hk _ _⟩
  · simp only [if_neg e]
    have hne : (Lit.int .i64 y) ≠ Lit.int .i64 x := fun h => e (by cases h; rfl)
    rw [Maps.has_put_other hne]
    exact ⟨(q y).1, fun p' e' z => by rw [Maps.atKey_put_other hne]; exact (q y).2 p' e' z⟩
/-- A store into the map changes no cell. -/
theorem Chg.map {T : Addr → Prop} {N b n : Nat} {w w' : World} {m : Int → Option (Int × Int)} (h : MapF w b n m) (g : w.grownBy w' (some b)) (hN : N ≤ b) : Chg T N w w' := by
  refine ⟨g.size, fun p v _ hc => ?_, fun p v _ hc hf => ?_, fun k cs t f _ hc => ?_, fun w0 l x => ?_⟩
  · rw [(cell_of_block (g.block p.block (World.block_lt_of_cell? w _ hc) (fun e => h.not_cell hc (by cases e; rfl)))).1]; exact hc
  · rw [(cell_of_block (g.block p.block (World.block_lt_of_cell? w _ hc) (fun e => h.not_cell hc (by cases e; rfl)))).2]; exact hf
  · exact (g.block k (Array.getElem?_eq_some_iff.1 hc).1 (fun e => h.not_block hc (by cases e; rfl))).trans hc
  · exact Below.grown x g x.size (fun k e => by cases e; omega)
end L08
end Go.Proofs.Ytijhabhnhglhgaa

