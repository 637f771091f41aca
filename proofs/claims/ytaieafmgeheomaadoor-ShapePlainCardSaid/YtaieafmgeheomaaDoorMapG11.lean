/- Maps with keys of whatever kind, by a function of the key. Any program. -/
import Derived.Test.YtaieafmgeheomaaDoorKp
import Derived.Test.YtaieafmgeheomaaDoorSlices
import Derived.Maps.Own
import Derived.Maps.OwnOps
import Derived.Maps.OwnSet
import Derived.Maps.Views
import Derived.DeepKeys4
namespace Go.Proofs.YtaieafmgeheomaaDoor
open Go.RowKit
namespace L11

section
variable {P : Program} {K : TypeId} {R : Value → Option (DataW Unit × List MemPlace)}
/-- Block b is a map of at most n entries, and it is m. -/
def MapG (P : Program) (K : TypeId) (R : Value → Option (DataW Unit × List MemPlace)) (w : World) (b n : Nat) (m : Value → Option (DataW Unit)) : Prop :=
  ∃ D, w.ownsMap P K R b n D ∧ ∀ x l, keyOf P K x = some l → Maps.has D l = (m x).isSome ∧ ∀ d, m x = some d → ∀ z, D.atKey l z = d
theorem MapG.lt {w : World} {b n : Nat} {m : Value → Option (DataW Unit)} (h : MapG P K R w b n m) : b < w.heap.size := by
  obtain ⟨D, h, _⟩ := h
  exact h.lt
theorem MapG.block {w w' : World} {b n : Nat} {m : Value → Option (DataW Unit)} (h : MapG P K R w b n m) (e : w'.heap[b]? = w.heap[b]?) : MapG P K R w' b n m := by
  obtain ⟨D, ⟨es, c, hb, r⟩, q⟩ := h
  exact ⟨D, ⟨es, c, e.trans hb, r⟩, q⟩
theorem MapG.congr {w : World} {b n : Nat} {m m' : Value → Option (DataW Unit)} (h : MapG P K R w b n m) (e : ∀ x l, keyOf P K x = some l → m' x = m x) : MapG P K R w b n m' := by
  obtain ⟨D, h, q⟩ := h
  exact ⟨D, h, fun x l hx => by rw [e x l hx]; exact q x l hx⟩
theorem MapG.mono {w : World} {b n n' : Nat} {m : Value → Option (DataW Unit)} (h : MapG P K R w b n m) (hn : n ≤ n') : MapG P K R w b n' m := by
  obtain ⟨D, h, q⟩ := h
  exact ⟨D, h.mono hn, q⟩
theorem MapG.made (w : World) : MapG P K R (w.alloc (.map #[] 0)) w.heap.size 0 (fun _ => none) :=
  ⟨.map [], World.ownsMap_made _ _ _ _, fun x l _ => ⟨rfl, fun p h => by cases h⟩⟩
theorem MapG.not_block {w : World} {b n k : Nat} {m : Value → Option (DataW Unit)} (h : MapG P K R w b n m) {cs : Array Value} {t : TypeId} {f : Nat × Nat} (hc : w.heap[k]? = some (.cells cs t f)) : k ≠ b := by
  obtain ⟨D, ⟨es, c, hb, _⟩, _⟩ := h
  rintro rfl
  rw [hb] at hc
  cases hc
/-- What is looked up, and whether it is there. -/
theorem MapG.look {w : World} {b n : Nat} {m : Value → Option (DataW Unit)} (h : MapG P K R w b n m) (law : Maps.Keyed P K) {t e : TypeId} (ht : P.underlying t = some (.map K e)) {z : Value} (hz : (zeroValue e).run P w = .ok z w) {zd : DataW Unit} {zp : List MemPlace}
    (hzd : R z = some (zd, zp)) {x : Value} {l : Lit} (hx : keyOf P K x = some l) : ∃ v ps, (Instr.lookup t (.map (some b)) x true).run P w = .ok (.tuple #[v, .bool (m x).isSome]) w ∧ R v = some ((m x).getD zd, ps) := by
  obtain ⟨D, ho, q⟩ := h
  obtain ⟨q1, q2⟩ := q x l hx
  obtain ⟨v, ps, hr, hv⟩ := ho.look_ok law ht hz hzd hx
  refine ⟨v, ps, by rw [hr, q1], ?_⟩
  rw [hv]
  cases hm : m x with
  | none =>
    rw [hm] at q1
    rw [Maps.atKey_of_not_has q1]
    rfl
  | some p => rw [q2 p hm]; rfl
theorem MapG.look1 {w : World} {b n : Nat} {m : Value → Option (DataW Unit)} (h : MapG P K R w b n m) (law : Maps.Keyed P K) {t e : TypeId} (ht : P.underlying t = some (.map K e)) {z : Value} (hz : (zeroValue e).run P w = .ok z w) {zd : DataW Unit} {zp : List MemPlace}
    (hzd : R z = some (zd, zp)) {x : Value} {l : Lit} (hx : keyOf P K x = some l) : ∃ v ps, (Instr.lookup t (.map (some b)) x false).run P w = .ok v w ∧ R v = some ((m x).getD zd, ps) := by
  obtain ⟨D, ho, q⟩ := h
  obtain ⟨q1, q2⟩ := q x l hx
  obtain ⟨v, ps, hr, hv⟩ := ho.lookup law ht hz hzd hx
  refine ⟨v, ps, hr, ?_⟩
  rw [hv]
  cases hm : m x with
  | none =>
    rw [hm] at q1
    rw [Maps.atKey_of_not_has q1]
    rfl
  | some p => rw [q2 p hm]; rfl
open Classical in
/-- What is stored. -/
theorem MapG.store {w : World} {b n : Nat} {m : Value → Option (DataW Unit)} (h : MapG P K R w b n m) (law : Maps.Keyed P K) {t e : TypeId} (ht : P.underlying t = some (.map K e)) (hn : n < maxLen) {x : Value} {l : Lit} (hx : keyOf P K x = some l)
    {v : Value} {d : DataW Unit} {ps : List MemPlace} (hv : R v = some (d, ps)) :
    ∃ w', (Instr.mapUpdate t (.map (some b)) x v).run P w = .ok () w' ∧ MapG P K R w' b (n + 1) (fun y => if y = x then some d else m y) ∧ w.grownBy w' (some b) := by
  obtain ⟨D, ho, q⟩ := h
  have hD : Maps.IsMap D := ho.isMap
  obtain ⟨w', hr, ho', hg⟩ := ho.update law ht hn hx hv
  have hk : WideAt.IsKeyLit l := law.key hx
  refine ⟨w', hr, ⟨_, ho', fun y ly hy => ?_⟩, hg⟩
  by_cases e : y = x
  · subst e
    rw [hy] at hx
    cases hx
    simp only [if_true]
    exact ⟨Maps.has_put_same hD hk _, fun p' e' z => by cases e'; exact Maps.atKey_put_same hD hk _ _⟩
  · simp only [if_neg e]
    have hne : ly ≠ l := fun h => e (law.inj hy (by rw [h]; exact hx))
    rw [Maps.has_put_other hne]
    exact ⟨(q y ly hy).1, fun p' e' z => by rw [Maps.atKey_put_other hne]; exact (q y ly hy).2 p' e' z⟩
end
end L11
end Go.Proofs.YtaieafmgeheomaaDoor

