/- A slice that reads as a list. -/
import Derived.Test.YtljlafihifpnkaaFrame
namespace Go.Proofs.Ytljlafihifpnkaa
open Go.ChangeShapes Go.WideShapes Go.ChangeAt Go.RowKit

theorem addr_block (a : Addr) (n : Nat) : (a.add n).block = a.block := by unfold Addr.add; split <;> rfl
theorem addr_add (a : Addr) (i j : Nat) : (a.add i).add j = a.add (i + j) := by
  unfold Addr.add
  by_cases hi : i = 0 <;> by_cases hj : j = 0 <;> simp [hi, hj, Nat.add_assoc]

/-- A slice from address A on, whose elements are one cell each, reads as the values xs, and they lie below block B. -/
def Seen (B : Nat) (w : World) (A : Option Addr) (xs : List Value) : Prop :=
  ∀ k v, xs[k]? = some v → ∃ ad, A = some ad ∧ ad.block < B ∧ w.cell? (ad.add k) = some v

theorem Seen.nil {B : Nat} {w : World} {A : Option Addr} : Seen B w A [] := fun k v h => by simp at h
theorem Seen.get {B : Nat} {w : World} {A : Option Addr} {xs : List Value} (h : Seen B w A xs) {k : Nat} (hk : k < xs.length) :
    ∃ ad, A = some ad ∧ ad.block < B ∧ w.cell? (ad.add k) = some xs[k] := h k _ (List.getElem?_eq_getElem hk)
theorem Seen.mono {B B' : Nat} {w : World} {A : Option Addr} {xs : List Value} (h : Seen B w A xs) (hB : B ≤ B') : Seen B' w A xs :=
  fun k v hv => by obtain ⟨ad, e, hb, hc⟩ := h k v hv; exact ⟨ad, e, by omega, hc⟩
theorem Seen.below {B : Nat} {w w' : World} {A : Option Addr} {xs : List Value} (h : Seen B w A xs) (hb : Below B w w') : Seen B w' A xs :=
  fun k v hv => by
    obtain ⟨ad, e, hl, hc⟩ := h k v hv
    exact ⟨ad, e, hl, (hb.cell (by rw [addr_block]; exact hl)).trans hc⟩
theorem Seen.ext {w w' : World} {A : Option Addr} {xs : List Value} (h : Seen w.heap.size w A xs) (hb : Ext w w') : Seen w'.heap.size w' A xs :=
  (h.below hb).mono hb.size

/-- What the form says of a slice of integers that came in. -/
theorem seen_ints {H : Type} {enc : TypeId × Value → H} {P : Program} {W : World} {base : Nat} {t e : TypeId} {k : IntKind} {v : Value} {d : DataW H} {p : List MemPlace}
    (ht : P.underlying t = some (.slice e)) (he : P.underlying e = some (.int k)) (hc : P.cellsOf e = 1)
    (hv : Value.okWide P W .any base t v) (h : DataW.Trod enc P W 0 (fun _ => true) true t v d p) :
    ∃ (A : Option Addr) (l : List Int) (c : Nat), v = .slice A l.length c ∧ l.length ≤ c ∧ c ≤ maxLen ∧ (∀ n ∈ l, (Lit.int k n).wf = true) ∧ Seen W.heap.size W A (l.map (.int k)) := by
  obtain ⟨a0, len0, cap0, rfl⟩ := okWide_slice ht hv
  obtain ⟨fuel, hf⟩ := h
  rcases open_ints ht he hc hf with ⟨hcs, _⟩ | ⟨x, n, c, zs, hcs, _, hl, hm, hz, hx, hcell, hwz⟩
  · simp [Value.cells] at hcs
    obtain ⟨rfl, rfl, rfl⟩ := hcs
    exact ⟨none, [], 0, rfl, by simp, by simp, by simp, Seen.nil⟩
  · simp [Value.cells] at hcs
    obtain ⟨rfl, rfl, rfl⟩ := hcs
    simp at hz
    have hlen : (zs.take len0).length = len0 := by simp; omega
    refine ⟨_, zs.take len0, cap0, by rw [hlen], by omega, hm, fun n hn => hwz n (List.mem_of_mem_take hn), ?_⟩
    intro k' v' hv'
    simp only [List.getElem?_map, Option.map_eq_some_iff] at hv'
    obtain ⟨z, hz', rfl⟩ := hv'
    have hk : k' < len0 := by
      have := (List.getElem?_eq_some_iff.1 hz').1
      rw [hlen] at this; exact this
    have h1 := hcell k' (by omega)
    refine ⟨x, rfl, ?_, ?_⟩
    · have := block_lt_of_cell h1
      rwa [addr_block] at this
    · rw [h1]
      have : zs[k']? = some z := by rw [← hz', List.getElem?_take, if_pos hk]
      simp [List.getD, this]

end Go.Proofs.Ytljlafihifpnkaa
