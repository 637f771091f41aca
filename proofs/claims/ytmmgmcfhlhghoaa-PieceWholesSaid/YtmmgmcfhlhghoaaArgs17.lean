/- Lists of lists of lists of numbers, and lists of breaks, as arguments. -/
import Derived.Test.YtmmgmcfhlhghoaaPie17
import Derived.Deep.Slices
namespace Go.Proofs.Ytmmgmcfhlhghoaa
open Go.ChangeShapes Go.WideShapes Go.ChangeAt Go.RowKit Go.Deep
namespace L17
open L16 (Brk SeenK flatK flatK_get flatK_length)

section
variable {H : Type} {enc : TypeId × Value → H} {W : World} {base : Nat}
set_option maxRecDepth 100000 in
theorem field_rowsI {fuel : Nat} {v : Value} {y : DataW H × List MemPlace} (h : DataW.trod enc Try.prog W 0 (fun _ => true) true fuel 27 [v] = some y) :
    ∃ (A : Option Addr) (l : List RI) (c : Nat), v = .slice A l.length c ∧ l.length ≤ c ∧ c ≤ maxLen ∧ (∀ x ∈ l, x.ns.length ≤ x.c) ∧ SeenR W A l := by
  rcases open_slice1 Try.underlying27 (by kernel_rfl) h with ⟨hcs, _⟩ | ⟨a, n, c, m, q, V, D, Pl, hcs, _, hl, hm, hmm, _, hx⟩
  · simp only [List.cons.injEq, and_true] at hcs
    exact ⟨none, [], 0, hcs, by simp, by simp, fun x h => by simp at h, SeenR.nil⟩
  · simp only [List.cons.injEq, and_true] at hcs
    simp at hmm
    have each : ∀ i : Fin n, ∃ x : RI, x.ns.length ≤ x.c ∧ W.cell? (a.add i.1) = some (riV x) ∧ SeenL W x.A x.ns := fun i => by
      obtain ⟨h0, t0⟩ := hx i.1 (by omega)
      obtain ⟨A', l', c', e1, g1, _, _, g4⟩ := field_intsL Try.underlying36 Try.underlying3 (by kernel_rfl) t0
      exact ⟨⟨l', A', c'⟩, g1, by rw [h0, e1]; rfl, g4⟩
    refine ⟨some a, List.ofFn fun i => Classical.choose (each i), c, by rw [List.length_ofFn]; exact hcs, by simpa using hl, hm, fun x hx => ?_, ⟨fun i x hx => ?_, fun x hx => ?_⟩⟩
    · rw [List.mem_ofFn] at hx
      obtain ⟨i, rfl⟩ := hx
      exact (Classical.choose_spec (each i)).1
    · rw [List.getElem?_map, Option.map_eq_some_iff] at hx
      obtain ⟨z, hz, rfl⟩ := hx
      obtain ⟨hi', rfl⟩ := List.getElem?_eq_some_iff.1 hz
      simp only [List.length_ofFn] at hi'
      simp only [List.getElem_ofFn]
      obtain ⟨_, h0, _⟩ := Classical.choose_spec (each ⟨i, hi'⟩)
      refine ⟨a, rfl, ?_, h0⟩
      have := block_lt_of_cell h0
      rwa [addr_block] at this
    · rw [List.mem_ofFn] at hx
      obtain ⟨i, rfl⟩ := hx
      exact (Classical.choose_spec (each i)).2.2
set_option maxRecDepth 100000 in
theorem field_rows3 {fuel : Nat} {v : Value} {y : DataW H × List MemPlace} (hf : DataW.trod enc Try.prog W 0 (fun _ => true) true fuel 34 [v] = some y) :
    ∃ (A : Option Addr) (l : List RR) (c : Nat), v = .slice A l.length c ∧ (∀ x ∈ l, ∀ y ∈ x.rs, y.ns.length ≤ y.c) ∧ SeenRR W A l := by
  rcases open_slice1 Try.underlying34 (by kernel_rfl) hf with ⟨hcs, _⟩ | ⟨a, n, c, m, q, V, D, Pl, hcs, _, hl, hm, hmm, _, hx⟩
  · simp only [List.cons.injEq, and_true] at hcs
    exact ⟨none, [], 0, hcs, fun x h => by simp at h, SeenRR.nil⟩
  · simp only [List.cons.injEq, and_true] at hcs
    simp at hmm
    have each : ∀ i : Fin n, ∃ x : RR, (∀ y ∈ x.rs, y.ns.length ≤ y.c) ∧ W.cell? (a.add i.1) = some (rrV x) ∧ SeenR W x.A x.rs := fun i => by
      obtain ⟨h0, t0⟩ := hx i.1 (by omega)
      obtain ⟨A', l', c', e1, _, _, g3, g4⟩ := field_rowsI t0
      exact ⟨⟨l', A', c'⟩, g3, by rw [h0, e1]; rfl, g4⟩
    refine ⟨some a, List.ofFn fun i => Classical.choose (each i), c, by rw [List.length_ofFn]; exact hcs, fun x hx => ?_, ⟨fun i x hx => ?_, fun x hx => ?_⟩⟩
    · rw [List.mem_ofFn] at hx
      obtain ⟨i, rfl⟩ := hx
      exact (Classical.choose_spec (each i)).1
    · rw [List.getElem?_map, Option.map_eq_some_iff] at hx
      obtain ⟨z, hz, rfl⟩ := hx
      obtain ⟨hi', rfl⟩ := List.getElem?_eq_some_iff.1 hz
      simp only [List.length_ofFn] at hi'
      simp only [List.getElem_ofFn]
      obtain ⟨_, h0, _⟩ := Classical.choose_spec (each ⟨i, hi'⟩)
      refine ⟨a, rfl, ?_, h0⟩
      have := block_lt_of_cell h0
      rwa [addr_block] at this
    · rw [List.mem_ofFn] at hx
      obtain ⟨i, rfl⟩ := hx
      exact (Classical.choose_spec (each i)).2.2
/-- Lines' pieces. -/
theorem arg_rows3 {v : Value} {d : DataW H} {p : List MemPlace}
    (hv : Value.okWide Try.prog W .any base 34 v) (h : DataW.Trod enc Try.prog W 0 (fun _ => true) true 34 v d p) :
    ∃ (A : Option Addr) (l : List RR) (c : Nat), v = .slice A l.length c ∧ (∀ x ∈ l, ∀ y ∈ x.rs, y.ns.length ≤ y.c) ∧ SeenRR W A l := by
  obtain ⟨a0, len0, cap0, rfl⟩ := okWide_slice Try.underlying34 hv
  obtain ⟨fuel, hf⟩ := h
  exact field_rows3 hf
set_option maxRecDepth 100000 in
/-- Breaks. -/
theorem arg_brks {v : Value} {d : DataW H} {p : List MemPlace}
    (hv : Value.okWide Try.prog W .any base 35 v) (h : DataW.Trod enc Try.prog W 0 (fun _ => true) true 35 v d p) :
    ∃ (A : Option Addr) (l : List Brk) (c : Nat), v = .slice A l.length c ∧ SeenK W A l := by
  obtain ⟨a0, len0, cap0, rfl⟩ := okWide_slice Try.underlying35 hv
  obtain ⟨fuel, hf⟩ := h
  obtain ⟨A, n, c, f, e, _, _, _, hs⟩ := field_rows Try.underlying35 Try.underlying24 (by kernel_rfl) (by kernel_rfl) (fun j f hj => by
    match j, hj with
    | 0, hj => cases hj; exact Try.underlying3
    | 1, hj => cases hj; exact Try.underlying3
    | 2, hj => cases hj; exact Try.underlying3) hf
  refine ⟨A, (List.range n).map fun i => (f i 0, f i 1, f i 2), c, by rw [e]; simp, fun j v hv => ?_⟩
  have hj := (List.getElem?_eq_some_iff.1 hv).1
  rw [flatK_length, List.length_map, List.length_range] at hj
  obtain ⟨i, r, rfl, hr⟩ : ∃ i r, j = i * 3 + r ∧ r < 3 := ⟨j / 3, j % 3, by omega, by omega⟩
  have hi : i < n := by omega
  have g := flatK_get ((List.range n).map fun i => (f i 0, f i 1, f i 2)) i (f i 0, f i 1, f i 2) (by simp [hi])
  obtain ⟨ad, ea, hb, hc⟩ := hs i hi r hr
  refine ⟨ad, ea, hb, hc.trans ?_⟩
  rcases (show r = 0 ∨ r = 1 ∨ r = 2 by omega) with rfl | rfl | rfl
  · exact g.1.symm.trans hv
  · exact g.2.1.symm.trans hv
  · exact g.2.2.symm.trans hv
end
end L17
end Go.Proofs.Ytmmgmcfhlhghoaa

