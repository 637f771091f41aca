/- Texts with numbers (patterns, exceptions), and lists of them, as arguments: what they read as. -/
import Derived.Test.YtmmgmcfhlhghoaaStructs
import Derived.Deep.SlicePairs
import Derived.OpenShut
namespace Go.Proofs.Ytmmgmcfhlhghoaa
open Go.ChangeShapes Go.WideShapes Go.ChangeAt Go.RowKit Go.Deep

/-- A text with numbers: a pattern, or an exception; and where the numbers lie. -/
structure WP where
  s : ByteArray
  ns : List Int
  A : Option Addr
  c : Nat
structure WP.Ok (x : WP) : Prop where
  room : x.ns.length ≤ x.c
  most : x.c ≤ maxLen
  size : x.s.size ≤ maxLen
  wide : ∀ n ∈ x.ns, -9223372036854775808 ≤ n ∧ n ≤ 9223372036854775807
/-- The value. -/
def wpV (x : WP) : Value := .agg #[.string x.s, .slice x.A x.ns.length x.c]
/-- Numbers that are seen. -/
def SeenL (w : World) (A : Option Addr) (l : List Int) : Prop := Seen w.heap.size w A (l.map (.int .i64))
theorem SeenL.ext {w w' : World} {A : Option Addr} {l : List Int} (h : SeenL w A l) (x : Ext w w') : SeenL w' A l := Seen.ext h x
theorem SeenL.nil {w : World} {A : Option Addr} : SeenL w A [] := Seen.nil
theorem SeenL.get {w : World} {A : Option Addr} {l : List Int} (h : SeenL w A l) {k : Nat} (hk : k < l.length) : ∃ ad, A = some ad ∧ w.cell? (ad.add k) = some (.int .i64 (l.getD k 0)) := by
  obtain ⟨ad, e, _, hc⟩ := Seen.get h (k := k) (by simpa using hk)
  exact ⟨ad, e, by rw [hc]; simp [List.getD, hk]⟩
theorem SeenL.fn {w : World} {A : Option Addr} {l : List Int} (h : SeenL w A l) : SeenF w A l.length (fun j => l.getD j 0) := Seen.fn h
/-- A list of them. -/
def SeenW (w : World) (A : Option Addr) (l : List WP) : Prop :=
  ∀ i x, l[i]? = some x → (∃ ad, A = some ad ∧ ad.block < w.heap.size ∧ w.cell? (ad.add (i * 2)) = some (.string x.s) ∧ w.cell? (ad.add (i * 2 + 1)) = some (.slice x.A x.ns.length x.c)) ∧ SeenL w x.A x.ns
theorem SeenW.ext {w w' : World} {A : Option Addr} {l : List WP} (h : SeenW w A l) (x : Ext w w') : SeenW w' A l := fun i y hy => by
  obtain ⟨⟨ad, e, hb, h0, h1⟩, h2⟩ := h i y hy
  exact ⟨⟨ad, e, x.grows _ hb, x.at h0, x.at h1⟩, h2.ext x⟩
theorem SeenW.nil {w : World} {A : Option Addr} : SeenW w A [] := fun i x h => by simp at h
theorem SeenW.get {w : World} {A : Option Addr} {l : List WP} (h : SeenW w A l) {k : Nat} (hk : k < l.length) :
    (∃ ad, A = some ad ∧ w.cell? (ad.add (k * 2)) = some (.string l[k].s) ∧ w.cell? ⟨(ad.add (k * 2)).block, (ad.add (k * 2)).off + 1, none⟩ = some (.slice l[k].A l[k].ns.length l[k].c)) ∧ SeenL w l[k].A l[k].ns := by
  obtain ⟨⟨ad, e, _, h0, h1⟩, h2⟩ := h k l[k] (List.getElem?_eq_getElem hk)
  rw [← addr_add] at h1
  exact ⟨⟨ad, e, h0, h1⟩, h2⟩
/-- The cells of one's own list. -/
def flatW (l : List WP) : List Value := l.flatMap fun x => [.string x.s, .slice x.A x.ns.length x.c]
theorem flatW_snoc (l : List WP) (x : WP) : flatW (l ++ [x]) = flatW l ++ [.string x.s, .slice x.A x.ns.length x.c] := by simp [flatW]
theorem flatW_append (l m : List WP) : flatW (l ++ m) = flatW l ++ flatW m := by simp [flatW]
theorem flatW_length (l : List WP) : (flatW l).length = l.length * 2 := by
  induction l with
  | nil => rfl
  | cons x r ih => simp only [flatW, List.flatMap_cons, List.length_append, List.length_cons] at *; simp [ih]; omega
theorem flatW_get : ∀ (l : List WP) (i : Nat) (x : WP), l[i]? = some x → (flatW l)[i * 2]? = some (.string x.s) ∧ (flatW l)[i * 2 + 1]? = some (.slice x.A x.ns.length x.c)
  | [], i, x, h => by simp at h
  | y :: r, 0, x, h => by simp at h; subst h; simp [flatW]
  | y :: r, i + 1, x, h => by
    have := flatW_get r i x (by simpa using h)
    have e : flatW (y :: r) = .string y.s :: .slice y.A y.ns.length y.c :: flatW r := rfl
    rw [e, show (i + 1) * 2 = i * 2 + 1 + 1 by omega]
    simpa using this
theorem flatW_one (l : List WP) : ∀ v ∈ flatW l, v.oneCell' = true := by
  intro v hv
  simp only [flatW, List.mem_flatMap, List.mem_cons, List.not_mem_nil, or_false] at hv
  obtain ⟨x, _, rfl | rfl⟩ := hv <;> rfl
theorem seenW_of {w : World} {A : Option Addr} {l : List WP} (h : Seen w.heap.size w A (flatW l)) (hi : ∀ x ∈ l, SeenL w x.A x.ns) : SeenW w A l := fun i x hx => by
  obtain ⟨g0, g1⟩ := flatW_get l i x hx
  obtain ⟨ad, rfl, hb, h0⟩ := h _ _ g0
  obtain ⟨ad', e, _, h1⟩ := h _ _ g1
  cases e
  exact ⟨⟨ad, rfl, hb, h0, h1⟩, hi x (List.mem_of_getElem? hx)⟩
theorem SeenW.flat {w : World} {A : Option Addr} {l : List WP} (h : SeenW w A l) : Seen w.heap.size w A (flatW l) := fun k v hv => by
  have hk : k < l.length * 2 := by have := (List.getElem?_eq_some_iff.1 hv).1; rwa [flatW_length] at this
  have hi : k / 2 < l.length := by omega
  obtain ⟨⟨ad, e, hb, h0, h1⟩, _⟩ := h (k / 2) _ (List.getElem?_eq_getElem hi)
  obtain ⟨g0, g1⟩ := flatW_get l (k / 2) _ (List.getElem?_eq_getElem hi)
  refine ⟨ad, e, hb, ?_⟩
  rcases Nat.mod_two_eq_zero_or_one k with hm | hm
  · rw [show k / 2 * 2 = k by omega] at g0 h0
    rw [h0, ← hv, g0]
  · rw [show k / 2 * 2 + 1 = k by omega] at g1 h1
    rw [h1, ← hv, g1]
theorem SeenW.inner {w : World} {A : Option Addr} {l : List WP} (h : SeenW w A l) : ∀ x ∈ l, SeenL w x.A x.ns := fun x hx => by
  obtain ⟨i, hi⟩ := List.getElem?_of_mem hx
  exact (h i x hi).2
/-- Patterns: two lists. -/
structure PatsD where
  l : List WP
  m : List WP
structure PatsP where
  x : Option Addr
  c : Nat
  y : Option Addr
  d : Nat
def patsV (D : PatsD) (P : PatsP) : Value := .agg #[.slice P.x D.l.length P.c, .slice P.y D.m.length P.d]
structure PatsOk (D : PatsD) (P : PatsP) : Prop where
  l : D.l.length ≤ P.c ∧ P.c ≤ maxLen
  m : D.m.length ≤ P.d ∧ P.d ≤ maxLen
  li : ∀ x ∈ D.l, x.Ok
  mi : ∀ x ∈ D.m, x.Ok
structure SeenPats (w : World) (D : PatsD) (P : PatsP) : Prop where
  l : SeenW w P.x D.l
  m : SeenW w P.y D.m
theorem SeenPats.ext {w w' : World} {D : PatsD} {P : PatsP} (h : SeenPats w D P) (x : Ext w w') : SeenPats w' D P := ⟨h.l.ext x, h.m.ext x⟩

section
variable {H : Type} {enc : TypeId × Value → H} {P : Program} {W : World} {base : Nat}
theorem field_intsL {t e : TypeId} {fuel : Nat} {v : Value} {y : DataW H × List MemPlace} (ht : P.underlying t = some (.slice e)) (he : P.underlying e = some (.int .i64)) (hc : P.cellsOf e = 1)
    (h : DataW.trod enc P W 0 (fun _ => true) true fuel t [v] = some y) :
    ∃ (A : Option Addr) (l : List Int) (c : Nat), v = .slice A l.length c ∧ l.length ≤ c ∧ c ≤ maxLen ∧ (∀ n ∈ l, -9223372036854775808 ≤ n ∧ n ≤ 9223372036854775807) ∧ SeenL W A l := by
  obtain ⟨A, n, c, f, rfl, h1, h2, h3, h4⟩ := field_ints ht he hc h
  refine ⟨A, (List.range n).map f, c, by simp, by simpa using h1, h2, fun z hz => ?_, fun k v hv => ?_⟩
  · simp only [List.mem_map] at hz
    obtain ⟨j, _, rfl⟩ := hz
    exact h3 j
  · simp only [List.map_map, List.getElem?_map, Option.map_eq_some_iff] at hv
    obtain ⟨j, hj, rfl⟩ := hv
    obtain ⟨h5, rfl⟩ := List.getElem?_eq_some_iff.1 hj
    simp only [List.length_range] at h5
    simp only [List.getElem_range, Function.comp]
    exact h4 k h5
theorem field_texts {t e : TypeId} {f0 f1 : Field} {ei : TypeId} {fuel : Nat} {v : Value} {y : DataW H × List MemPlace} (ht : P.underlying t = some (.slice e)) (he : P.underlying e = some (.struct #[f0, f1])) (ce : P.cellsOf e = 2) (o0 : f0.offset = 0) (o1 : f1.offset = 1)
    (c0 : P.cellsOf f0.type = 1) (c1 : P.cellsOf f1.type = 1) (hs : P.underlying f0.type = some .string) (hi : P.underlying f1.type = some (.slice ei)) (hei : P.underlying ei = some (.int .i64)) (cei : P.cellsOf ei = 1)
    (h : DataW.trod enc P W 0 (fun _ => true) true fuel t [v] = some y) :
    ∃ (A : Option Addr) (l : List WP) (c : Nat), v = .slice A l.length c ∧ l.length ≤ c ∧ c ≤ maxLen ∧ (∀ x ∈ l, x.Ok) ∧ SeenW W A l := by
  rcases open_slice_pairs ht he ce o0 o1 c0 c1 h with ⟨hcs, _⟩ | ⟨a, n, c, m, q, V0, V1, D0, D1, P0, P1, hcs, _, hl, hm, hmm, _, hx⟩
  · simp only [List.cons.injEq, and_true] at hcs
    exact ⟨none, [], 0, hcs, by simp, by simp, fun x h => by simp at h, SeenW.nil⟩
  · simp only [List.cons.injEq, and_true] at hcs
    simp at hmm
    have each : ∀ i : Fin n, ∃ x : WP, x.Ok ∧ W.cell? (a.add (i.1 * 2)) = some (.string x.s) ∧ W.cell? (a.add (i.1 * 2 + 1)) = some (.slice x.A x.ns.length x.c) ∧ SeenL W x.A x.ns := fun i => by
      obtain ⟨h0, h1, t0, t1⟩ := hx i.1 (by omega)
      obtain ⟨s, e0, _, hsz⟩ := DataW.trod_string hs t0
      simp only [List.cons.injEq, and_true] at e0
      obtain ⟨A', l', c', e1, g1, g2, g3, g4⟩ := field_intsL hi hei cei t1
      exact ⟨⟨s, l', A', c'⟩, ⟨g1, g2, hsz, g3⟩, by rw [h0, e0], by rw [h1, e1], g4⟩
    refine ⟨some a, List.ofFn fun i => Classical.choose (each i), c, by rw [List.length_ofFn]; exact hcs, by simpa using hl, hm, fun x hx => ?_, fun i x hx => ?_⟩
    · rw [List.mem_ofFn] at hx
      obtain ⟨i, rfl⟩ := hx
      exact (Classical.choose_spec (each i)).1
    · obtain ⟨hi', rfl⟩ := List.getElem?_eq_some_iff.1 hx
      simp only [List.length_ofFn] at hi'
      simp only [List.getElem_ofFn]
      obtain ⟨_, h0, h1, h2⟩ := Classical.choose_spec (each ⟨i, hi'⟩)
      refine ⟨⟨a, rfl, ?_, h0, h1⟩, h2⟩
      have := block_lt_of_cell h0
      rwa [addr_block] at this
end

theorem two_cells {cs : Array Value} {u0 u1 : Value} (h : cs.size = 2) (h0 : cs[0]? = some u0) (h1 : cs[1]? = some u1) : cs = #[u0, u1] := by
  obtain ⟨l⟩ := cs
  match l, h with
  | [a0, a1], _ =>
    simp at h0 h1
    subst h0 h1
    rfl

end Go.Proofs.Ytmmgmcfhlhghoaa

