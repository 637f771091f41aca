/- Words of two lists of numbers (codes, soft hyphens), and lists of them, as arguments: what they read as. -/
import Derived.Test.YtmmgmcfhlhghoaaTexts10
import Derived.Test.YtmmgmcfhlhghoaaLiang10
namespace Go.Proofs.Ytmmgmcfhlhghoaa
open Go.ChangeShapes Go.WideShapes Go.ChangeAt Go.RowKit Go.Deep

/-- A word: its codes, and behind how many of them it may be parted; and where they lie. -/
structure CW where
  cs : List Int
  A : Option Addr
  c : Nat
  ss : List Int
  B : Option Addr
  d : Nat
structure CW.Ok (x : CW) : Prop where
  room1 : x.cs.length ≤ x.c
  most1 : x.c ≤ maxLen
  room2 : x.ss.length ≤ x.d
  most2 : x.d ≤ maxLen
  wide1 : ∀ n ∈ x.cs, -9223372036854775808 ≤ n ∧ n ≤ 9223372036854775807
  wide2 : ∀ n ∈ x.ss, -9223372036854775808 ≤ n ∧ n ≤ 9223372036854775807
/-- The value. -/
def cwV (x : CW) : Value := .agg #[.slice x.A x.cs.length x.c, .slice x.B x.ss.length x.d]
/-- A list of them. -/
def SeenC (w : World) (A : Option Addr) (l : List CW) : Prop :=
  ∀ i x, l[i]? = some x → (∃ ad, A = some ad ∧ ad.block < w.heap.size ∧ w.cell? (ad.add (i * 2)) = some (.slice x.A x.cs.length x.c) ∧ w.cell? (ad.add (i * 2 + 1)) = some (.slice x.B x.ss.length x.d)) ∧ SeenL w x.A x.cs ∧ SeenL w x.B x.ss
theorem SeenC.ext {w w' : World} {A : Option Addr} {l : List CW} (h : SeenC w A l) (x : Ext w w') : SeenC w' A l := fun i y hy => by
  obtain ⟨⟨ad, e, hb, h0, h1⟩, h2, h3⟩ := h i y hy
  exact ⟨⟨ad, e, x.grows _ hb, x.at h0, x.at h1⟩, h2.ext x, h3.ext x⟩
theorem SeenC.nil {w : World} {A : Option Addr} : SeenC w A [] := fun i x h => by simp at h
theorem SeenC.get {w : World} {A : Option Addr} {l : List CW} (h : SeenC w A l) {k : Nat} (hk : k < l.length) :
    (∃ ad, A = some ad ∧ w.cell? (ad.add (k * 2)) = some (.slice l[k].A l[k].cs.length l[k].c) ∧ w.cell? ⟨(ad.add (k * 2)).block, (ad.add (k * 2)).off + 1, none⟩ = some (.slice l[k].B l[k].ss.length l[k].d)) ∧ SeenL w l[k].A l[k].cs ∧ SeenL w l[k].B l[k].ss := by
  obtain ⟨⟨ad, e, _, h0, h1⟩, h2, h3⟩ := h k l[k] (List.getElem?_eq_getElem hk)
  rw [← addr_add] at h1
  exact ⟨⟨ad, e, h0, h1⟩, h2, h3⟩
/-- The cells of one's own list. -/
def flatC (l : List CW) : List Value := l.flatMap fun x => [.slice x.A x.cs.length x.c, .slice x.B x.ss.length x.d]
theorem flatC_snoc (l : List CW) (x : CW) : flatC (l ++ [x]) = flatC l ++ [.slice x.A x.cs.length x.c, .slice x.B x.ss.length x.d] := by simp [flatC]
theorem flatC_append (l m : List CW) : flatC (l ++ m) = flatC l ++ flatC m := by simp [flatC]
theorem flatC_length (l : List CW) : (flatC l).length = l.length * 2 := by
  induction l with
  | nil => rfl
  | cons x r ih => simp only [flatC, List.flatMap_cons, List.length_append, List.length_cons] at *; simp [ih]; omega
theorem flatC_get : ∀ (l : List CW) (i : Nat) (x : CW), l[i]? = some x → (flatC l)[i * 2]? = some (.slice x.A x.cs.length x.c) ∧ (flatC l)[i * 2 + 1]? = some (.slice x.B x.ss.length x.d)
  | [], i, x, h => by simp at h
  | y :: r, 0, x, h => by simp at h; subst h; simp [flatC]
  | y :: r, i + 1, x, h => by
    have := flatC_get r i x (by simpa using h)
    have e : flatC (y :: r) = .slice y.A y.cs.length y.c :: .slice y.B y.ss.length y.d :: flatC r := rfl
    rw [e, show (i + 1) * 2 = i * 2 + 1 + 1 by omega]
    simpa using this
theorem flatC_one (l : List CW) : ∀ v ∈ flatC l, v.oneCell' = true := by
  intro v hv
  simp only [flatC, List.mem_flatMap, List.mem_cons, List.not_mem_nil, or_false] at hv
  obtain ⟨x, _, rfl | rfl⟩ := hv <;> rfl
theorem seenC_of {w : World} {A : Option Addr} {l : List CW} (h : Seen w.heap.size w A (flatC l)) (hi : ∀ x ∈ l, SeenL w x.A x.cs ∧ SeenL w x.B x.ss) : SeenC w A l := fun i x hx => by
  obtain ⟨g0, g1⟩ := flatC_get l i x hx
  obtain ⟨ad, rfl, hb, h0⟩ := h _ _ g0
  obtain ⟨ad', e, _, h1⟩ := h _ _ g1
  cases e
  exact ⟨⟨ad, rfl, hb, h0, h1⟩, hi x (List.mem_of_getElem? hx)⟩
theorem SeenC.inner {w : World} {A : Option Addr} {l : List CW} (h : SeenC w A l) : ∀ x ∈ l, SeenL w x.A x.cs ∧ SeenL w x.B x.ss := fun x hx => by
  obtain ⟨i, hi⟩ := List.getElem?_of_mem hx
  exact (h i x hi).2

section
variable {H : Type} {enc : TypeId × Value → H} {P : Program} {W : World}
theorem field_words {t e : TypeId} {f0 f1 : Field} {ei : TypeId} {fuel : Nat} {v : Value} {y : DataW H × List MemPlace} (ht : P.underlying t = some (.slice e)) (he : P.underlying e = some (.struct #[f0, f1])) (ce : P.cellsOf e = 2) (o0 : f0.offset = 0) (o1 : f1.offset = 1)
    (c0 : P.cellsOf f0.type = 1) (c1 : P.cellsOf f1.type = 1) (hs : P.underlying f0.type = some (.slice ei)) (hi : P.underlying f1.type = some (.slice ei)) (hei : P.underlying ei = some (.int .i64)) (cei : P.cellsOf ei = 1)
    (h : DataW.trod enc P W 0 (fun _ => true) true fuel t [v] = some y) :
    ∃ (A : Option Addr) (l : List CW) (c : Nat), v = .slice A l.length c ∧ l.length ≤ c ∧ c ≤ maxLen ∧ (∀ x ∈ l, x.Ok) ∧ SeenC W A l := by
  rcases open_slice_pairs ht he ce o0 o1 c0 c1 h with ⟨hcs, _⟩ | ⟨a, n, c, m, q, V0, V1, D0, D1, P0, P1, hcs, _, hl, hm, hmm, _, hx⟩
  · simp only [List.cons.injEq, and_true] at hcs
    exact ⟨none, [], 0, hcs, by simp, by simp, fun x h => by simp at h, SeenC.nil⟩
  · simp only [List.cons.injEq, and_true] at hcs
    simp at hmm
    have each : ∀ i : Fin n, ∃ x : CW, x.Ok ∧ W.cell? (a.add (i.1 * 2)) = some (.slice x.A x.cs.length x.c) ∧ W.cell? (a.add (i.1 * 2 + 1)) = some (.slice x.B x.ss.length x.d) ∧ SeenL W x.A x.cs ∧ SeenL W x.B x.ss := fun i => by
      obtain ⟨h0, h1, t0, t1⟩ := hx i.1 (by omega)
      obtain ⟨A', l', c', e1, g1, g2, g3, g4⟩ := field_intsL hs hei cei t0
      obtain ⟨B', m', d', e2, k1, k2, k3, k4⟩ := field_intsL hi hei cei t1
      exact ⟨⟨l', A', c', m', B', d'⟩, ⟨g1, g2, k1, k2, g3, k3⟩, by rw [h0, e1], by rw [h1, e2], g4, k4⟩
    refine ⟨some a, List.ofFn fun i => Classical.choose (each i), c, by rw [List.length_ofFn]; exact hcs, by simpa using hl, hm, fun x hx => ?_, fun i x hx => ?_⟩
    · rw [List.mem_ofFn] at hx
      obtain ⟨i, rfl⟩ := hx
      exact (Classical.choose_spec (each i)).1
    · obtain ⟨hi', rfl⟩ := List.getElem?_eq_some_iff.1 hx
      simp only [List.length_ofFn] at hi'
      simp only [List.getElem_ofFn]
      obtain ⟨_, h0, h1, h2, h3⟩ := Classical.choose_spec (each ⟨i, hi'⟩)
      refine ⟨⟨a, rfl, ?_, h0, h1⟩, h2, h3⟩
      have := block_lt_of_cell h0
      rwa [addr_block] at this
end
set_option maxRecDepth 100000 in
/-- A list of words. -/
theorem arg_words {H : Type} {enc : TypeId × Value → H} {W : World} {base : Nat} {v : Value} {d : DataW H} {p : List MemPlace}
    (hv : Value.okWide Try.prog W .any base 22 v) (h : DataW.Trod enc Try.prog W 0 (fun _ => true) true 22 v d p) :
    ∃ (A : Option Addr) (l : List CW) (c : Nat), v = .slice A l.length c ∧ l.length ≤ c ∧ c ≤ maxLen ∧ (∀ x ∈ l, x.Ok) ∧ SeenC W A l := by
  obtain ⟨a0, len0, cap0, rfl⟩ := okWide_slice Try.underlying22 hv
  obtain ⟨fuel, hf⟩ := h
  exact field_words (ei := 3) Try.underlying22 Try.underlying41 (by kernel_rfl) rfl rfl (by kernel_rfl) (by kernel_rfl) Try.underlying36 Try.underlying36 Try.underlying3 (by kernel_rfl) hf

namespace L13
open L10 (risesB)
/-- A word's codes, and its soft hyphens. -/
abbrev TW := List Int × List Int
def tw (x : CW) : TW := (x.cs, x.ss)
def codeB (c : Int) : Bool := decide (33 ≤ c ∧ c ≤ 126)
/-- May a word be? -/
def wordB (p : TW) : Bool := decide (1 ≤ p.1.length ∧ p.1.length ≤ 60) && (p.1.all codeB && risesB p.1.length 1 p.2)
/-- How many codes in all. -/
def sumC (l : List TW) : Nat := (l.map fun p => p.1.length).sum
def checkB (l : List TW) : Bool := decide (1 ≤ l.length ∧ l.length ≤ 100) && (l.all wordB && decide (sumC l ≤ 400))
/-- A word's bytes, from code n on. -/
def bytesM (ss : List Int) : List Int → Nat → List UInt8
  | [], _ => []
  | c :: r, n => (if (n : Int) ∈ ss then [194, 173] else []) ++ UInt8.ofNat c.toNat :: bytesM ss r (n + 1)
def bytesL (p : TW) : List UInt8 := bytesM p.2 p.1 0
/-- The text of words: 32 between any two. -/
def textL : List TW → List UInt8
  | [] => []
  | [p] => bytesL p
  | p :: q :: r => bytesL p ++ 32 :: textL (q :: r)
/-- The codes and soft hyphens of bytes, behind so many codes. -/
def ofGo : List UInt8 → Nat → TW
  | [], _ => ([], [])
  | [b], _ => ([(b.toNat : Int)], [])
  | b :: d :: r, n => if b = 194 ∧ d = 173 then ((ofGo r n).1, (n : Int) :: (ofGo r n).2) else ((b.toNat : Int) :: (ofGo (d :: r) (n + 1)).1, (ofGo (d :: r) (n + 1)).2)
def ofL (b : List UInt8) : TW := ofGo b 0
/-- A text's words, behind so many bytes of one: layer 10's, of these gaps. -/
def readV (l : List UInt8) : Option (List TW) :=
  let ws := (L10.wordsL l).map ofL
  if ws.all wordB = true ∧ checkB ws = true then some ws else none
theorem getD_wide {l : List Int} (h : ∀ n ∈ l, -9223372036854775808 ≤ n ∧ n ≤ 9223372036854775807) (k : Nat) : -9223372036854775808 ≤ l.getD k 0 ∧ l.getD k 0 ≤ 9223372036854775807 := by
  by_cases hk : k < l.length
  · rw [List.getD, List.getElem?_eq_getElem hk]
    exact h _ (List.getElem_mem hk)
  · rw [List.getD, List.getElem?_eq_none (by omega)]
    simp

theorem rises_drop {m least : Int} {l : List Int} {k : Nat} (h : k < l.length) : risesB m least (l.drop k) = (decide (least ≤ l.getD k 0 ∧ l.getD k 0 < m) && risesB m (l.getD k 0 + 1) (l.drop (k + 1))) := by
  rw [List.drop_eq_getElem_cons h, risesB, List.getD, List.getElem?_eq_getElem h]; rfl
end L13
end Go.Proofs.Ytmmgmcfhlhghoaa

