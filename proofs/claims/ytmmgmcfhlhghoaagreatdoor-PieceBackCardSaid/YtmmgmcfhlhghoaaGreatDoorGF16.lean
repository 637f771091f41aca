/- One's own numbers, to which more are put. Words of two lists of numbers (codes, soft hyphens), and lists of them, as arguments: what they read as. Layer 12, plain: cores of words, and where words may be parted. The landed small, first and Core of layer 12. The landed Core of layer 12. The landed places of layer 12: an exception's, or those of odd numbers. The landed places of layer 12, whole. The landed Points of layer 12. A trie that is asked for points, again and again. An exception, and a list of them, as arguments. -/
import Derived.Test.YtmmgmcfhlhghoaaGreatDoorGA16
import Derived.Laws.EntriesVeiled
import Derived.Shelf.Abstract
import Derived.Test.YtmmgmcfhlhghoaaGreatDoorGB16
import Derived.Deep.QuietTactic
import Derived.BigQuiet
import Derived.StillTailTactics
import Derived.Test.YtmmgmcfhlhghoaaGreatDoorGE16
namespace Go.Proofs.YtmmgmcfhlhghoaaGreatDoor
open Go.RowKit

/-- One's own numbers, made since w0. -/
def OwnI (w0 w : World) (v : Value) (l : List Int) : Prop := w.ownsRow w0.heap.size 3 1 v l.length (l.map (.int .i64)) ∧ Ext w0 w
theorem OwnI.nil {w0 w : World} (x : Ext w0 w) : OwnI w0 w (.slice none 0 0) [] := ⟨World.ownsRow_nil _ _ _ _, x⟩
theorem OwnI.over {w0 w w' : World} {v : Value} {l : List Int} (h : OwnI w0 w v l) (x : Ext w w') : OwnI w0 w' v l := ⟨OwnsRow.ext h.1 x, h.2.trans x⟩
theorem OwnI.seen {w0 w : World} {v : Value} {l : List Int} (h : OwnI w0 w v l) : ∃ A c, v = .slice A l.length c ∧ SeenL w A l ∧ ∀ ad, A = some ad → w0.heap.size ≤ ad.block := by
  obtain ⟨A, c, rfl, hs⟩ := own_seen h.1
  exact ⟨A, c, rfl, hs, fun ad e => (h.1.lt ad.block (by rw [e]; rfl)).1⟩
theorem OwnI.empty {w0 w : World} (x : Ext w0 w) : OwnI w0 (w.alloc (.cells #[] 3)) (.slice (some ⟨w.heap.size, 0, none⟩) 0 0) [] :=
  ⟨World.ownsRow_lit (base := w0.heap.size) (e := 3) (size := 1) w #[] 0 x.size (by unfold maxLen; omega) (by simp), x.alloc _⟩
theorem int_info12 : (Tryz.prog.info? 3).map (fun i => (i.zero, i.size, i.bytes)) = some (some (.int .i64 0), 1, 8) := by kernel_rfl
/-- append(own, more...). -/
theorem OwnI.puts {w0 w : World} {v : Value} {l : List Int} (h : OwnI w0 w v l) (A : Option Addr) (m : List Int) (n c : Nat) (hs : SeenL w A m) (hn : n = m.length) (hm : l.length + m.length ≤ 1000000) (ty : TypeId) :
    ∃ v' w', (Builtin.append_ #[48, 48] ty #[v, .slice A n c]).run Tryz.prog w = .ok v' w' ∧ OwnI w0 w' v' (l ++ m) := by
  subst hn
  obtain ⟨i, hi, hz0, hsz, hby⟩ := info_parts int_info12
  rcases A with _ | ad
  · have hl : m = [] := by
      rcases m with _ | ⟨b, m⟩
      · rfl
      · obtain ⟨_, e, _⟩ := hs.get (k := 0) (by simp); cases e
    subst hl
    refine ⟨v, w, ?_, by simpa using h⟩
    rcases h.1.2 with ⟨rfl, _⟩ | ⟨g, cap, cur, rfl, _, _, hnc, _⟩
    · simp [Builtin.append_, run_underlying Tryz.underlying48, Go.sizeOf, typeInfo, hi, Builtin.lenOf, Builtin.firstCells]
    · simp [Builtin.append_, run_underlying Tryz.underlying48, Go.sizeOf, typeInfo, hi, Builtin.lenOf, Builtin.firstCells, hnc, storeCells]
  · obtain ⟨v', w', hr, ho, hg, _, _⟩ := run_append_own_at (P := Tryz.prog) w w0.heap.size 48 ty 3 i (.int .i64 0) 1 8 Tryz.underlying48 hi hz0 hsz hby rfl (by omega) v l.length (l.map (.int .i64)) h.1 ad m.length c (m.map (.int .i64)) (by simp)
      (fun j u hu => by
        obtain ⟨ad', e, _, hc⟩ := hs j u hu
        cases e
        exact hc) (by simp [Value.oneCell']) (by unfold maxLen; omega) (by omega) h.2.size
    refine ⟨v', w', hr, ?_, Below.grown h.2 hg h.2.size (fun k hk => (h.1.lt k hk).1)⟩
    rw [List.length_append, List.map_append]
    exact ho
/-- append(own, x). -/
theorem OwnI.put {w0 w : World} {v : Value} {l : List Int} (h : OwnI w0 w v l) (x : Int) (hm : l.length + 1 ≤ 1000000) (ty : TypeId) :
    ∃ v' w', (Builtin.append_ #[48, 48] ty #[v, .slice (some ⟨w.heap.size, 0, none⟩) 1 1]).run Tryz.prog (w.alloc (.cells #[.int .i64 x] 3)) = .ok v' w' ∧ OwnI w0 w' v' (l ++ [x]) :=
  (h.over ((Ext.refl w).alloc (.cells #[.int .i64 x] 3))).puts _ [x] 1 1 (seen_new w [.int .i64 x] 3) rfl (by simpa using hm) ty
end Go.Proofs.YtmmgmcfhlhghoaaGreatDoor

namespace Go.Proofs.YtmmgmcfhlhghoaaGreatDoor
open Go.ChangeShapes Go.WideShapes Go.ChangeAt Go.RowKit Go.Deep

/-- A word: its codes, and behind how many of them it may be parted; and where they lie. -/
structure CW where
  cs : List Int
  A : Option Addr
  c : Nat
  ss : List Int
  B : Option Addr
  d : Nat
structure CW.Ok (x : CW) : Prop where
  room1 : x.cs.length ≤ x.c
  most1 : x.c ≤ maxLen
  room2 : x.ss.length ≤ x.d
  most2 : x.d ≤ maxLen
  wide1 : ∀ n ∈ x.cs, -9223372036854775808 ≤ n ∧ n ≤ 9223372036854775807
  wide2 : ∀ n ∈ x.ss, -9223372036854775808 ≤ n ∧ n ≤ 9223372036854775807
/-- The value. -/
def cwV (x : CW) : Value := .agg #[.slice x.A x.cs.length x.c, .slice x.B x.ss.length x.d]
/-- A list of them. -/
def SeenC (w : World) (A : Option Addr) (l : List CW) : Prop :=
  ∀ i x, l[i]? = some x → (∃ ad, A = some ad ∧ ad.block < w.heap.size ∧ w.cell? (ad.add (i * 2)) = some (.slice x.A x.cs.length x.c) ∧ w.cell? (ad.add (i * 2 + 1)) = some (.slice x.B x.ss.length x.d)) ∧ SeenL w x.A x.cs ∧ SeenL w x.B x.ss
theorem SeenC.ext {w w' : World} {A : Option Addr} {l : List CW} (h : SeenC w A l) (x : Ext w w') : SeenC w' A l := fun i y hy => by
  obtain ⟨⟨ad, e, hb, h0, h1⟩, h2, h3⟩ := h i y hy
  exact ⟨⟨ad, e, x.grows _ hb, x.at h0, x.at h1⟩, h2.ext x, h3.ext x⟩
theorem SeenC.nil {w : World} {A : Option Addr} : SeenC w A [] := fun i x h => by simp at h
theorem SeenC.get {w : World} {A : Option Addr} {l : List CW} (h : SeenC w A l) {k : Nat} (hk : k < l.length) :
    (∃ ad, A = some ad ∧ w.cell? (ad.add (k * 2)) = some (.slice l[k].A l[k].cs.length l[k].c) ∧ w.cell? ⟨(ad.add (k * 2)).block, (ad.add (k * 2)).off + 1, none⟩ = some (.slice l[k].B l[k].ss.length l[k].d)) ∧ SeenL w l[k].A l[k].cs ∧ SeenL w l[k].B l[k].ss := by
  obtain ⟨⟨ad, e, _, h0, h1⟩, h2, h3⟩ := h k l[k] (List.getElem?_eq_getElem hk)
  rw [← addr_add] at h1
  exact ⟨⟨ad, e, h0, h1⟩, h2, h3⟩
/-- The cells of one's own list. -/
def flatC (l : List CW) : List Value := l.flatMap fun x => [.slice x.A x.cs.length x.c, .slice x.B x.ss.length x.d]
theorem flatC_snoc (l : List CW) (x : CW) : flatC (l ++ [x]) = flatC l ++ [.slice x.A x.cs.length x.c, .slice x.B x.ss.length x.d] := by simp [flatC]
theorem flatC_append (l m : List CW) : flatC (l ++ m) = flatC l ++ flatC m := by simp [flatC]
theorem flatC_length (l : List CW) : (flatC l).length = l.length * 2 := by
  induction l with
  | nil => rfl
  | cons x r ih => simp only [flatC, List.flatMap_cons, List.length_append, List.length_cons] at *; simp [ih]; omega
theorem flatC_get : ∀ (l : List CW) (i : Nat) (x : CW), l[i]? = some x → (flatC l)[i * 2]? = some (.slice x.A x.cs.length x.c) ∧ (flatC l)[i * 2 + 1]? = some (.slice x.B x.ss.length x.d)
  | [], i, x, h => by simp at h
  | y :: r, 0, x, h => by simp at h; subst h; simp [flatC]
  | y :: r, i + 1, x, h => by
    have := flatC_get r i x (by simpa using h)
    have e : flatC (y :: r) = .slice y.A y.cs.length y.c :: .slice y.B y.ss.length y.d :: flatC r := rfl
    rw [e, show (i + 1) * 2 = i * 2 + 1 + 1 by omega]
    simpa using this
theorem flatC_one (l : List CW) : ∀ v ∈ flatC l, v.oneCell' = true := by
  intro v hv
  simp only [flatC, List.mem_flatMap, List.mem_cons, List.not_mem_nil, or_false] at hv
  obtain ⟨x, _, rfl | rfl⟩ := hv <;> rfl
theorem seenC_of {w : World} {A : Option Addr} {l : List CW} (h : Seen w.heap.size w A (flatC l)) (hi : ∀ x ∈ l, SeenL w x.A x.cs ∧ SeenL w x.B x.ss) : SeenC w A l := fun i x hx => by
  obtain ⟨g0, g1⟩ := flatC_get l i x hx
  obtain ⟨ad, rfl, hb, h0⟩ := h _ _ g0
  obtain ⟨ad', e, _, h1⟩ := h _ _ g1
  cases e
  exact ⟨⟨ad, rfl, hb, h0, h1⟩, hi x (List.mem_of_getElem? hx)⟩
theorem SeenC.inner {w : World} {A : Option Addr} {l : List CW} (h : SeenC w A l) : ∀ x ∈ l, SeenL w x.A x.cs ∧ SeenL w x.B x.ss := fun x hx => by
  obtain ⟨i, hi⟩ := List.getElem?_of_mem hx
  exact (h i x hi).2

section
variable {H : Type} {enc : TypeId × Value → H} {P : Program} {W : World}
theorem field_words {t e : TypeId} {f0 f1 : Field} {ei : TypeId} {fuel : Nat} {v : Value} {y : DataW H × List MemPlace} (ht : P.underlying t = some (.slice e)) (he : P.underlying e = some (.struct #[f0, f1])) (ce : P.cellsOf e = 2) (o0 : f0.offset = 0) (o1 : f1.offset = 1)
    (c0 : P.cellsOf f0.type = 1) (c1 : P.cellsOf f1.type = 1) (hs : P.underlying f0.type = some (.slice ei)) (hi : P.underlying f1.type = some (.slice ei)) (hei : P.underlying ei = some (.int .i64)) (cei : P.cellsOf ei = 1)
    (h : DataW.trod enc P W 0 (fun _ => true) true fuel t [v] = some y) :
    ∃ (A : Option Addr) (l : List CW) (c : Nat), v = .slice A l.length c ∧ l.length ≤ c ∧ c ≤ maxLen ∧ (∀ x ∈ l, x.Ok) ∧ SeenC W A l := by
  rcases open_slice_pairs ht he ce o0 o1 c0 c1 h with ⟨hcs, _⟩ | ⟨a, n, c, m, q, V0, V1, D0, D1, P0, P1, hcs, _, hl, hm, hmm, _, hx⟩
  · simp only [List.cons.injEq, and_true] at hcs
    exact ⟨none, [], 0, hcs, by simp, by simp, fun x h => by simp at h, SeenC.nil⟩
  · simp only [List.cons.injEq, and_true] at hcs
    simp at hmm
    have each : ∀ i : Fin n, ∃ x : CW, x.Ok ∧ W.cell? (a.add (i.1 * 2)) = some (.slice x.A x.cs.length x.c) ∧ W.cell? (a.add (i.1 * 2 + 1)) = some (.slice x.B x.ss.length x.d) ∧ SeenL W x.A x.cs ∧ SeenL W x.B x.ss := fun i => by
      obtain ⟨h0, h1, t0, t1⟩ := hx i.1 (by omega)
      obtain ⟨A', l', c', e1, g1, g2, g3, g4⟩ := field_intsL hs hei cei t0
      obtain ⟨B', m', d', e2, k1, k2, k3, k4⟩ := field_intsL hi hei cei t1
      exact ⟨⟨l', A', c', m', B', d'⟩, ⟨g1, g2, k1, k2, g3, k3⟩, by rw [h0, e1], by rw [h1, e2], g4, k4⟩
    refine ⟨some a, List.ofFn fun i => Classical.choose (each i), c, by rw [List.length_ofFn]; exact hcs, by simpa using hl, hm, fun x hx => ?_, fun i x hx => ?_⟩
    · rw [List.mem_ofFn] at hx
      obtain ⟨i, rfl⟩ := hx
      exact (Classical.choose_spec (each i)).1
    · obtain ⟨hi', rfl⟩ := List.getElem?_eq_some_iff.1 hx
      simp only [List.length_ofFn] at hi'
      simp only [List.getElem_ofFn]
      obtain ⟨_, h0, h1, h2, h3⟩ := Classical.choose_spec (each ⟨i, hi'⟩)
      refine ⟨⟨a, rfl, ?_, h0, h1⟩, h2, h3⟩
      have := block_lt_of_cell h0
      rwa [addr_block] at this
end
set_option maxRecDepth 100000 in
/-- A list of words. -/
theorem arg_words {H : Type} {enc : TypeId × Value → H} {W : World} {base : Nat} {v : Value} {d : DataW H} {p : List MemPlace}
    (hv : Value.okWide Tryz.prog W .any base 26 v) (h : DataW.Trod enc Tryz.prog W 0 (fun _ => true) true 26 v d p) :
    ∃ (A : Option Addr) (l : List CW) (c : Nat), v = .slice A l.length c ∧ l.length ≤ c ∧ c ≤ maxLen ∧ (∀ x ∈ l, x.Ok) ∧ SeenC W A l := by
  obtain ⟨a0, len0, cap0, rfl⟩ := okWide_slice Tryz.underlying26 hv
  obtain ⟨fuel, hf⟩ := h
  exact field_words (ei := 3) Tryz.underlying26 Tryz.underlying50 (by kernel_rfl) rfl rfl (by kernel_rfl) (by kernel_rfl) Tryz.underlying48 Tryz.underlying48 Tryz.underlying3 (by kernel_rfl) hf

namespace L13
open L10 (risesB)
/-- A word's codes, and its soft hyphens. -/
abbrev TW := List Int × List Int
def tw (x : CW) : TW := (x.cs, x.ss)
def codeB (c : Int) : Bool := decide (33 ≤ c ∧ c ≤ 126)
/-- May a word be? -/
def wordB (p : TW) : Bool := decide (1 ≤ p.1.length ∧ p.1.length ≤ 60) && (p.1.all codeB && risesB p.1.length 1 p.2)
/-- How many codes in all. -/
def sumC (l : List TW) : Nat := (l.map fun p => p.1.length).sum
def checkB (l : List TW) : Bool := decide (1 ≤ l.length ∧ l.length ≤ 100) && (l.all wordB && decide (sumC l ≤ 400))
/-- A word's bytes, from code n on. -/
def bytesM (ss : List Int) : List Int → Nat → List UInt8
  | [], _ => []
  | c :: r, n => (if (n : Int) ∈ ss then [194, 173] else []) ++ UInt8.ofNat c.toNat :: bytesM ss r (n + 1)
def bytesL (p : TW) : List UInt8 := bytesM p.2 p.1 0
/-- The text of words: 32 between any two. -/
def textL : List TW → List UInt8
  | [] => []
  | [p] => bytesL p
  | p :: q :: r => bytesL p ++ 32 :: textL (q :: r)
/-- The codes and soft hyphens of bytes, behind so many codes. -/
def ofGo : List UInt8 → Nat → TW
  | [], _ => ([], [])
  | [b], _ => ([(b.toNat : Int)], [])
  | b :: d :: r, n => if b = 194 ∧ d = 173 then ((ofGo r n).1, (n : Int) :: (ofGo r n).2) else ((b.toNat : Int) :: (ofGo (d :: r) (n + 1)).1, (ofGo (d :: r) (n + 1)).2)
def ofL (b : List UInt8) : TW := ofGo b 0
/-- A text's words, behind so many bytes of one: layer 10's, of these gaps. -/
def readV (l : List UInt8) : Option (List TW) :=
  let ws := (L10.wordsL l).map ofL
  if ws.all wordB = true ∧ checkB ws = true then some ws else none
theorem getD_wide {l : List Int} (h : ∀ n ∈ l, -9223372036854775808 ≤ n ∧ n ≤ 9223372036854775807) (k : Nat) : -9223372036854775808 ≤ l.getD k 0 ∧ l.getD k 0 ≤ 9223372036854775807 := by
  by_cases hk : k < l.length
  · rw [List.getD, List.getElem?_eq_getElem hk]
    exact h _ (List.getElem_mem hk)
  · rw [List.getD, List.getElem?_eq_none (by omega)]
    simp

theorem rises_drop {m least : Int} {l : List Int} {k : Nat} (h : k < l.length) : risesB m least (l.drop k) = (decide (least ≤ l.getD k 0 ∧ l.getD k 0 < m) && risesB m (l.getD k 0 + 1) (l.drop (k + 1))) := by
  rw [List.drop_eq_getElem_cons h, risesB, List.getD, List.getElem?_eq_getElem h]; rfl
end L13
end Go.Proofs.YtmmgmcfhlhghoaaGreatDoor

namespace Go.Proofs.YtmmgmcfhlhghoaaGreatDoor
namespace L12
open L10 (TN plainB patB letterB)
open L11 (valsL)

/-- A code as a small letter; 0: it is none. -/
def small (c : Int) : Int := if 65 ≤ c ∧ c ≤ 90 then c + 32 else if 97 ≤ c ∧ c ≤ 122 then c else 0
def isL (c : Int) : Bool := decide (small c ≠ 0)
theorem small_range (c : Int) : small c = 0 ∨ (97 ≤ small c ∧ small c ≤ 122) := by
  unfold small
  split
  · omega
  · split
    · omega
    · exact .inl rfl
theorem isL_iff {c : Int} : isL c = true ↔ 97 ≤ small c ∧ small c ≤ 122 := by
  have := small_range c
  simp only [isL, decide_eq_true_eq]
  omega
/-- The first of so many places that may be, or how many there are. -/
def firstF (q : Nat → Bool) : Nat → Nat
  | 0 => 0
  | n + 1 => if firstF q n = n then (if q n = true then n else n + 1) else firstF q n
theorem firstF_spec (q : Nat → Bool) : ∀ n, firstF q n ≤ n ∧ (∀ i, i < firstF q n → q i = false) ∧ (firstF q n < n → q (firstF q n) = true)
  | 0 => ⟨Nat.le_refl _, fun i hi => by simp [firstF] at hi, fun h => by simp [firstF] at h⟩
  | n + 1 => by
    obtain ⟨h1, h2, h3⟩ := firstF_spec q n
    unfold firstF
    split
    · rename_i e
      rw [e] at h2
      split
      · rename_i hq
        exact ⟨by omega, h2, fun _ => hq⟩
      · rename_i hq
        refine ⟨Nat.le_refl _, fun i hi => ?_, fun h => by omega⟩
        by_cases hi' : i = n
        · subst hi'; simpa using hq
        · exact h2 i (by omega)
    · exact ⟨by omega, h2, fun _ => h3 (by omega)⟩
theorem firstF_eq {q : Nat → Bool} {n k : Nat} (hk : k ≤ n) (h1 : ∀ i, i < k → q i = false) (h2 : k < n → q k = true) : firstF q n = k := by
  obtain ⟨g1, g2, g3⟩ := firstF_spec q n
  rcases Nat.lt_trichotomy (firstF q n) k with h | h | h
  · have := h1 _ h
    rw [g3 (by omega)] at this
    cases this
  · exact h
  · have := g2 _ h
    rw [h2 (by omega)] at this
    cases this
theorem firstF_congr {p q : Nat → Bool} {n : Nat} (h : ∀ i, i < n → p i = q i) : firstF p n = firstF q n := by
  obtain ⟨g1, g2, g3⟩ := firstF_spec q n
  exact firstF_eq g1 (fun i hi => by rw [h i (by omega)]; exact g2 i hi) (fun hk => by rw [h _ hk]; exact g3 hk)
def aheadN (l : List Int) : Nat := firstF (fun i => isL (l.getD i 0)) l.length
def behindN (l : List Int) : Nat := firstF (fun i => isL (l.getD (l.length - 1 - i) 0)) (l.length - aheadN l)
theorem ahead_le (l : List Int) : aheadN l ≤ l.length := (firstF_spec _ _).1
theorem behind_le (l : List Int) : behindN l ≤ l.length - aheadN l := (firstF_spec _ _).1
/-- What is left without those codes ahead, and behind, that are no letters. -/
def midL (l : List Int) : List Int := (l.drop (aheadN l)).take (l.length - aheadN l - behindN l)
theorem mid_length (l : List Int) : (midL l).length = l.length - aheadN l - behindN l := by
  have := ahead_le l
  have := behind_le l
  simp [midL]
theorem mid_get {l : List Int} {i : Nat} (h : i < l.length - aheadN l - behindN l) : (midL l).getD i 0 = l.getD (aheadN l + i) 0 := by
  simp only [midL, List.getD, List.getElem?_take_of_lt h, List.getElem?_drop]
def coreB (l : List Int) : Bool := decide (1 ≤ (midL l).length) && (decide ((midL l).length ≤ 40) && (midL l).all isL)
def byteL (l : List Int) : List UInt8 := l.map fun c => UInt8.ofNat (small c).toNat
/-- A word's core, and how many codes stand ahead of it. -/
def coreL (l : List Int) : List UInt8 := if coreB l = true then byteL (midL l) else []
def coreN (l : List Int) : Nat := if coreB l = true then aheadN l else 0
theorem byteL_length (l : List Int) : (byteL l).length = l.length := by simp [byteL]
theorem byteL_snoc (l : List Int) (c : Int) : byteL (l ++ [c]) = byteL l ++ [UInt8.ofNat (small c).toNat] := by simp [byteL]
theorem coreL_no {l : List Int} (h : coreB l = false) : coreL l = [] := if_neg (by simp [h])
theorem coreN_no {l : List Int} (h : coreB l = false) : coreN l = 0 := if_neg (by simp [h])
theorem coreL_yes {l : List Int} (h : coreB l = true) : coreL l = byteL (midL l) := if_pos h
theorem coreN_yes {l : List Int} (h : coreB l = true) : coreN l = aheadN l := if_pos h
theorem coreB_iff {l : List Int} : coreB l = true ↔ 1 ≤ (midL l).length ∧ (midL l).length ≤ 40 ∧ ∀ c ∈ midL l, isL c = true := by
  simp only [coreB, Bool.and_eq_true, decide_eq_true_eq, List.all_eq_true]
theorem coreB_no {l : List Int} {i : Nat} (hi : i < (midL l).length) (h : isL ((midL l).getD i 0) = false) : coreB l = false := by
  cases hb : coreB l with
  | false => rfl
  | true =>
    have h1 := (coreB_iff.1 hb).2.2 ((midL l).getD i 0) (by simp [List.getD, hi])
    rw [h] at h1
    cases h1
theorem core_plain {l : List Int} (h : coreB l = true) : plainB (coreL l) = true := by
  obtain ⟨h1, h2, h3⟩ := coreB_iff.1 h
  rw [coreL_yes h]
  simp only [plainB, byteL_length, Bool.and_eq_true, decide_eq_true_eq, List.all_eq_true]
  refine ⟨⟨h1, h2⟩, fun b hb => ?_⟩
  simp only [byteL, List.mem_map] at hb
  obtain ⟨c, hc, rfl⟩ := hb
  have := isL_iff.1 (h3 c hc)
  simp only [letterB, decide_eq_true_eq]
  rw [UInt8.toNat_ofNat']
  omega
theorem core_nil {l : List Int} : coreL l = [] ↔ coreB l = false := by
  cases h : coreB l with
  | false => simp [coreL_no h]
  | true =>
    have := L11.plain_len (core_plain h)
    constructor
    · intro e; rw [e] at this; simp at this
    · intro e; cases e
theorem core_most (l : List Int) : (coreL l).length ≤ 40 := by
  cases h : coreB l with
  | false => simp [coreL_no h]
  | true => exact (L11.plain_len (core_plain h)).2
theorem core_in (l : List Int) : coreN l + (coreL l).length ≤ l.length := by
  have h1 := ahead_le l
  have h2 := behind_le l
  cases h : coreB l with
  | false => simp [coreL_no h, coreN_no h]
  | true => rw [coreL_yes h, coreN_yes h, byteL_length, mid_length]; omega

/-! ### Points -/
/-- A core's places by patterns: those of odd numbers. -/
def oddL (p : List TN) (core : List UInt8) : List Int := ((List.range core.length).filter fun i => decide (0 < i) && decide ((valsL p core).getD i 0 % 2 = 1)).map fun (i : Nat) => (i : Int)
def placesL (p but : List TN) (core : List UInt8) : List Int := match but.find? fun x => decide (x.1 = core) with
  | some x => x.2
  | none => oddL p core
def mayB (n : Nat) (left right x : Int) : Bool := decide (left ≤ x) && (decide (x ≤ n) && decide (right ≤ IntKind.i64.wrap (n - x)))
def pointsL (p but : List TN) (l : List Int) (left right : Int) : List Int :=
  if coreB l = true then ((placesL p but (coreL l)).filter (mayB (coreL l).length left right)).map fun x => (coreN l : Int) + x else []
theorem points_no {p but : List TN} {l : List Int} {left right : Int} (h : coreB l = false) : pointsL p but l left right = [] := if_neg (by simp [h])
theorem points_yes {p but : List TN} {l : List Int} {left right : Int} (h : coreB l = true) : pointsL p but l left right = ((placesL p but (coreL l)).filter (mayB (coreL l).length left right)).map fun x => (coreN l : Int) + x := if_pos h
/-- The odd places ahead of i. -/
def oddTo (p : List TN) (core : List UInt8) (i : Nat) : List Int := ((List.range i).filter fun i => decide (0 < i) && decide ((valsL p core).getD i 0 % 2 = 1)).map fun (i : Nat) => (i : Int)
theorem oddTo_succ (p : List TN) (core : List UInt8) (i : Nat) : oddTo p core (i + 1) = oddTo p core i ++ if 0 < i ∧ (valsL p core).getD i 0 % 2 = 1 then [(i : Int)] else [] := by
  unfold oddTo
  rw [List.range_succ, List.filter_append, List.map_append]
  congr 1
  by_cases h : 0 < i ∧ (valsL p core).getD i 0 % 2 = 1
  · have : (decide (0 < i) && decide ((valsL p core).getD i 0 % 2 = 1)) = true := by simpa using h
    rw [if_pos h]
    simp only [List.filter_cons, this, List.filter_nil]
    rfl
  · rw [if_neg h]
    have : (decide (0 < i) && decide ((valsL p core).getD i 0 % 2 = 1)) = false := by
      rw [Bool.eq_false_iff]
      simpa using h
    simp only [List.filter_cons, this, List.filter_nil]
    rfl
theorem oddTo_length (p : List TN) (core : List UInt8) (i : Nat) : (oddTo p core i).length ≤ i := by
  unfold oddTo
  rw [List.length_map]
  exact Nat.le_trans (List.length_filter_le _ _) (by simp)
theorem odd_in {p : List TN} {core : List UInt8} {x : Int} (h : x ∈ oddL p core) : 1 ≤ x ∧ x < core.length := by
  simp only [oddL, List.mem_map, List.mem_filter, List.mem_range, Bool.and_eq_true, decide_eq_true_eq] at h
  obtain ⟨i, ⟨h1, h2, _⟩, rfl⟩ := h
  omega
theorem odd_rises (p : List TN) (core : List UInt8) : (oddL p core).Pairwise (· < ·) := by
  unfold oddL
  rw [List.pairwise_map]
  refine (List.Pairwise.filter _ List.pairwise_lt_range).imp ?_
  intro a b h
  omega
theorem odd_nonneg (p : List TN) (core : List UInt8) (i : Nat) : 0 ≤ (valsL p core).getD i 0 := by
  by_cases h : i < (valsL p core).length
  · have hm : (valsL p core).getD i 0 ∈ valsL p core := by
      rw [List.getD, List.getElem?_eq_getElem h]; exact List.getElem_mem h
    generalize (valsL p core).getD i 0 = v at *
    unfold valsL at hm
    split at hm
    · obtain ⟨j, _, rfl⟩ := List.mem_map.1 hm
      exact L11.numF_nonneg _ _ _
    · simp at hm
  · rw [List.getD, List.getElem?_eq_none (by omega)]
    simp
theorem may_near {n : Nat} (hn : n ≤ 1000) {left right x : Int} (h : -1000 ≤ x) : mayB n left right x = (decide (left ≤ x) && (decide (x ≤ n) && decide (right ≤ n - x))) := by
  unfold mayB
  by_cases h1 : x ≤ n
  · have e : IntKind.i64.wrap ((n : Int) - x) = n - x := IntWalk.i64_in _ (by omega)
    rw [e]
  · rw [decide_eq_false h1]
    simp
end L12
end Go.Proofs.YtmmgmcfhlhghoaaGreatDoor

namespace Go.Proofs.YtmmgmcfhlhghoaaGreatDoor
open Go.RowKit
namespace L12

theorem u8_in (n : Int) (h : 0 ≤ n ∧ n ≤ 255) : IntKind.u8.wrap n = n := by
  simp only [IntKind.wrap, IntKind.signed, IntKind.bits]
  simp
  omega
theorem ret_k {k : IntKind} {a b : Int} (h : a = b) : Ending.returned (.int k a) = .returned (.int k b) := by rw [h]
theorem small_any (c : Int) (w : World) : Calls Tryz.prog 60 #[.int .i64 c] w (Ret w (.int .u8 (small c))) := by
  by_cases h1 : 65 ≤ c ∧ c ≤ 90
  · rw [show small c = c + 32 from if_pos h1]
    have e1 := u8_in c (by omega)
    have e2 := u8_in (c + 97) (by omega)
    have e3 := u8_in (c + 97 - 65) (by omega)
    have E := Lib.hid (show c + 97 - 65 = c + 32 by omega)
    obtain ⟨h1, h2⟩ := h1
    go_enter Tryz.func60, Tryz.ntmps60
    go_wp2_with fail
    go_ret
    exact ⟨ret_k E.out, Ext.refl _⟩
  · by_cases h2 : 97 ≤ c ∧ c ≤ 122
    · rw [show small c = c by rw [small, if_neg h1, if_pos h2]]
      have e1 := u8_in c (by omega)
      obtain ⟨h2, h3⟩ := h2
      have h4 : ¬ c ≤ 90 := by omega
      have h5 : 65 ≤ c := by omega
      clear h1
      go_enter Tryz.func60, Tryz.ntmps60
      go_wp2_with fail
      go_ret
      exact ⟨rfl, Ext.refl _⟩
    · rw [show small c = 0 by rw [small, if_neg h1, if_neg h2]]
      by_cases h3 : 65 ≤ c
      · have h4 : ¬ c ≤ 90 := by omega
        by_cases h5 : 97 ≤ c
        · have h6 : ¬ c ≤ 122 := by omega
          clear h1 h2
          go_enter Tryz.func60, Tryz.ntmps60
          go_wp2_with fail
          go_ret
          exact ⟨rfl, Ext.refl _⟩
        · clear h1 h2
          go_enter Tryz.func60, Tryz.ntmps60
          go_wp2_with fail
          go_ret
          exact ⟨rfl, Ext.refl _⟩
      · have h5 : ¬ 97 ≤ c := by omega
        clear h1 h2
        go_enter Tryz.func60, Tryz.ntmps60
        go_wp2_with fail
        go_ret
        exact ⟨rfl, Ext.refl _⟩
theorem nought (c : Int) : (small c != 0) = isL c := by
  unfold isL
  by_cases h : small c = 0
  · simp [h]
  · simp [h]
/-- The first place that may be, whatever tells it. -/
theorem first_any (fn : FuncId) (cap : Array Value) (q : Nat → Bool) (n : Nat) (w : World) (hn : n ≤ 9223372036854775807) (eg : ∀ args w, (callFunc fn args).run Tryz.prog w = .ok (.enter fn args) w)
    (hc : ∀ (i : Nat) (w' : World), i < n → Ext w w' → Calls Tryz.prog fn (#[.int .i64 i] ++ cap) w' (Ret w' (.bool (q i)))) :
    Calls Tryz.prog 61 #[.int .i64 n, .func (.func fn) #[] cap] w (Ret w (.int .i64 (firstF q n))) := by
  have HC := Lib.hid hc
  clear hc
  go_enter Tryz.func61, Tryz.ntmps61
  go_wp2_with fail
  go_loopw [7] (fun i wr => ∃ k : Nat, k ≤ n ∧ i = .int .i64 k ∧ Hid (∀ j, j < k → q j = false) ∧ Hid (Ext w wr)) (fun i _ => n - (intOf i).toNat)
  case atStart => exact ⟨0, by omega, rfl, Lib.hid (fun j hj => absurd hj (by omega)), Lib.hid (Ext.refl _)⟩
  case round =>
    obtain ⟨k, hk, rfl, hall, X⟩ := hrel
    by_cases hlt : k < n
    · have C := Lib.hid (HC.out k wr hlt X.out)
      have YES := Lib.hid (fun h : q k = true => show (k : Int) = (firstF q n : Nat) by rw [firstF_eq (by omega) hall.out (fun _ => h)])
      have NO := Lib.hid (fun h : q k = false => show ∀ j, j < k + 1 → q j = false from fun j hj => if e : j = k then e ▸ h else hall.out j (by omega))
      generalize q k = b at *
      go_wp2_with fail
      refine C.out.mono ?_; rintro e w' ⟨rfl, x1⟩
      have X1 := Lib.hid (X.out.trans x1)
      clear x1 C
      cases b with
      | true =>
        have H := Lib.hid (YES.out rfl)
        clear YES NO
        go_wp2_with fail
        go_ret
        exact ⟨ret_int H.out, X1.out⟩
      | false =>
        have H := Lib.hid (NO.out rfl)
        clear YES NO
        go_wp2_with fail
        go_roundw
        case rel => exact ⟨k + 1, by omega, by go_num, H, X1⟩
        case measure => simp [intOf]; omega
    · obtain rfl : k = n := by omega
      have H := Lib.hid (show (k : Int) = (firstF q k : Nat) by rw [firstF_eq (Nat.le_refl _) hall.out (fun h => absurd h (by omega))])
      go_wp2_with fail
      go_ret
      exact ⟨ret_int H.out, X.out⟩
/-- Is it a letter? The closure. -/
theorem is_any (r : Nat) (A : Option Addr) (l : List Int) (n c : Nat) (i : Nat) (w : World) (hr : w.cell? ⟨r, 0, none⟩ = some (.slice A n c)) (hs : SeenL w A l) (hn : n = l.length) (hi : i < l.length) :
    Calls Tryz.prog 59 #[.int .i64 i, .pointer (some ⟨r, 0, none⟩)] w (Ret w (.bool (isL (l.getD i 0)))) := by
  obtain ⟨ad, rfl, hc⟩ := hs.get hi
  rw [← nought]
  have hin : (i : Int) < n := by omega
  have C := Lib.hid (fun w' => small_any (l.getD i 0) w')
  generalize l.getD i 0 = x at *
  clear hs hn hi
  go_enter Tryz.func59, Tryz.ntmps59
  go_wp2_with fail
  refine (C.out _).mono ?_; rintro e w1 ⟨rfl, x1⟩
  generalize small x = y at *
  go_wp2_with fail
  go_ret
  exact ⟨rfl, x1⟩
theorem isb_any (r s : Nat) (A : Option Addr) (l : List Int) (n c : Nat) (i : Nat) (w : World) (hr : w.cell? ⟨r, 0, none⟩ = some (.slice A n c))
    (hf : w.cell? ⟨s, 0, none⟩ = some (.func (.func 59) #[] #[.pointer (some ⟨r, 0, none⟩)])) (hs : SeenL w A l) (hn : n = l.length) (hm : n ≤ maxLen) (hi : i < l.length) :
    Calls Tryz.prog 62 #[.int .i64 i, .pointer (some ⟨s, 0, none⟩), .pointer (some ⟨r, 0, none⟩)] w (Ret w (.bool (isL (l.getD (l.length - 1 - i) 0)))) := by
  have hw : IntKind.i64.wrap ((n : Int) - 1) = n - 1 := IntWalk.i64_in _ (by unfold maxLen at hm; omega)
  have hw2 : IntKind.i64.wrap ((n : Int) - 1 - i) = (l.length - 1 - i : Nat) := by rw [IntWalk.i64_in _ (by unfold maxLen at hm; omega)]; omega
  have C := Lib.hid (is_any r A l n c (l.length - 1 - i) w hr hs hn (by omega))
  generalize l.getD (l.length - 1 - i) 0 = x at *
  generalize l.length - 1 - i = y at *
  clear hs hn hi
  go_enter Tryz.func62, Tryz.ntmps62
  go_wp2_with fail
  refine C.out.mono ?_; rintro e w1 ⟨rfl, x1⟩
  go_wp2_with fail
  go_ret
  exact ⟨rfl, x1⟩
end L12
end Go.Proofs.YtmmgmcfhlhghoaaGreatDoor

namespace Go.Proofs.YtmmgmcfhlhghoaaGreatDoor
open Go.RowKit
namespace L12

theorem small_byte (c : Int) : small c = ((UInt8.ofNat (small c).toNat).toNat : Int) := by
  have := small_range c
  rw [UInt8.toNat_ofNat']
  omega
/-- So many letters, and noughts behind them. -/
def curL (mid : List Int) (k : Nat) : List UInt8 := byteL (mid.take k) ++ List.replicate (mid.length - k) 0
theorem cur_zero (mid : List Int) : curL mid 0 = List.replicate mid.length 0 := by simp [curL, byteL]
theorem cur_full (mid : List Int) : curL mid mid.length = byteL mid := by simp [curL]
theorem cur_length {mid : List Int} {k : Nat} (h : k ≤ mid.length) : (curL mid k).length = mid.length := by
  simp only [curL, List.length_append, byteL_length, List.length_take, List.length_replicate]; omega
theorem cur_set {mid : List Int} {k : Nat} (h : k < mid.length) : (bv (curL mid k)).set k (.int .u8 (small (mid.getD k 0))) = bv (curL mid (k + 1)) := by
  have e1 : mid.take (k + 1) = mid.take k ++ [mid.getD k 0] := by
    rw [List.take_succ_eq_append_getElem h]; simp [List.getD, h]
  have e2 : List.replicate (mid.length - k) (0 : UInt8) = 0 :: List.replicate (mid.length - (k + 1)) 0 := by
    rw [show mid.length - k = mid.length - (k + 1) + 1 by omega, List.replicate_succ]
  have e3 : (byteL (mid.take k)).length = k := by rw [byteL_length, List.length_take]; omega
  rw [curL, e2, curL, e1, byteL_snoc, bv_append, bv_append, bv_append, List.append_assoc]
  rw [List.set_append_right _ _ (by rw [bv_length, e3]; omega), bv_length, e3, Nat.sub_self]
  simp only [bv, List.map_cons, List.set_cons_zero, List.map_nil, List.cons_append, List.nil_append]
  rw [← small_byte]
theorem enters1 : ∀ args w, (callFunc 59 args).run Tryz.prog w = .ok (.enter 59 args) w := enters_of Tryz.func59 (by kernel_rfl) rfl
theorem enters2 : ∀ args w, (callFunc 62 args).run Tryz.prog w = .ok (.enter 62 args) w := enters_of Tryz.func62 (by kernel_rfl) rfl
/-- A part of numbers that are seen. -/
theorem seenL_mid {w : World} {ad : Addr} {l : List Int} (h : SeenL w (some ad) l) : SeenL w (some (ad.add (aheadN l))) (midL l) := fun j v hv => by
  have hj : (l.map (Value.int .i64))[aheadN l + j]? = some v := by
    rw [List.getElem?_map] at hv ⊢
    rw [← hv]
    have hjn : j < l.length - aheadN l - behindN l := by
      rcases Nat.lt_or_ge j (l.length - aheadN l - behindN l) with h | h
      · exact h
      · rw [List.getElem?_eq_none (by rw [mid_length]; omega)] at hv; simp at hv
    rw [midL, List.getElem?_take_of_lt hjn, List.getElem?_drop]
  obtain ⟨ad', e, hb, hc⟩ := h _ _ hj
  cases e
  exact ⟨_, rfl, by rw [addr_block]; exact hb, by rw [addr_add]; exact hc⟩

set_option maxRecDepth 100000 in
set_option maxHeartbeats 4000000 in
theorem core_some (ad : Addr) (l : List Int) (n c : Nat) (w : World) (hs : SeenL w (some ad) l) (hn : n = l.length) (hnc : n ≤ c) (hc : c ≤ maxLen) :
    Calls Tryz.prog 38 #[.slice (some ad) n c] w (Ret w (.tuple #[.string ⟨(coreL l).toArray⟩, .int .i64 (coreN l)])) := by
  have hm : n ≤ 9223372036854775807 ∧ c ≤ 9223372036854775807 := by unfold maxLen at hc; omega
  have hmf : ∀ (fn : Fn) (first cap : Array Value) (w : World), (Instr.makeFunc fn first cap).run Tryz.prog w = .ok (.func fn first cap) w := fun _ _ _ _ => rfl
  obtain ⟨V, hV⟩ : ∃ V, V = (w.alloc (.cells #[.slice (some ad) n c] 48)).alloc (.cells #[.func (.func 59) #[] #[.pointer (some ⟨w.heap.size, 0, none⟩)]] 118) := ⟨_, rfl⟩
  have X0 : Ext w V := by rw [hV]; exact ((Ext.refl _).alloc _).alloc _
  have k0 : Blk V w.heap.size 48 [.slice (some ad) n c] := by rw [hV]; exact (Blk.lit _ _ _ _ rfl).ext ((Ext.refl _).alloc _)
  have k1 : Blk V (w.heap.size + 1) 118 [.func (.func 59) #[] #[.pointer (some ⟨w.heap.size, 0, none⟩)]] := by rw [hV]; exact Blk.lit _ _ _ _ (by simp)
  have SN := Lib.hid (hs.ext X0)
  have h1 := ahead_le l
  have h2 := behind_le l
  have F1 := Lib.hid (fun w' (x : Ext V w') => first_any 59 #[.pointer (some ⟨w.heap.size, 0, none⟩)] (fun i => isL (l.getD i 0)) n w' hm.1 enters1 (fun i w2 hi x2 => is_any w.heap.size (some ad) l n c i w2 ((k0.ext (x.trans x2)).cell 0) (SN.out.ext (x.trans x2)) hn (by omega)))
  have F2 := Lib.hid (fun w' (x : Ext V w') => first_any 62 #[.pointer (some ⟨w.heap.size + 1, 0, none⟩), .pointer (some ⟨w.heap.size, 0, none⟩)] (fun i => isL (l.getD (l.length - 1 - i) 0)) (n - aheadN l) w' (by omega) enters2 (fun i w2 hi x2 =>
    isb_any w.heap.size (w.heap.size + 1) (some ad) l n c i w2 ((k0.ext (x.trans x2)).cell 0) ((k1.ext (x.trans x2)).cell 0) (SN.out.ext (x.trans x2)) hn (by unfold maxLen; omega) (by omega)))
  have e1 : firstF (fun i => isL (l.getD i 0)) n = aheadN l := by rw [hn]; rfl
  have e2 : firstF (fun i => isL (l.getD (l.length - 1 - i) 0)) (n - aheadN l) = behindN l := by rw [hn]; rfl
  rw [e1] at F1
  rw [e2] at F2
  have HL := Lib.hid (mid_length l)
  rw [← hn] at h1 h2 HL
  have SM := Lib.hid (fun w' (x : Ext V w') => seenL_mid (SN.out.ext x))
  have QN := Lib.hid (fun (h : coreB l = false) => And.intro (coreL_no h) (coreN_no h))
  have QY := Lib.hid (fun (h : coreB l = true) => And.intro (coreL_yes h) (coreN_yes h))
  have QB := Lib.hid (coreB_iff (l := l))
  have QM := Lib.hid (fun i (h : i < (midL l).length) => coreB_no (l := l) h)
  have HX := Lib.hid X0
  generalize coreL l = cl at *
  generalize coreN l = cn at *
  generalize coreB l = cb at *
  generalize aheadN l = a at *
  generalize behindN l = b at *
  generalize midL l = mid at *
  have hb : b ≤ n := by omega
  have W1 : IntKind.i64.wrap ((n : Int) - a) = ((n - a : Nat) : Int) := by rw [IntWalk.i64_in _ (by omega)]; omega
  have W2 : IntKind.i64.wrap ((n : Int) - b) = ((n - b : Nat) : Int) := by rw [IntWalk.i64_in _ (by omega)]; omega
  clear hs hn X0 e1 e2
  go_enter Tryz.func38, Tryz.ntmps38
  go_wp2_with fail
  rw [← hV]
  have q0 := k0.cell 0
  have q1 := k1.cell 0
  dsimp only [List.getElem?_cons_zero] at q0 q1
  clear hV
  refine (F1.out _ (Ext.refl _)).mono ?_; rintro e w1 ⟨rfl, x1⟩
  have q0 := x1.at q0
  have q1 := x1.at q1
  have X1 := Lib.hid x1
  clear x1 F1
  go_wp2_with fail
  refine (F2.out _ X1.out).mono ?_; rintro e w2 ⟨rfl, x2⟩
  have q0 := x2.at q0
  have X2 := Lib.hid (X1.out.trans x2)
  clear x2 F2 X1 k0 k1
  have X2w := Lib.hid (HX.out.trans X2.out)
  rw [show n - a - b = n - b - a by omega] at HL
  have ham : n - b - a + a ≤ c := by omega
  have han : a + (n - b - a) ≤ n := by omega
  obtain ⟨m, hmm⟩ : ∃ m, m = n - b - a := ⟨_, rfl⟩
  have hab : a ≤ n - b := by omega
  have hnb : n - b ≤ c := by omega
  by_cases hm0 : m < 1
  · have hm0' : ((n - b - a : Nat) : Int) < 1 := by omega
    have HF := Lib.hid (show cb = false by
      cases h : cb with
      | false => rfl
      | true => have := (QB.out.1 h).1; have := HL.out; omega)
    obtain ⟨rfl, rfl⟩ := QN.out HF.out
    clear hmm hm0
    by_cases hca : c = a
    · go_wp2_with fail
      go_ret2
      exact ⟨rfl, X2w.out⟩
    · go_wp2_with fail
      go_ret2
      exact ⟨rfl, X2w.out⟩
  · have hca : ¬ c = a := by omega
    have SM2 := Lib.hid (fun k w' (x : Ext w2 w') (h : k < m) => show w'.cell? ((ad.add a).add k) = some (.int .i64 (mid.getD k 0)) by
      obtain ⟨ad', e, hc⟩ := SeenL.get (SM.out w' (X2.out.trans x)) (k := k) (by rw [HL.out, ← hmm]; exact h)
      cases e
      exact hc)
    have HM := Lib.hid hmm
    by_cases hm4 : 40 < m
    · have hm0' : ¬ ((n - b - a : Nat) : Int) < 1 := by omega
      have hm4' : (40 : Int) < ((n - b - a : Nat) : Int) := by omega
      have HF := Lib.hid (show cb = false by
        cases h : cb with
        | false => rfl
        | true => have := (QB.out.1 h).2.1; have := HL.out; omega)
      obtain ⟨rfl, rfl⟩ := QN.out HF.out
      clear hmm hm0 hm4
      go_wp2_with fail
      go_ret2
      exact ⟨rfl, X2w.out⟩
    · obtain ⟨cs, hmk, hcs⟩ := make_bytes Tryz.prog 132 5 (n - b - a) Tryz.underlying132 (by kernel_rfl) (by omega)
      have hm0' : ¬ ((n - b - a : Nat) : Int) < 1 := by omega
      have hm4' : ¬ (40 : Int) < ((n - b - a : Nat) : Int) := by omega
      have hm64 : (m : Int) ≤ 40 := by omega
      have hm64' : 1 ≤ (m : Int) := by omega
      have KG := Lib.hid (show Blk (w2.alloc (.cells cs 5)) w2.heap.size 5 (bv (curL mid 0)) by
        rw [cur_zero, HL.out, ← hcs]; exact Blk.new _ _ _)
      clear hcs hmm hm0 hm4
      go_wp2_with fail
      rw [← HM.out]
      rw [← HM.out] at HL
      clear HM hm0' hm4' hmk h1 h2 W1 W2 hab hnb ham han hb SM hnc hc hm SN
      have XG := Lib.hid ((Ext.refl w2).alloc (.cells cs 5))
      generalize w2.alloc (.cells cs 5) = W at *
      generalize ad.add a = ae at *
      generalize c - a = cz at *
      obtain ⟨G, hG⟩ : ∃ G, G = w2.heap.size := ⟨_, rfl⟩
      rw [← hG] at KG ⊢
      have HG := Lib.hid (show w2.heap.size ≤ G by omega)
      clear hG q0 X2 hca hmf
      go_loopw [41] (fun i wr => ∃ k : Nat, k ≤ m ∧ i = .int .i64 k ∧ Hid (Ext w2 wr) ∧ Hid (Blk wr G 5 (bv (curL mid k))) ∧ Hid (∀ j, j < k → isL (mid.getD j 0) = true)) (fun i _ => m - (intOf i).toNat)
      case atStart => exact ⟨0, by omega, rfl, XG, KG, Lib.hid (fun j hj => absurd hj (by omega))⟩
      case round =>
        obtain ⟨k, hk, rfl, xr, kr, hall⟩ := hrel
        by_cases hlt : k < m
        · have p := SM2.out k wr xr.out hlt
          have CS := Lib.hid (cur_set (mid := mid) (k := k) (by rw [HL.out]; exact hlt))
          have C := Lib.hid (fun w' => small_any (mid.getD k 0) w')
          have g0 := kr.out.cell k
          have g1 := kr.out.free k
          rw [bv_at (by rw [cur_length (by rw [HL.out]; exact hk), HL.out]; exact hlt)] at g0
          have NO := Lib.hid (QM.out k (by rw [HL.out]; exact hlt))
          obtain ⟨x, hxx⟩ : ∃ x, mid.getD k 0 = x := ⟨_, rfl⟩
          rw [hxx] at p CS C NO
          have HXX := Lib.hid hxx
          clear hxx
          go_wp2_with fail
          refine (C.out _).mono ?_; rintro e w3 ⟨rfl, x3⟩
          have g0 := x3.at g0
          have g1 := (kr.out.ext x3).free k
          have X3 := Lib.hid ((xr.out.trans x3).setCell (p := ⟨G, k, none⟩) HG.out (.int .u8 (small x)))
          have K3 := Lib.hid (show Blk (w3.setCell ⟨G, k, none⟩ (.int .u8 (small x))) G 5 (bv (curL mid (k + 1))) by rw [← CS.out]; exact (kr.out.ext x3).set k _)
          clear x3 C kr xr CS
          have X4 := Lib.hid (X2w.out.trans X3.out)
          have HY := Lib.hid (show (small x == 0) = !isL x by unfold isL; by_cases h : small x = 0 <;> simp [h])
          generalize small x = y at *
          cases hb : isL x with
          | false =>
            rw [hb] at HY NO
            have hy : (y == 0) = true := HY.out
            have HF := Lib.hid (NO.out rfl)
            obtain ⟨rfl, rfl⟩ := QN.out HF.out
            clear hb HY
            go_wp2_with fail
            go_ret2
            exact ⟨rfl, X4.out⟩
          | true =>
            rw [hb] at HY
            have hy : (y == 0) = false := HY.out
            have HA := Lib.hid (show ∀ j, j < k + 1 → isL (mid.getD j 0) = true from fun j hj => by
              by_cases e : j = k
              · rw [e, HXX.out]; exact hb
              · exact hall.out j (by omega))
            clear hb HY
            go_wp2_with fail
            go_roundw
            case rel => exact ⟨k + 1, by omega, by go_num, X3, K3, HA⟩
            case measure => simp [intOf]; omega
        · obtain rfl : k = m := by omega
          have hz := HL.out
          have STR := SeenB.str (P := Tryz.prog) (kr.out.seen rfl) 132 9 5 k k Tryz.underlying132 Tryz.underlying5 Tryz.underlying9 (by rw [cur_length (by omega), hz])
          have HF := Lib.hid (show cb = true from QB.out.2 ⟨by omega, by omega, fun c hc => by
            obtain ⟨i, hi, rfl⟩ := List.getElem_of_mem hc
            have := hall.out i (by omega)
            simpa [List.getD, hi] using this⟩)
          obtain ⟨rfl, rfl⟩ := QY.out HF.out
          have hcf : curL mid k = byteL mid := by rw [← hz, cur_full]
          rw [hcf] at STR
          have X4 := Lib.hid (X2w.out.trans xr.out)
          clear hz hcf
          go_wp2_with fail
          go_ret2
          exact ⟨rfl, X4.out⟩
set_option maxRecDepth 100000 in
set_option maxHeartbeats 4000000 in
theorem core_any (A : Option Addr) (l : List Int) (n c : Nat) (w : World) (hs : SeenL w A l) (hn : n = l.length) (hnc : n ≤ c) (hc : c ≤ maxLen) :
    Calls Tryz.prog 38 #[.slice A n c] w (Ret w (.tuple #[.string ⟨(coreL l).toArray⟩, .int .i64 (coreN l)])) := by
  rcases A with _ | ad
  · have hl : l = [] := by
      rcases l with _ | ⟨b, l⟩
      · rfl
      · obtain ⟨_, e, _⟩ := hs.get (k := 0) (by simp); cases e
    subst hl
    have e1 : coreL [] = [] := by kernel_rfl
    have e2 : coreN [] = 0 := by kernel_rfl
    have hn0 : n = 0 := hn
    clear hn
    subst hn0
    rw [e1, e2]
    have F1 := Lib.hid (fun cap w' => first_any 59 cap (fun _ => false) 0 w' (by omega) enters1 (fun i _ h => absurd h (by omega)))
    have F2 := Lib.hid (fun cap w' => first_any 62 cap (fun _ => false) 0 w' (by omega) enters2 (fun i _ h => absurd h (by omega)))
    have hmf : ∀ (fn : Fn) (first cap : Array Value) (w : World), (Instr.makeFunc fn first cap).run Tryz.prog w = .ok (.func fn first cap) w := fun _ _ _ _ => rfl
    clear hs hnc hc
    go_enter Tryz.func38, Tryz.ntmps38
    go_wp2_with fail
    obtain ⟨V, hV⟩ : ∃ V, V = (w.alloc (.cells #[.slice none 0 c] 48)).alloc (.cells #[.func (.func 59) #[] #[.pointer (some ⟨w.heap.size, 0, none⟩)]] 118) := ⟨_, rfl⟩
    have X0 : Ext w V := by rw [hV]; exact ((Ext.refl _).alloc _).alloc _
    have k0 : Blk V w.heap.size 48 [.slice none 0 c] := by rw [hV]; exact (Blk.lit _ _ _ _ rfl).ext ((Ext.refl _).alloc _)
    have k1 : Blk V (w.heap.size + 1) 118 [.func (.func 59) #[] #[.pointer (some ⟨w.heap.size, 0, none⟩)]] := by rw [hV]; exact Blk.lit _ _ _ _ (by simp)
    rw [← hV]
    have q0 := k0.cell 0
    have q1 := k1.cell 0
    dsimp only [List.getElem?_cons_zero] at q0 q1
    clear hV
    refine (F1.out _ _).mono ?_; rintro e w1 ⟨rfl, x1⟩
    have q0 := x1.at q0
    have q1 := x1.at q1
    have X1 := Lib.hid (X0.trans x1)
    rw [show firstF (fun _ => false) 0 = 0 from rfl]
    clear x1 F1 X0
    go_wp2_with fail
    refine (F2.out _ _).mono ?_; rintro e w2 ⟨rfl, x2⟩
    have q0 := x2.at q0
    have X2 := Lib.hid (X1.out.trans x2)
    rw [show firstF (fun _ => false) 0 = 0 from rfl]
    clear x2 F2 X1 k0 k1
    go_wp2_with fail
    all_goals
      go_ret2
      exact ⟨rfl, X2.out⟩
  · exact core_some ad l n c w hs hn hnc hc
end L12
end Go.Proofs.YtmmgmcfhlhghoaaGreatDoor

namespace Go.Proofs.YtmmgmcfhlhghoaaGreatDoor
open Go.RowKit
open Go.Lib hiding intOf
namespace L12
open L10 (TN plainB patB tn)
open L11 (valsL TrieAt vals_any)

/-- Is it the exception at k? -/
def hitE (l : List WP) (t : List UInt8) (k : Nat) : Bool := (l[k]?).any fun x => decide (x.s.data.toList = t)
theorem hitE_at {l : List WP} {t : List UInt8} {k : Nat} (h : k < l.length) : hitE l t k = decide (l[k].s.data.toList = t) := by
  rw [hitE, List.getElem?_eq_getElem h]; rfl
def atE (l : List WP) (t : List UInt8) : Nat := firstF (hitE l t) l.length
def idxE (l : List WP) (t : List UInt8) : Int := if atE l t < l.length then (atE l t : Int) else -1
theorem places_hit {p : List TN} {l : List WP} {t : List UInt8} (h : atE l t < l.length) : placesL p (l.map tn) t = l[atE l t].ns := by
  obtain ⟨_, h2, h3⟩ := firstF_spec (hitE l t) l.length
  have e : (l.map tn).find? (fun x => decide (x.1 = t)) = some (tn l[atE l t]) := by
    rw [List.find?_eq_some_iff_getElem]
    have h4 : hitE l t (atE l t) = true := h3 h
    rw [hitE_at h] at h4
    refine ⟨h4, atE l t, by simpa using h, by simp, fun j hj => ?_⟩
    have h5 := h2 j hj
    rw [hitE_at (by have : j < atE l t := hj; omega)] at h5
    simp only [List.getElem_map, tn]
    simpa using h5
  rw [placesL, e]
  rfl
theorem places_none {p : List TN} {l : List WP} {t : List UInt8} (h : ¬ atE l t < l.length) : placesL p (l.map tn) t = oddL p t := by
  obtain ⟨h1, h2, _⟩ := firstF_spec (hitE l t) l.length
  have h0 : atE l t = l.length := by
    have : atE l t ≤ l.length := h1
    omega
  have e : (l.map tn).find? (fun x => decide (x.1 = t)) = none := by
    rw [List.find?_eq_none]
    intro x hx
    obtain ⟨y, hy, rfl⟩ := List.mem_map.1 hx
    obtain ⟨i, hi, rfl⟩ := List.getElem_of_mem hy
    have h5 := h2 i (by rw [show firstF (hitE l t) l.length = l.length from h0]; exact hi)
    rw [hitE_at hi] at h5
    show ¬ (decide (l[i].s.data.toList = t) = true)
    rw [h5]
    simp
  rw [placesL, e]
theorem bytes_eq (s t : ByteArray) : (s.toList == t.toList) = decide (s.data.toList = t.data.toList) := by
  rw [ByteArray.toList_eq, ByteArray.toList_eq]
  by_cases e : s.data.toList = t.data.toList
  · rw [decide_eq_true e]; simpa using e
  · rw [decide_eq_false e]; simpa using e
/-- The closure. -/
theorem isx_any (s t : ByteArray) (u : Value) (r : Nat) (w : World) (hr : w.cell? ⟨r, 0, none⟩ = some (.string t)) :
    Calls Tryz.prog 64 #[.agg #[.string s, u], .pointer (some ⟨r, 0, none⟩)] w (Ret w (.bool (decide (s.data.toList = t.data.toList)))) := by
  have hlt := World.block_lt_of_cell? w _ hr
  simp only at hlt
  go_enter Tryz.func64, Tryz.ntmps64
  go_wp2_with fail
  go_ret
  exact ⟨L04.ret_b (bytes_eq s t), (Ext.refl _).alloc _⟩
set_option maxRecDepth 100000 in
set_option maxHeartbeats 4000000 in
theorem index_any (A : Option Addr) (l : List WP) (n c : Nat) (t : ByteArray) (r : Nat) (w : World) (hs : SeenW w A l) (hn : n = l.length) (hm : n ≤ 9223372036854775807) (hr : w.cell? ⟨r, 0, none⟩ = some (.string t)) :
    Calls Tryz.prog 63 #[.slice A n c, .func (.func 64) #[] #[.pointer (some ⟨r, 0, none⟩)]] w (Ret w (.int .i64 (idxE l t.data.toList))) := by
  have SN := Lib.hid hs
  have HN := Lib.hid hn
  have HR := Lib.hid hr
  clear hs hn hr
  go_enter Tryz.func63, Tryz.ntmps63
  go_wp2_with fail
  go_loopw [8] (fun i wr => ∃ k : Nat, k ≤ n ∧ i = .int .i64 k ∧ Hid (∀ j, j < k → hitE l t.data.toList j = false) ∧ Hid (Ext w wr)) (fun i _ => n - (intOf i).toNat)
  case atStart => exact ⟨0, by omega, rfl, Lib.hid (fun j hj => absurd hj (by omega)), Lib.hid (Ext.refl _)⟩
  case round =>
    obtain ⟨k, hk, rfl, hall, X⟩ := hrel
    by_cases hlt : k < n
    · have hlt' : k < l.length := by rw [← HN.out]; exact hlt
      obtain ⟨⟨ad, hA, u0, u1⟩, _⟩ := (SN.out.ext X.out).get hlt'
      have YES := Lib.hid (fun h : hitE l t.data.toList k = true => show (k : Int) = idxE l t.data.toList by
        have e : atE l t.data.toList = k := firstF_eq (by omega) hall.out (fun _ => h)
        rw [idxE, e, if_pos hlt'])
      have NO := Lib.hid (fun h : hitE l t.data.toList k = false => show ∀ j, j < k + 1 → hitE l t.data.toList j = false from fun j hj => if e : j = k then e ▸ h else hall.out j (by omega))
      rw [hitE_at hlt'] at YES NO
      have C := Lib.hid (fun u => isx_any l[k].s t u r wr (X.out.at HR.out))
      generalize decide (l[k].s.data.toList = t.data.toList) = b at *
      generalize l[k].s = xs at *
      generalize l[k].A = xA at *
      generalize l[k].ns.length = xn at *
      generalize l[k].c = xc at *
      subst hA
      go_wp2_with fail
      refine (C.out _).mono ?_; rintro e w' ⟨rfl, x1⟩
      have X1 := Lib.hid (X.out.trans x1)
      clear x1 C u0 u1 X
      cases b with
      | true =>
        have H := Lib.hid (YES.out rfl)
        clear YES NO
        go_wp2_with fail
        go_ret
        exact ⟨ret_int H.out, X1.out⟩
      | false =>
        have H := Lib.hid (NO.out rfl)
        clear YES NO
        go_wp2_with fail
        go_roundw
        case rel => exact ⟨k + 1, by omega, by go_num, H, X1⟩
        case measure => simp [intOf]; omega
    · obtain rfl : k = n := by omega
      have H := Lib.hid (show -1 = idxE l t.data.toList by
        have e : atE l t.data.toList = l.length := firstF_eq (Nat.le_refl _) (by rw [← HN.out]; exact hall.out) (fun h => absurd h (by omega))
        rw [idxE, e, if_neg (by omega)])
      go_wp2_with fail
      go_ret
      exact ⟨ret_int H.out, X.out⟩
end L12
end Go.Proofs.YtmmgmcfhlhghoaaGreatDoor

namespace Go.Proofs.YtmmgmcfhlhghoaaGreatDoor
open Go.RowKit
open Go.Lib hiding intOf
namespace L12
open L10 (TN plainB patB tn)
open L11 (valsL TrieAt vals_any valsL_length list_size)

/-- What places leaves, and answers. -/
def PlacesQ (w : World) (B : Nat) (F : Nat → Prop) (p : List TN) (l : List Int) (e : Ending) (w' : World) : Prop :=
  But (Only B) w w' ∧ ∃ F' A c, e = .returned (.slice A l.length c) ∧ TrieAt w' B F' p ∧ (∀ k, F' k → F k ∨ (w.heap.size ≤ k ∧ k < w'.heap.size)) ∧ SeenL w' A l

theorem rem_two {v : Int} (h : 0 ≤ v) : v.tmod 2 = v % 2 := Int.tmod_eq_emod_of_nonneg h
set_option maxRecDepth 100000 in
set_option maxHeartbeats 4000000 in
theorem places_any (w : World) (B : Nat) (F : Nat → Prop) (p : List TN) (T : TrieAt w B F p) (A : Option Addr) (l : List WP) (n c : Nat) (t : ByteArray) (hs : SeenW w A l) (hn : n = l.length) (hm : n ≤ 9223372036854775807) (ht : plainB t.data.toList = true) :
    Calls Tryz.prog 40 #[.pointer (some ⟨B, 0, none⟩), .slice A n c, .string t] w (PlacesQ w B F p (placesL p (l.map tn) t.data.toList)) := by
  have hmf : ∀ (fn : Fn) (first cap : Array Value) (w : World), (Instr.makeFunc fn first cap).run Tryz.prog w = .ok (.func fn first cap) w := fun _ _ _ _ => rfl
  obtain ⟨V, hV⟩ : ∃ V, V = w.alloc (.cells #[.string t] 9) := ⟨_, rfl⟩
  have X0 : Ext w V := by rw [hV]; exact (Ext.refl _).alloc _
  have k0 : Blk V w.heap.size 9 [.string t] := by rw [hV]; exact Blk.lit _ _ _ _ rfl
  have hl := L11.plain_len ht
  rw [list_size] at hl
  have IX := Lib.hid (index_any A l n c t w.heap.size V (hs.ext X0) hn hm (k0.cell 0))
  have SN := Lib.hid (fun w' (x : Ext V w') => (hs.ext X0).ext x)
  by_cases hh : atE l t.data.toList < l.length
  · rw [idxE, if_pos hh] at IX
    have hp : placesL p (l.map tn) t.data.toList = l[atE l t.data.toList].ns := places_hit hh
    rw [hp]
    generalize atE l t.data.toList = k at *
    have G := Lib.hid (fun w' (x : Ext V w') => (SN.out w' x).get hh)
    generalize l[k].s = xs at *
    generalize l[k].A = xA at *
    generalize l[k].ns = xn at *
    generalize l[k].c = xc at *
    have hk : (k : Int) < n := by omega
    have HX := Lib.hid X0
    have TH := Lib.hid T
    clear hp hh SN hs hn X0 ht T
    go_enter Tryz.func40, Tryz.ntmps40
    go_wp2_with fail
    rw [← hV]
    clear hV
    refine IX.out.mono ?_; rintro e w1 ⟨rfl, x1⟩
    obtain ⟨⟨ad, hA, _, u1⟩, sx⟩ := G.out w1 x1
    subst hA
    have X1 := Lib.hid (HX.out.trans x1)
    have SX := Lib.hid sx
    generalize hz : xn.length = z at *
    have HZ := Lib.hid hz
    clear x1 IX G sx k0 hz
    go_wp2_with fail
    go_ret
    exact ⟨But.of_ext X1.out, F, xA, xc, by rw [← HZ.out]; rfl, TH.out.ext X1.out, fun k hk => .inl hk, SX.out⟩
  · rw [idxE, if_neg hh] at IX
    rw [places_none hh]
    have HX := Lib.hid X0
    have VA := Lib.hid (fun w' (x : Ext V w') => vals_any w' B F p ((T.ext X0).ext x) t)
    have TH := Lib.hid T
    have HO := Lib.hid (fun i => oddTo_succ p t.data.toList i)
    have HO0 := Lib.hid (show oddTo p t.data.toList 0 = [] from rfl)
    have HOL := Lib.hid (fun i => oddTo_length p t.data.toList i)
    have HOE := Lib.hid (show oddL p t.data.toList = oddTo p t.data.toList t.size by rw [← list_size]; rfl)
    have HVL := Lib.hid (show (valsL p t.data.toList).length = t.size + 1 by rw [valsL_length ht, list_size])
    have HVN := Lib.hid (fun i => odd_nonneg p t.data.toList i)
    clear hh SN hs hn X0 ht T
    go_enter Tryz.func40, Tryz.ntmps40
    go_wp2_with fail
    rw [← hV]
    clear hV
    refine IX.out.mono ?_; rintro e w1 ⟨rfl, x1⟩
    have q0 := (k0.ext x1).cell 0
    dsimp only [List.getElem?_cons_zero] at q0
    have X1 := Lib.hid x1
    have TB := Lib.hid ((TH.out.ext HX.out).ext x1).lt
    clear x1 IX
    go_wp2_with fail
    refine (VA.out _ X1.out).mono ?_; rintro e w2 ⟨b2, F2, Av, cv, rfl, T2, hF2, s2, _⟩
    have RB := Lib.hid (show ¬ (w.heap.size = B) by have := TH.out.lt; omega)
    have q0 := b2.at q0 RB.out
    have NX := Lib.hid (show But (Only B) w w2 from (But.of_ext (HX.out.trans X1.out)).trans b2 (fun i hi => .inl hi))
    have T2 := Lib.hid T2
    have HF2 := Lib.hid (show ∀ k, F2 k → F k ∨ (w.heap.size ≤ k ∧ k < w2.heap.size) from fun k hk => (hF2 k hk).imp id (fun h => ⟨Nat.le_trans (HX.out.trans X1.out).size h.1, h.2⟩))
    have S2 := Lib.hid s2
    obtain ⟨z, hz⟩ : ∃ z, z = (valsL p t.data.toList).length := ⟨_, rfl⟩
    have hzt : z = t.size + 1 := by rw [hz, HVL.out]
    have HZ := Lib.hid hz
    rw [← hz]
    generalize valsL p t.data.toList = vl at *
    generalize oddL p t.data.toList = od at *
    generalize oddTo p t.data.toList = ot at *
    clear hz b2 s2 hF2 VA k0
    have hz64 : (t.size : Int) ≤ 40 := by omega
    go_wp2_with fail
    go_loopw [9, 26] (fun v i wr => ∃ (vv : Value) (k : Nat), vv = v ∧ k ≤ t.size ∧ i = .int .i64 k ∧ Hid (OwnI w2 wr vv (ot k))) (fun _ i _ => t.size - (intOf i).toNat)
    case atStart => exact ⟨_, 0, rfl, Nat.zero_le _, rfl, Lib.hid (by rw [HO0.out]; exact OwnI.nil (Ext.refl _))⟩
    case round =>
      obtain ⟨vv, k, hvv, hk, rfl, ho⟩ := hrel
      subst hvv
      by_cases hlt : k < t.size
      · obtain ⟨ad, rfl, hc⟩ := (S2.out.ext ho.out.2).get (k := k) (by rw [← HZ.out]; omega)
        have hn := HVN.out k
        have hkz : (k : Int) < z := by omega
        have hs := HO.out k
        have hol := HOL.out k
        generalize vl.getD k 0 = x at *
        by_cases h0 : k = 0
        · subst h0
          have H2 := Lib.hid (show ot (0 + 1) = ot 0 by rw [hs, if_neg (fun h => absurd h.1 (by omega))]; simp)
          clear hs hn hc
          go_wp2_with fail
          go_roundw
          case rel => exact ⟨_, 0 + 1, rfl, by omega, by go_num, Lib.hid (by rw [H2.out]; exact ho.out)⟩
          case measure => simp [intOf]; omega
        · have h0' : (0 : Int) < (k : Int) := by omega
          by_cases hx : x % 2 = 1
          · have hr : (x.tmod 2 == 1) = true := by rw [rem_two hn, hx]; rfl
            have H2 := Lib.hid (show ot (k + 1) = ot k ++ [(k : Int)] by rw [hs, if_pos ⟨by omega, hx⟩])
            obtain ⟨v3, w3, r3, o3⟩ := ho.out.put (k : Int) (by omega) 48
            have O3 := Lib.hid o3
            clear hs hn hx o3
            go_wp2_with (at_builtin; refine wpList_ran rfl _ _ rfl r3 ?_)
            go_roundw
            case rel => exact ⟨_, k + 1, rfl, by omega, by go_num, Lib.hid (by rw [H2.out]; exact O3.out)⟩
            case measure => simp [intOf]; omega
          · have hr : (x.tmod 2 == 1) = false := by rw [rem_two hn]; simpa using hx
            have H2 := Lib.hid (show ot (k + 1) = ot k by rw [hs, if_neg (fun h => hx h.2)]; simp)
            clear hs hn hx
            go_wp2_with fail
            go_roundw
            case rel => exact ⟨_, k + 1, rfl, by omega, by go_num, Lib.hid (by rw [H2.out]; exact ho.out)⟩
            case measure => simp [intOf]; omega
      · obtain rfl : k = t.size := by omega
        obtain ⟨A9, c9, rfl, s9, _⟩ := ho.out.seen
        have FIN := Lib.hid (show PlacesQ w B F p od (.returned (.slice A9 (ot t.size).length c9)) wr from by
          refine ⟨NX.out.trans (But.of_ext (S := Only B) ho.out.2) (fun i hi => .inl hi), F2, A9, c9, by rw [HOE.out], T2.out.ext ho.out.2, fun k hk => (HF2.out k hk).imp id (fun h => ⟨h.1, Nat.lt_of_lt_of_le h.2 ho.out.2.size⟩), by rw [HOE.out]; exact s9⟩)
        go_wp2_with fail
        go_ret
        exact FIN.out
end L12
end Go.Proofs.YtmmgmcfhlhghoaaGreatDoor

namespace Go.Proofs.YtmmgmcfhlhghoaaGreatDoor
open Go.RowKit
open Go.Lib hiding intOf
namespace L12
open L10 (TN plainB patB tn)
open L11 (valsL TrieAt vals_any valsL_length list_size)

theorem places_mem {p : List TN} {l : List WP} {t : List UInt8} {v : Int} (h : v ∈ placesL p (l.map tn) t) : (∃ x ∈ l, v ∈ x.ns) ∨ (1 ≤ v ∧ v < t.length) := by
  by_cases hh : atE l t < l.length
  · rw [places_hit hh] at h
    exact .inl ⟨_, List.getElem_mem hh, h⟩
  · rw [places_none hh] at h
    exact .inr (odd_in h)
/-- The points of the places ahead of k. -/
def keptL (pl : List Int) (q : Int → Bool) (a : Nat) (k : Nat) : List Int := ((pl.take k).filter q).map fun x => (a : Int) + x
theorem kept_succ (pl : List Int) (q : Int → Bool) (a : Nat) {k : Nat} (h : k < pl.length) : keptL pl q a (k + 1) = keptL pl q a k ++ if q (pl.getD k 0) = true then [(a : Int) + pl.getD k 0] else [] := by
  have e1 : pl.take (k + 1) = pl.take k ++ [pl.getD k 0] := by
    rw [List.take_succ_eq_append_getElem h]; simp [List.getD, h]
  unfold keptL
  rw [e1, List.filter_append, List.map_append]
  congr 1
  cases hq : q (pl.getD k 0) with
  | true =>
    rw [if_pos rfl]
    simp only [List.filter_cons, hq, List.filter_nil]
    rfl
  | false =>
    simp only [List.filter_cons, hq, List.filter_nil]
    rfl
theorem kept_length (pl : List Int) (q : Int → Bool) (a k : Nat) : (keptL pl q a k).length ≤ k := by
  unfold keptL
  rw [List.length_map]
  exact Nat.le_trans (List.length_filter_le _ _) (by rw [List.length_take]; omega)
theorem kept_full (pl : List Int) (q : Int → Bool) (a : Nat) : keptL pl q a pl.length = (pl.filter q).map fun x => (a : Int) + x := by simp [keptL]
/-- The closure. -/
theorem may_any (x left right : Int) (n a b c : Nat) (w : World) (ha : w.cell? ⟨a, 0, none⟩ = some (.int .i64 left)) (hb : w.cell? ⟨b, 0, none⟩ = some (.int .i64 n)) (hc : w.cell? ⟨c, 0, none⟩ = some (.int .i64 right)) :
    Calls Tryz.prog 39 #[.int .i64 x, .pointer (some ⟨a, 0, none⟩), .pointer (some ⟨b, 0, none⟩), .pointer (some ⟨c, 0, none⟩)] w (Ret w (.bool (mayB n left right x))) := by
  obtain ⟨y, hy⟩ : ∃ y, IntKind.i64.wrap ((n : Int) - x) = y := ⟨_, rfl⟩
  unfold mayB
  rw [hy]
  by_cases h1 : left ≤ x
  · by_cases h2 : x ≤ n
    · by_cases h3 : right ≤ y
      all_goals
        go_enter Tryz.func39, Tryz.ntmps39
        go_wp2_with fail
        go_ret
        exact ⟨L04.ret_b (by simp [h1, h2, h3]), Ext.refl _⟩
    · have e : (decide (x ≤ (n : Int)) : Bool) = false := decide_eq_false h2
      go_enter Tryz.func39, Tryz.ntmps39
      go_wp2_with fail
      go_ret
      exact ⟨rfl, Ext.refl _⟩
  · have e : (decide (left ≤ x) : Bool) = false := decide_eq_false h1
    go_enter Tryz.func39, Tryz.ntmps39
    go_wp2_with fail
    go_ret
    exact ⟨rfl, Ext.refl _⟩
/-- What Points leaves, and answers. -/
def PointsQ (w : World) (B : Nat) (F : Nat → Prop) (p : List TN) (l : List Int) (e : Ending) (w' : World) : Prop :=
  But (Only B) w w' ∧ ∃ F' A c, e = .returned (.slice A l.length c) ∧ TrieAt w' B F' p ∧ (∀ k, F' k → F k ∨ (w.heap.size ≤ k ∧ k < w'.heap.size)) ∧ SeenL w' A l ∧ ∀ ad, A = some ad → w.heap.size ≤ ad.block

set_option maxRecDepth 100000 in
set_option maxHeartbeats 4000000 in
theorem points_any (w : World) (B : Nat) (F : Nat → Prop) (p : List TN) (T : TrieAt w B F p) (A : Option Addr) (l : List WP) (n c : Nat) (W : Option Addr) (u : List Int) (m d : Nat) (left right : Int) (hs : SeenW w A l) (hn : n = l.length) (hm : n ≤ 9223372036854775807)
    (ok : ∀ x ∈ l, x.Ok ∧ x.ns.length ≤ 900000) (su : SeenL w W u) (hu : m = u.length) (hmd : m ≤ d) (hd : d ≤ maxLen) :
    Calls Tryz.prog 30 #[.pointer (some ⟨B, 0, none⟩), .slice A n c, .slice W m d, .int .i64 left, .int .i64 right] w (PointsQ w B F p (pointsL p (l.map tn) u left right)) := by
  have hmf : ∀ (fn : Fn) (first cap : Array Value) (w : World), (Instr.makeFunc fn first cap).run Tryz.prog w = .ok (.func fn first cap) w := fun _ _ _ _ => rfl
  obtain ⟨V, hV⟩ : ∃ V, V = (w.alloc (.cells #[.int .i64 left] 3)).alloc (.cells #[.int .i64 right] 3) := ⟨_, rfl⟩
  have X0 : Ext w V := by rw [hV]; exact ((Ext.refl _).alloc _).alloc _
  have k0 : Blk V w.heap.size 3 [.int .i64 left] := by rw [hV]; exact (Blk.lit _ _ _ _ rfl).ext ((Ext.refl _).alloc _)
  have k1 : Blk V (w.heap.size + 1) 3 [.int .i64 right] := by rw [hV]; exact Blk.lit _ _ _ _ (by simp)
  have CO := Lib.hid (core_any W u m d V (su.ext X0) hu hmd hd)
  have HIN := Lib.hid (core_in u)
  obtain ⟨t, ht⟩ : ∃ t : ByteArray, t = ⟨(coreL u).toArray⟩ := ⟨_, rfl⟩
  have htl : t.data.toList = coreL u := by rw [ht]
  have htz : t.size = (coreL u).length := by rw [ht]; rfl
  rw [← ht] at CO
  rw [← htz] at HIN
  cases hb : coreB u with
  | false =>
    rw [points_no hb]
    have h0 := coreL_no hb
    rw [h0] at ht
    subst ht
    have HX := Lib.hid X0
    have TH := Lib.hid T
    generalize coreN u = cn at *
    clear hs su hu hmd hd ok htl htz hn h0 hb HIN X0 T k0 k1
    go_enter Tryz.func30, Tryz.ntmps30
    go_wp2_with fail
    rw [← hV]
    clear hV
    refine CO.out.mono ?_; rintro e w1 ⟨rfl, x1⟩
    have X1 := Lib.hid (HX.out.trans x1)
    clear x1 CO
    go_wp2_with fail
    go_ret
    exact ⟨But.of_ext X1.out, F, none, 0, rfl, TH.out.ext X1.out, fun k hk => .inl hk, SeenL.nil, fun ad e => by cases e⟩
  | true =>
    rw [points_yes hb]
    have hpl := core_plain hb
    rw [← htl] at hpl ⊢
    have htz1 := L11.plain_len hpl
    rw [list_size] at htz1 ⊢
    have hte : t.toList.isEmpty = false := by
      rw [ByteArray.toList_eq]
      cases h : t.data.toList with
      | nil => have := list_size t; rw [h] at this; simp at this; omega
      | cons a r => rfl
    generalize coreN u = cn at *
    have PL := Lib.hid (fun w' (x : Ext V w') => places_any w' B F p ((T.ext X0).ext x) A l n c t ((hs.ext X0).ext x) hn hm hpl)
    have HW := Lib.hid (fun v (hv : v ∈ placesL p (l.map tn) t.data.toList) => show -9223372036854775808 ≤ v ∧ v ≤ 9223372036854775807 by
      rcases places_mem hv with ⟨x, hx, h⟩ | h
      · exact (ok x hx).1.wide v h
      · rw [list_size] at h; omega)
    have HLN := Lib.hid (show (placesL p (l.map tn) t.data.toList).length ≤ 900000 by
      by_cases hh : atE l t.data.toList < l.length
      · rw [places_hit hh]
        exact (ok _ (List.getElem_mem hh)).2
      · rw [places_none hh]
        unfold oddL
        rw [List.length_map]
        refine Nat.le_trans (List.length_filter_le _ _) ?_
        rw [List.length_range, list_size]; omega)
    have HM := Lib.hid (show cn + t.size ≤ m ∧ m ≤ 9223372036854775807 from ⟨by have := HIN.out; omega, by unfold maxLen at hd; omega⟩)
    generalize placesL p (l.map tn) t.data.toList = pl at *
    have KS := Lib.hid (fun k => kept_succ pl (mayB t.size left right) cn (k := k))
    have KL := Lib.hid (fun k => kept_length pl (mayB t.size left right) cn k)
    have KZ := Lib.hid (show keptL pl (mayB t.size left right) cn 0 = [] from rfl)
    have MB := Lib.hid (fun x (h : mayB t.size left right x = true) => show x ≤ (t.size : Int) by
      unfold mayB at h
      simp only [Bool.and_eq_true, decide_eq_true_eq] at h
      exact h.2.1)
    have MA0 := Lib.hid (fun x w' (a b c : Nat) h0 h1 h2 => may_any x left right t.size a b c w' h0 h1 h2)
    rw [← kept_full]
    generalize keptL pl (mayB t.size left right) cn = ot at *
    generalize mayB t.size left right = q at *
    obtain ⟨z, hz⟩ : ∃ z, z = pl.length := ⟨_, rfl⟩
    have HZ := Lib.hid hz
    have hz9 : (z : Int) ≤ 900000 := by have := HLN.out; omega
    unfold PlacesQ at PL
    rw [← hz] at PL ⊢
    clear hz
    have HX := Lib.hid X0
    have TH := Lib.hid T
    clear hs su hu hmd hd ok htl htz hn hb HIN X0 T ht hpl
    go_enter Tryz.func30, Tryz.ntmps30
    go_wp2_with fail
    rw [← hV]
    clear hV
    refine CO.out.mono ?_; rintro e w1 ⟨rfl, x1⟩
    have k0 := k0.ext x1
    have k1 := k1.ext x1
    have X1 := Lib.hid x1
    clear x1 CO
    go_wp2_with fail
    have k2 := Blk.lit w1 w1.heap.size 3 #[.int .i64 t.size] rfl
    have y1 := (Ext.refl w1).alloc (.cells #[.int .i64 t.size] 3)
    have h1B : w.heap.size + 1 < w1.heap.size := k1.lt
    have hB := TH.out.lt
    generalize hW2 : w1.alloc (.cells #[.int .i64 t.size] 3) = w2 at *
    have k0 := k0.ext y1
    have k1 := k1.ext y1
    have X2 := Lib.hid (X1.out.trans y1)
    have X2w := Lib.hid (HX.out.trans (X1.out.trans y1))
    clear y1 X1 hW2
    refine (PL.out _ X2.out).mono ?_; rintro e w3 ⟨b3, F3, Ap, cp, rfl, T3, hF3, s3⟩
    have q0 := (b3.blk k0 (show ¬ w.heap.size = B by omega)).cell 0
    have q1 := (b3.blk k1 (show ¬ w.heap.size + 1 = B by omega)).cell 0
    have q2 := (b3.blk k2 (show ¬ w1.heap.size = B by omega)).cell 0
    dsimp only [List.getElem?_cons_zero] at q0 q1 q2
    have MA := Lib.hid (fun x w' (y : Ext w3 w') => MA0.out x w' w.heap.size w1.heap.size (w.heap.size + 1) (y.at q0) (y.at q2) (y.at q1))
    have NX := Lib.hid (show But (Only B) w w3 from (But.of_ext X2w.out).trans b3 (fun i hi => .inl hi))
    have T3 := Lib.hid T3
    have HF3 := Lib.hid (show ∀ k, F3 k → F k ∨ (w.heap.size ≤ k ∧ k < w3.heap.size) from fun k hk => (hF3 k hk).imp id (fun h => ⟨Nat.le_trans X2w.out.size h.1, h.2⟩))
    have S3 := Lib.hid s3
    clear b3 s3 hF3 PL k0 k1 k2 q0 q1 q2
    go_wp2_with fail
    go_loopw [15, 37] (fun v i wr => ∃ (vv : Value) (k : Nat), vv = v ∧ k ≤ z ∧ i = .int .i64 k ∧ Hid (OwnI w3 wr vv (ot k))) (fun _ i _ => z - (intOf i).toNat)
    case atStart => exact ⟨_, 0, rfl, Nat.zero_le _, rfl, Lib.hid (by rw [KZ.out]; exact OwnI.nil (Ext.refl _))⟩
    case round =>
      obtain ⟨vv, k, hvv, hk, rfl, ho⟩ := hrel
      subst hvv
      by_cases hlt : k < z
      · have hlt' : k < pl.length := by rw [← HZ.out]; exact hlt
        obtain ⟨ad, rfl, hc⟩ := (S3.out.ext ho.out.2).get hlt'
        have hs := KS.out k hlt'
        have hol := KL.out k
        have hmem := HW.out (pl.getD k 0) (by rw [List.getD, List.getElem?_eq_getElem hlt']; exact List.getElem_mem hlt')
        have hmb := MB.out (pl.getD k 0)
        have M := Lib.hid (MA.out (pl.getD k 0) wr ho.out.2)
        generalize pl.getD k 0 = x at *
        cases hq : q x with
        | false =>
          rw [hq] at hs M
          have H2 := Lib.hid (show ot (k + 1) = ot k by rw [hs]; simp)
          clear hs hmb hmem
          go_wp2_with fail
          refine M.out.mono ?_; rintro e w5 ⟨rfl, x5⟩
          have O5 := Lib.hid (ho.out.over x5)
          clear x5 M
          go_wp2_with fail
          go_roundw
          case rel => exact ⟨_, k + 1, rfl, by omega, by go_num, Lib.hid (by rw [H2.out]; exact O5.out)⟩
          case measure => simp [intOf]; omega
        | true =>
          rw [hq] at hs M
          have H2 := Lib.hid (show ot (k + 1) = ot k ++ [(cn : Int) + x] by rw [hs]; simp)
          have hxt := hmb hq
          have hw : IntKind.i64.wrap ((cn : Int) + x) = cn + x := IntWalk.i64_in _ (by have := HM.out; omega)
          clear hs hmb hmem hxt
          go_wp2_with fail
          refine M.out.mono ?_; rintro e w5 ⟨rfl, x5⟩
          obtain ⟨v3, w6, r3, o3⟩ := (ho.out.over x5).put ((cn : Int) + x) (by have := HZ.out; have := HLN.out; omega) 48
          have O3 := Lib.hid o3
          clear x5 M o3
          go_wp2_with (at_builtin; refine wpList_ran rfl _ _ rfl r3 ?_)
          go_roundw
          case rel => exact ⟨_, k + 1, rfl, by omega, by go_num, Lib.hid (by rw [H2.out]; exact O3.out)⟩
          case measure => simp [intOf]; omega
      · obtain rfl : k = z := by omega
        obtain ⟨A9, c9, rfl, s9, a9⟩ := ho.out.seen
        have FIN := Lib.hid (show PointsQ w B F p (ot k) (.returned (.slice A9 (ot k).length c9)) wr from by
          refine ⟨NX.out.trans (But.of_ext (S := Only B) ho.out.2) (fun i hi => .inl hi), F3, A9, c9, rfl, T3.out.ext ho.out.2, fun k hk => (HF3.out k hk).imp id (fun h => ⟨h.1, Nat.lt_of_lt_of_le h.2 ho.out.2.size⟩), s9, fun ad e => Nat.le_trans NX.out.size (a9 ad e)⟩)
        go_wp2_with fail
        go_ret
        exact FIN.out
end L12
end Go.Proofs.YtmmgmcfhlhghoaaGreatDoor

namespace Go.Proofs.YtmmgmcfhlhghoaaGreatDoor
open Go.RowKit
open Go.Lib hiding intOf
namespace L12
open L10 (TN plainB patB tn rd patsB)
open L11 (valsL TrieAt NewQ new_yes new_no seenL_but blk_seenL blk_seenW wp_ok list_size)

/-- A trie that is asked. -/
structure St (V w : World) (B : Nat) (p : List TN) : Prop where
  x : Ext V w
  b : V.heap.size ≤ B
  t : ∃ F, TrieAt w B F p
theorem St.ext {V w w' : World} {B : Nat} {p : List TN} (h : St V w B p) (x : Ext w w') : St V w' B p := by
  obtain ⟨F, T⟩ := h.t
  exact ⟨h.x.trans x, h.b, F, T.ext x⟩
theorem St.lt {V w : World} {B : Nat} {p : List TN} (h : St V w B p) : B < w.heap.size := by
  obtain ⟨F, T⟩ := h.t
  exact T.lt
/-- Numbers that are not where the trie is. -/
def Kept (w : World) (B : Nat) (A : Option Addr) (vs : List Int) : Prop := SeenL w A vs ∧ ∀ ad, A = some ad → ad.block ≠ B
theorem Kept.ext {w w' : World} {B : Nat} {A : Option Addr} {vs : List Int} (h : Kept w B A vs) (x : Ext w w') : Kept w' B A vs := ⟨h.1.ext x, h.2⟩
theorem Kept.ask {w w' : World} {B : Nat} {A : Option Addr} {vs : List Int} (h : Kept w B A vs) (x : But (Only B) w w') : Kept w' B A vs := ⟨seenL_but h.1 x h.2, h.2⟩
def StP (V w : World) (B : Nat) (p : List TN) (l : List Int) (e : Ending) (w' : World) : Prop :=
  St V w' B p ∧ But (Only B) w w' ∧ ∃ A c, e = .returned (.slice A l.length c) ∧ Kept w' B A l
theorem St.points {V w : World} {B : Nat} {p : List TN} (h : St V w B p) (A : Option Addr) (l : List WP) (n c : Nat) (W : Option Addr) (u : List Int) (m d : Nat) (left right : Int) (hs : SeenW w A l) (hn : n = l.length) (hm : n ≤ 9223372036854775807)
    (ok : ∀ x ∈ l, x.Ok ∧ x.ns.length ≤ 900000) (su : SeenL w W u) (hu : m = u.length) (hmd : m ≤ d) (hd : d ≤ maxLen) :
    Calls Tryz.prog 30 #[.pointer (some ⟨B, 0, none⟩), .slice A n c, .slice W m d, .int .i64 left, .int .i64 right] w (StP V w B p (pointsL p (l.map tn) u left right)) := by
  obtain ⟨F, T⟩ := h.t
  refine (points_any w B F p T A l n c W u m d left right hs hn hm ok su hu hmd hd).mono ?_
  rintro e w' ⟨x, F', A', c', rfl, T', _, s', ha⟩
  exact ⟨⟨x.ext h.x (fun k hk => by rw [show k = B from hk]; exact h.b), h.b, F', T'⟩, x, A', c', rfl, s', fun ad e hb => by have := ha ad e; have := T.lt; omega⟩
theorem St.new {V w w' : World} {p : List TN} {e : Ending} (x : Ext V w) (h : NewQ w p e w') : ∃ B, e = .returned (.tuple #[.pointer (some ⟨B, 0, none⟩), .int .i64 0]) ∧ St V w' B p ∧ Ext w w' ∧ w.heap.size ≤ B := by
  obtain ⟨B, F, rfl, x', T, hB, _⟩ := h
  exact ⟨B, rfl, ⟨x.trans x', Nat.le_trans x.size hB, F, T⟩, x', hB⟩
/-- No exceptions. -/
theorem St.bare {V w : World} {B : Nat} {p : List TN} (h : St V w B p) (W : Option Addr) (u : List Int) (m d : Nat) (left right : Int) (su : SeenL w W u) (hu : m = u.length) (hmd : m ≤ d) (hd : d ≤ maxLen) :
    Calls Tryz.prog 30 #[.pointer (some ⟨B, 0, none⟩), .slice none 0 0, .slice W m d, .int .i64 left, .int .i64 right] w (StP V w B p (pointsL p [] u left right)) :=
  h.points none [] 0 0 W u m d left right SeenW.nil rfl (by omega) (fun x hx => by simp at hx) su hu hmd hd
end L12
end Go.Proofs.YtmmgmcfhlhghoaaGreatDoor

namespace Go.Proofs.YtmmgmcfhlhghoaaGreatDoor
open Go.ChangeShapes Go.WideShapes Go.ChangeAt Go.RowKit Go.Deep

set_option maxRecDepth 100000 in
/-- An exception by value. -/
theorem arg_exc {H : Type} {enc : TypeId × Value → H} {W : World} {base : Nat} {v : Value} {d : DataW H} {p : List MemPlace}
    (hv : Value.okWide Tryz.prog W .any base 58 v) (h : DataW.Trod enc Tryz.prog W 0 (fun _ => true) true 58 v d p) :
    ∃ x : WP, v = wpV x ∧ x.Ok ∧ SeenL W x.A x.ns := by
  obtain ⟨cs, rfl, hsz, hf⟩ := arg_fields Tryz.underlying58 (by kernel_rfl) (by kernel_rfl) hv h
  obtain ⟨u0, n0, y0, c0, t0⟩ := hf 0 _ rfl
  obtain ⟨u1, n1, y1, c1, t1⟩ := hf 1 _ rfl
  obtain rfl := two_cells hsz c0 c1
  obtain ⟨s, e0, _, hsz'⟩ := DataW.trod_string Tryz.underlying9 t0
  simp only [List.cons.injEq, and_true] at e0
  obtain ⟨A', l', c', e1, g1, g2, g3, g4⟩ := field_intsL Tryz.underlying48 Tryz.underlying3 (by kernel_rfl) t1
  exact ⟨⟨s, l', A', c'⟩, by rw [e0, e1]; rfl, ⟨g1, g2, hsz', g3⟩, g4⟩
set_option maxRecDepth 100000 in
/-- A list of exceptions. -/
theorem arg_excs {H : Type} {enc : TypeId × Value → H} {W : World} {base : Nat} {v : Value} {d : DataW H} {p : List MemPlace}
    (hv : Value.okWide Tryz.prog W .any base 23 v) (h : DataW.Trod enc Tryz.prog W 0 (fun _ => true) true 23 v d p) :
    ∃ (A : Option Addr) (l : List WP) (c : Nat), v = .slice A l.length c ∧ l.length ≤ c ∧ c ≤ maxLen ∧ (∀ x ∈ l, x.Ok) ∧ SeenW W A l := by
  obtain ⟨a0, len0, cap0, rfl⟩ := okWide_slice Tryz.underlying23 hv
  obtain ⟨fuel, hf⟩ := h
  exact field_texts (ei := 3) Tryz.underlying23 Tryz.underlying58 (by kernel_rfl) rfl rfl (by kernel_rfl) (by kernel_rfl) Tryz.underlying9 Tryz.underlying48 Tryz.underlying3 (by kernel_rfl) hf
end Go.Proofs.YtmmgmcfhlhghoaaGreatDoor

