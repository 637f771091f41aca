/- Layer 12, plain: cores of words, and where words may be parted. -/
import Derived.Test.YtenajekmnggkeaaTrie11
namespace Go.Proofs.Ytenajekmnggkeaa
namespace L12
open L10 (TN plainB patB letterB)
open L11 (valsL)

/-- A code as a small letter; 0: it is none. -/
def small (c : Int) : Int := if 65 ≤ c ∧ c ≤ 90 then c + 32 else if 97 ≤ c ∧ c ≤ 122 then c else 0
def isL (c : Int) : Bool := decide (small c ≠ 0)
theorem small_range (c : Int) : small c = 0 ∨ (97 ≤ small c ∧ small c ≤ 122) := by
  unfold small
  split
  · omega
  · split
    · omega
    · exact .inl rfl
theorem isL_iff {c : Int} : isL c = true ↔ 97 ≤ small c ∧ small c ≤ 122 := by
  have := small_range c
  simp only [isL, decide_eq_true_eq]
  omega
/-- The first of so many places that may be, or how many there are. -/
def firstF (q : Nat → Bool) : Nat → Nat
  | 0 => 0
  | n + 1 => if firstF q n = n then (if q n = true then n else n + 1) else firstF q n
theorem firstF_spec (q : Nat → Bool) : ∀ n, firstF q n ≤ n ∧ (∀ i, i < firstF q n → q i = false) ∧ (firstF q n < n → q (firstF q n) = true)
  | 0 => ⟨Nat.le_refl _, fun i hi => by simp [firstF] at hi, fun h => by simp [firstF] at h⟩
  | n + 1 => by
    obtain ⟨h1, h2, h3⟩ := firstF_spec q n
    unfold firstF
    split
    · rename_i e
      rw [e] at h2
      split
      · rename_i hq
        exact ⟨by omega, h2, fun _ => hq⟩
      · rename_i hq
        refine ⟨Nat.le_refl _, fun i hi => ?_, fun h => by omega⟩
        by_cases hi' : i = n
        · subst hi'; simpa using hq
        · exact h2 i (by omega)
    · exact ⟨by omega, h2, fun _ => h3 (by omega)⟩
theorem firstF_eq {q : Nat → Bool} {n k : Nat} (hk : k ≤ n) (h1 : ∀ i, i < k → q i = false) (h2 : k < n → q k = true) : firstF q n = k := by
  obtain ⟨g1, g2, g3⟩ := firstF_spec q n
  rcases Nat.lt_trichotomy (firstF q n) k with h | h | h
  · have := h1 _ h
    rw [g3 (by omega)] at this
    cases this
  · exact h
  · have := g2 _ h
    rw [h2 (by omega)] at this
    cases this
theorem firstF_congr {p q : Nat → Bool} {n : Nat} (h : ∀ i, i < n → p i = q i) : firstF p n = firstF q n := by
  obtain ⟨g1, g2, g3⟩ := firstF_spec q n
  exact firstF_eq g1 (fun i hi => by rw [h i (by omega)]; exact g2 i hi) (fun hk => by rw [h _ hk]; exact g3 hk)
def aheadN (l : List Int) : Nat := firstF (fun i => isL (l.getD i 0)) l.length
def behindN (l : List Int) : Nat := firstF (fun i => isL (l.getD (l.length - 1 - i) 0)) (l.length - aheadN l)
theorem ahead_le (l : List Int) : aheadN l ≤ l.length := (firstF_spec _ _).1
theorem behind_le (l : List Int) : behindN l ≤ l.length - aheadN l := (firstF_spec _ _).1
/-- What is left without those codes ahead, and behind, that are no letters. -/
def midL (l : List Int) : List Int := (l.drop (aheadN l)).take (l.length - aheadN l - behindN l)
theorem mid_length (l : List Int) : (midL l).length = l.length - aheadN l - behindN l := by
  have := ahead_le l
  have := behind_le l
  simp [midL]
theorem mid_get {l : List Int} {i : Nat} (h : i < l.length - aheadN l - behindN l) : (midL l).getD i 0 = l.getD (aheadN l + i) 0 := by
  simp only [midL, List.getD, List.getElem?_take_of_lt h, List.getElem?_drop]
def coreB (l : List Int) : Bool := decide (1 ≤ (midL l).length) && (decide ((midL l).length ≤ 40) && (midL l).all isL)
def byteL (l : List Int) : List UInt8 := l.map fun c => UInt8.ofNat (small c).toNat
/-- A word's core, and how many codes stand ahead of it. -/
def coreL (l : List Int) : List UInt8 := if coreB l = true then byteL (midL l) else []
def coreN (l : List Int) : Nat := if coreB l = true then aheadN l else 0
theorem byteL_length (l : List Int) : (byteL l).length = l.length := by simp [byteL]
theorem byteL_snoc (l : List Int) (c : Int) : byteL (l ++ [c]) = byteL l ++ [UInt8.ofNat (small c).toNat] := by simp [byteL]
theorem coreL_no {l : List Int} (h : coreB l = false) : coreL l = [] := if_neg (by simp [h])
theorem coreN_no {l : List Int} (h : coreB l = false) : coreN l = 0 := if_neg (by simp [h])
theorem coreL_yes {l : List Int} (h : coreB l = true) : coreL l = byteL (midL l) := if_pos h
theorem coreN_yes {l : List Int} (h : coreB l = true) : coreN l = aheadN l := if_pos h
theorem coreB_iff {l : List Int} : coreB l = true ↔ 1 ≤ (midL l).length ∧ (midL l).length ≤ 40 ∧ ∀ c ∈ midL l, isL c = true := by
  simp only [coreB, Bool.and_eq_true, decide_eq_true_eq, List.all_eq_true]
theorem coreB_no {l : List Int} {i : Nat} (hi : i < (midL l).length) (h : isL ((midL l).getD i 0) = false) : coreB l = false := by
  cases hb : coreB l with
  | false => rfl
  | true =>
    have h1 := (coreB_iff.1 hb).2.2 ((midL l).getD i 0) (by simp [List.getD, hi])
    rw [h] at h1
    cases h1
theorem core_plain {l : List Int} (h : coreB l = true) : plainB (coreL l) = true := by
  obtain ⟨h1, h2, h3⟩ := coreB_iff.1 h
  rw [coreL_yes h]
  simp only [plainB, byteL_length, Bool.and_eq_true, decide_eq_true_eq, List.all_eq_true]
  refine ⟨⟨h1, h2⟩, fun b hb => ?_⟩
  simp only [byteL, List.mem_map] at hb
  obtain ⟨c, hc, rfl⟩ := hb
  have := isL_iff.1 (h3 c hc)
  simp only [letterB, decide_eq_true_eq]
  rw [UInt8.toNat_ofNat']
  omega
theorem core_nil {l : List Int} : coreL l = [] ↔ coreB l = false := by
  cases h : coreB l with
  | false => simp [coreL_no h]
  | true =>
    have := L11.plain_len (core_plain h)
    constructor
    · intro e; rw [e] at this; simp at this
    · intro e; cases e
theorem core_most (l : List Int) : (coreL l).length ≤ 40 := by
  cases h : coreB l with
  | false => simp [coreL_no h]
  | true => exact (L11.plain_len (core_plain h)).2
theorem core_in (l : List Int) : coreN l + (coreL l).length ≤ l.length := by
  have h1 := ahead_le l
  have h2 := behind_le l
  cases h : coreB l with
  | false => simp [coreL_no h, coreN_no h]
  | true => rw [coreL_yes h, coreN_yes h, byteL_length, mid_length]; omega

/-! ### Points -/
/-- A core's places by patterns: those of odd numbers. -/
def oddL (p : List TN) (core : List UInt8) : List Int := ((List.range core.length).filter fun i => decide (0 < i) && decide ((valsL p core).getD i 0 % 2 = 1)).map fun (i : Nat) => (i : Int)
def placesL (p but : List TN) (core : List UInt8) : List Int := match but.find? fun x => decide (x.1 = core) with
  | some x => x.2
  | none => oddL p core
def mayB (n : Nat) (left right x : Int) : Bool := decide (left ≤ x) && (decide (x ≤ n) && decide (right ≤ IntKind.i64.wrap (n - x)))
def pointsL (p but : List TN) (l : List Int) (left right : Int) : List Int :=
  if coreB l = true then ((placesL p but (coreL l)).filter (mayB (coreL l).length left right)).map fun x => (coreN l : Int) + x else []
theorem points_no {p but : List TN} {l : List Int} {left right : Int} (h : coreB l = false) : pointsL p but l left right = [] := if_neg (by simp [h])
theorem points_yes {p but : List TN} {l : List Int} {left right : Int} (h : coreB l = true) : pointsL p but l left right = ((placesL p but (coreL l)).filter (mayB (coreL l).length left right)).map fun x => (coreN l : Int) + x := if_pos h
/-- The odd places ahead of i. -/
def oddTo (p : List TN) (core : List UInt8) (i : Nat) : List Int := ((List.range i).filter fun i => decide (0 < i) && decide ((valsL p core).getD i 0 % 2 = 1)).map fun (i : Nat) => (i : Int)
theorem oddTo_succ (p : List TN) (core : List UInt8) (i : Nat) : oddTo p core (i + 1) = oddTo p core i ++ if 0 < i ∧ (valsL p core).getD i 0 % 2 = 1 then [(i : Int)] else [] := by
  unfold oddTo
  rw [List.range_succ, List.filter_append, List.map_append]
  congr 1
  by_cases h : 0 < i ∧ (valsL p core).getD i 0 % 2 = 1
  · have : (decide (0 < i) && decide ((valsL p core).getD i 0 % 2 = 1)) = true := by simpa using h
    rw [if_pos h]
    simp only [List.filter_cons, this, List.filter_nil]
    rfl
  · rw [if_neg h]
    have : (decide (0 < i) && decide ((valsL p core).getD i 0 % 2 = 1)) = false := by
      rw [Bool.eq_false_iff]
      simpa using h
    simp only [List.filter_cons, this, List.filter_nil]
    rfl
theorem oddTo_length (p : List TN) (core : List UInt8) (i : Nat) : (oddTo p core i).length ≤ i := by
  unfold oddTo
  rw [List.length_map]
  exact Nat.le_trans (List.length_filter_le _ _) (by simp)
theorem odd_in {p : List TN} {core : List UInt8} {x : Int} (h : x ∈ oddL p core) : 1 ≤ x ∧ x < core.length := by
  simp only [oddL, List.mem_map, List.mem_filter, List.mem_range, Bool.and_eq_true, decide_eq_true_eq] at h
  obtain ⟨i, ⟨h1, h2, _⟩, rfl⟩ := h
  omega
theorem odd_rises (p : List TN) (core : List UInt8) : (oddL p core).Pairwise (· < ·) := by
  unfold oddL
  rw [List.pairwise_map]
  refine (List.Pairwise.filter _ List.pairwise_lt_range).imp ?_
  intro a b h
  omega
theorem odd_nonneg (p : List TN) (core : List UInt8) (i : Nat) : 0 ≤ (valsL p core).getD i 0 := by
  by_cases h : i < (valsL p core).length
  · have hm : (valsL p core).getD i 0 ∈ valsL p core := by
      rw [List.getD, List.getElem?_eq_getElem h]; exact List.getElem_mem h
    generalize (valsL p core).getD i 0 = v at *
    unfold valsL at hm
    split at hm
    · obtain ⟨j, _, rfl⟩ := List.mem_map.1 hm
      exact L11.numF_nonneg _ _ _
    · simp at hm
  · rw [List.getD, List.getElem?_eq_none (by omega)]
    simp
theorem may_near {n : Nat} (hn : n ≤ 1000) {left right x : Int} (h : -1000 ≤ x) : mayB n left right x = (decide (left ≤ x) && (decide (x ≤ n) && decide (right ≤ n - x))) := by
  unfold mayB
  by_cases h1 : x ≤ n
  · have e : IntKind.i64.wrap ((n : Int) - x) = n - x := IntWalk.i64_in _ (by omega)
    rw [e]
  · rw [decide_eq_false h1]
    simp
end L12
end Go.Proofs.Ytenajekmnggkeaa

