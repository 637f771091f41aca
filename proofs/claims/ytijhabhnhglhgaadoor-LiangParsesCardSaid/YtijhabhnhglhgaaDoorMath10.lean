/- Layer 10, plain: what a text tells; what is written is read again. -/
import Derived.Test.YtijhabhnhglhgaaDoorParse10
import Derived.Test.YtijhabhnhglhgaaDoorWrite10
namespace Go.Proofs.YtijhabhnhglhgaaDoor
namespace L10

theorem addW_ok {st st' : LL} {x : List UInt8} (h : addW st x = some st') (h1 : st.1.all patB = true) (h2 : st.2.all excB = true) : st'.1.all patB = true ∧ st'.2.all excB = true := by
  unfold addW at h
  split at h
  · rename_i p hp
    cases h
    exact ⟨by simp [List.all_append, h1, (word_asPat hp).2], h2⟩
  · split at h
    · rename_i y hy
      cases h
      exact ⟨h1, by simp [List.all_append, h2, (part_asExc hy).2]⟩
    · cases h
theorem parseS_ok : ∀ (ws : List (List UInt8)) {st st' : LL}, parseS st ws = some st' → st.1.all patB = true → st.2.all excB = true →
    st'.1.all patB = true ∧ st'.2.all excB = true ∧ st'.1.length + st'.2.length = st.1.length + st.2.length + ws.length
  | [], st, st', h, h1, h2 => by
    simp only [parseS, Option.some.injEq] at h
    subst h
    exact ⟨h1, h2, rfl⟩
  | w :: r, st, st', h, h1, h2 => by
    rw [parseS] at h
    split at h
    · rename_i s hs
      obtain ⟨g1, g2⟩ := addW_ok hs h1 h2
      obtain ⟨k1, k2, k3⟩ := parseS_ok r h g1 g2
      have := addW_length hs
      exact ⟨k1, k2, by rw [k3, this, List.length_cons]; omega⟩
    · cases h
theorem parseV_ok {t : List UInt8} {q : LL} (h : parseV t = some q) : patsB q = true ∧ q.1.length + q.2.length = (wordsL t).length := by
  unfold parseV at h
  split at h
  · rename_i h3
    obtain ⟨k1, k2, k3⟩ := parseS_ok _ h rfl rfl
    simp at k3
    exact ⟨by rw [patsB, k1, k2, k3, decide_eq_true h3]; rfl, k3⟩
  · cases h
/-- The words so far are put ahead. -/
theorem addW_ahead (a st : LL) (w : List UInt8) : addW (a.1 ++ st.1, a.2 ++ st.2) w = (addW st w).map fun q => (a.1 ++ q.1, a.2 ++ q.2) := by
  unfold addW
  split
  · simp
  · split <;> simp
theorem parseS_ahead (a : LL) : ∀ (ws : List (List UInt8)) (st : LL), parseS (a.1 ++ st.1, a.2 ++ st.2) ws = (parseS st ws).map fun q => (a.1 ++ q.1, a.2 ++ q.2)
  | [], st => rfl
  | w :: r, st => by
    rw [parseS, parseS, addW_ahead a st w]
    cases addW st w with
    | none => rfl
    | some s => exact parseS_ahead a r s
theorem parseS_from (a : LL) (ws : List (List UInt8)) : parseS a ws = (parseS ([], []) ws).map fun q => (a.1 ++ q.1, a.2 ++ q.2) := by
  have := parseS_ahead a ws ([], [])
  simpa using this
/-- A gap parts words. -/
theorem wordsGo_gap {g : UInt8} (hg : gapB g = true) (b : List UInt8) : ∀ (a acc : List UInt8), wordsGo acc (a ++ g :: b) = wordsGo acc a ++ wordsL b
  | [], acc => by
    simp only [List.nil_append, wordsGo, if_pos hg]
    split <;> rfl
  | c :: r, acc => by
    simp only [List.cons_append, wordsGo]
    split
    · split
      · exact wordsGo_gap hg b r []
      · rw [wordsGo_gap hg b r []]; rfl
    · exact wordsGo_gap hg b r _
theorem wordsL_gap {g : UInt8} (hg : gapB g = true) (a b : List UInt8) : wordsL (a ++ g :: b) = wordsL a ++ wordsL b := wordsGo_gap hg b a []
theorem wordsL_one {w : List UInt8} (h : ∀ b ∈ w, gapB b = false) (hne : w ≠ []) : wordsL w = [w] := by
  have := wordsGo_skip w [] [] h
  simp only [List.append_nil, List.nil_append] at this
  rw [wordsL, this, wordsGo, if_neg hne]
theorem letter_gap {b : UInt8} (h : letterB b = true) : gapB b = false := by
  have := letter_lt h
  simp only [gapB, decide_eq_false_iff_not, not_or]
  refine ⟨?_, ?_, ?_, ?_⟩ <;> rintro rfl <;> revert this <;> decide
theorem digit_gap {v : Int} (h : 0 ≤ v ∧ v ≤ 9) : ∀ b ∈ digitL v, gapB b = false := fun b hb => by
  unfold digitL at hb
  split at hb
  · simp at hb
  · rename_i h0
    simp only [List.mem_singleton] at hb
    have e := digit_nat h h0
    rw [← hb] at e
    simp only [gapB, decide_eq_false_iff_not, not_or]
    refine ⟨?_, ?_, ?_, ?_⟩ <;> rintro rfl <;> (simp at e; omega)
theorem wordTo_gap {p : TN} (h : patB p = true) : ∀ k, k ≤ p.1.length + 1 → ∀ b ∈ wordTo p k, gapB b = false
  | 0, _, b, hb => by simp [wordTo] at hb
  | k + 1, hk, b, hb => by
    obtain ⟨h1, h2⟩ := pat_vals h
    rw [wordTo] at hb
    rcases List.mem_append.1 hb with hb | hb
    · exact wordTo_gap h k (by omega) b hb
    · rcases List.mem_append.1 hb with hb | hb
      · refine digit_gap (h2 _ ?_) b hb
        rw [List.getD, List.getElem?_eq_getElem (by omega)]
        exact List.getElem_mem _
      · split at hb
        · rename_i hlt
          simp only [List.mem_singleton] at hb
          rw [List.getD, List.getElem?_eq_getElem hlt] at hb
          subst hb
          rcases pat_bytes h _ (List.getElem_mem hlt) with h3 | h3
          · exact letter_gap h3
          · show gapB (p.1[k]) = false
            rw [h3]; decide
        · simp at hb
theorem word_gap {p : TN} (h : patB p = true) : ∀ b ∈ wordL p, gapB b = false := wordTo_gap h _ (Nat.le_refl _)
theorem part_gap {p : TN} (h : excB p = true) : ∀ b ∈ partL p, gapB b = false := fun b hb => by
  rcases partM_mem _ _ b hb with h1 | h1
  · exact letter_gap (plain_letters (exc_parts h).1 b h1)
  · subst h1; decide
theorem asPat_nil : asPat [] = none := by decide
theorem asExc_nil : asExc [] = none := by decide
theorem word_ne {p : TN} (h : patB p = true) : wordL p ≠ [] := fun e => by
  have := asPat_word h
  rw [e, asPat_nil] at this
  cases this
theorem part_ne {p : TN} (h : excB p = true) : partL p ≠ [] := fun e => by
  have := asExc_part h
  rw [e, asExc_nil] at this
  cases this
/-- What a pattern reads as has all bytes that are no values. -/
theorem asPatGo_mem : ∀ (w : List UInt8) (v : Int) (p : TN), asPatGo w v = some p → ∀ b ∈ w, ¬ (49 ≤ b.toNat ∧ b.toNat ≤ 57) → b ∈ p.1
  | [], _, _, _, b, hb, _ => by simp at hb
  | c :: r, v, p, h, b, hb, hn => by
    simp only [asPatGo] at h
    split at h
    · rename_i hc
      split at h
      · cases h
      · rcases List.mem_cons.1 hb with rfl | hb
        · exact absurd hc hn
        · exact asPatGo_mem r _ p h b hb hn
    · cases hr : asPatGo r 0 with
      | none => rw [hr] at h; cases h
      | some q =>
        rw [hr] at h
        simp only [Option.map_some, Option.some.injEq] at h
        subst h
        rcases List.mem_cons.1 hb with rfl | hb
        · exact List.mem_cons_self
        · exact List.mem_cons_of_mem _ (asPatGo_mem r 0 q hr b hb hn)
theorem asPat_hyphen {w : List UInt8} (h : (45 : UInt8) ∈ w) : asPat w = none := by
  cases e : asPat w with
  | none => rfl
  | some p =>
    exfalso
    unfold asPat at e
    split at e
    · rename_i q hq
      split at e
      · rename_i hp
        rcases pat_bytes hp 45 (asPatGo_mem w 0 q hq 45 h (by decide)) with h1 | h1
        · revert h1; decide
        · revert h1; decide
      · cases e
    · cases e
theorem partM_has {a : List Int} : ∀ (s : List UInt8) (n : Nat) (j : Nat), n ≤ j → j < n + s.length → (j : Int) ∈ a → (45 : UInt8) ∈ partM a s n
  | [], n, j, h1, h2, _ => by simp at h2; omega
  | b :: s, n, j, h1, h2, hj => by
    rw [partM]
    by_cases e : j = n
    · subst e
      rw [if_pos hj]; simp
    · refine List.mem_append.2 (.inr (List.mem_cons_of_mem _ (partM_has s (n + 1) j (by omega) (by simp at h2; omega) hj)))
theorem part_hyphen {p : TN} (h : excB p = true) : (45 : UInt8) ∈ partL p := by
  obtain ⟨h1, h2, h3⟩ := exc_parts h
  obtain ⟨a, ha⟩ : ∃ a, a ∈ p.2 := ⟨p.2[0], List.getElem_mem h2⟩
  have := rises_mem _ _ h3 a ha
  obtain ⟨j, rfl⟩ : ∃ j : Nat, a = j := ⟨a.toNat, by omega⟩
  exact partM_has p.1 0 j (by omega) (by omega) ha
theorem addW_word {p : TN} (h : patB p = true) (st : LL) : addW st (wordL p) = some (st.1 ++ [p], st.2) := by
  unfold addW; rw [asPat_word h]
theorem addW_part {p : TN} (h : excB p = true) (st : LL) : addW st (partL p) = some (st.1, st.2 ++ [p]) := by
  unfold addW; rw [asPat_hyphen (part_hyphen h), asExc_part h]
theorem parseS_words : ∀ (l : List TN) (st : LL), l.all patB = true → parseS st (l.map wordL) = some (st.1 ++ l, st.2)
  | [], st, _ => by simp [parseS]
  | p :: l, st, h => by
    simp only [List.all_cons, Bool.and_eq_true] at h
    rw [List.map_cons, parseS, addW_word h.1]
    show parseS _ _ = _
    rw [parseS_words l _ h.2]
    simp
theorem parseS_parts : ∀ (l : List TN) (st : LL), l.all excB = true → parseS st (l.map partL) = some (st.1, st.2 ++ l)
  | [], st, _ => by simp [parseS]
  | p :: l, st, h => by
    simp only [List.all_cons, Bool.and_eq_true] at h
    rw [List.map_cons, parseS, addW_part h.1]
    show parseS _ _ = _
    rw [parseS_parts l _ h.2]
    simp
theorem wordsL_nil : wordsL [] = [] := rfl
theorem words_linesP (r : List UInt8) : ∀ (l : List TN), l.all patB = true → wordsL (linesP l ++ r) = l.map wordL ++ wordsL r
  | [], _ => rfl
  | p :: l, h => by
    simp only [List.all_cons, Bool.and_eq_true] at h
    have e : linesP (p :: l) ++ r = wordL p ++ 10 :: (linesP l ++ r) := by simp [linesP, List.append_assoc]
    rw [e, wordsL_gap (by decide), wordsL_one (word_gap h.1) (word_ne h.1), words_linesP r l h.2]
    rfl
theorem words_linesE : ∀ (l : List TN), l.all excB = true → wordsL (linesE l) = l.map partL
  | [], _ => rfl
  | p :: l, h => by
    simp only [List.all_cons, Bool.and_eq_true] at h
    have e : linesE (p :: l) = partL p ++ 10 :: linesE l := by simp [linesE]
    rw [e, wordsL_gap (by decide), wordsL_one (part_gap h.1) (part_ne h.1), words_linesE l h.2]
    rfl
theorem patsB_split {q : LL} (h : patsB q = true) : q.1.length + q.2.length ≤ 300 ∧ q.1.all patB = true ∧ q.2.all excB = true := by
  simp only [patsB, Bool.and_eq_true, decide_eq_true_eq] at h
  exact ⟨h.1, h.2.1, h.2.2⟩
/-- What is written is read. -/
theorem parse_write {q : LL} (h : patsB q = true) : parseV (writeL q) = some q := by
  obtain ⟨h1, h2, h3⟩ := patsB_split h
  have e : wordsL (writeL q) = q.1.map wordL ++ q.2.map partL := by
    unfold writeL
    rw [words_linesP _ _ h2, words_linesE _ h3]
  rw [parseV, e, if_pos (by simpa using h1), parseS_append, parseS_words _ _ h2, Option.bind_some, parseS_parts _ _ h3]
  simp
/-- Two texts, a gap between. -/
theorem parse_both {a b : List UInt8} {p q : LL} (hp : parseV a = some p) (hq : parseV b = some q) :
    parseV (a ++ 10 :: b) = if patsB (p.1 ++ q.1, p.2 ++ q.2) = true then some (p.1 ++ q.1, p.2 ++ q.2) else none := by
  obtain ⟨k1, k2⟩ := parseV_ok hp
  obtain ⟨m1, m2⟩ := parseV_ok hq
  obtain ⟨_, a1, a2⟩ := patsB_split k1
  obtain ⟨_, b1, b2⟩ := patsB_split m1
  have e : patsB (p.1 ++ q.1, p.2 ++ q.2) = decide ((wordsL (a ++ 10 :: b)).length ≤ 300) := by
    rw [wordsL_gap (by decide), List.length_append, ← k2, ← m2, patsB]
    simp only [List.length_append, List.all_append, a1, a2, b1, b2, Bool.and_true]
    rw [decide_eq_decide]
    omega
  rw [e, parseV]
  split
  · rename_i h3
    rw [decide_eq_true h3, if_pos rfl, wordsL_gap (by decide), parseS_append]
    unfold parseV at hp hq
    split at hp
    · rw [hp, Option.bind_some, parseS_from]
      split at hq
      · rw [hq]; rfl
      · cases hq
    · cases hp
  · rename_i h3
    rw [decide_eq_false h3, if_neg (by simp)]
theorem parse_noL {a b : List UInt8} (h : parseV a = none) : parseV (a ++ 10 :: b) = none := by
  unfold parseV at h ⊢
  rw [wordsL_gap (by decide)]
  split
  · rename_i h3
    rw [List.length_append] at h3
    rw [if_pos (by omega)] at h
    rw [parseS_append, h]; rfl
  · rfl
theorem parse_noR {a b : List UInt8} (h : parseV b = none) : parseV (a ++ 10 :: b) = none := by
  unfold parseV at h ⊢
  rw [wordsL_gap (by decide)]
  split
  · rename_i h3
    rw [List.length_append] at h3
    rw [if_pos (by omega)] at h
    rw [parseS_append]
    cases parseS ([], []) (wordsL a) with
    | none => rfl
    | some st => rw [Option.bind_some, parseS_from, h]; rfl
  · rfl
/-- What a text tells, and its error. -/
def parseD (t : List UInt8) : LL := (parseV t).getD ([], [])
def parseE (t : List UInt8) : Int := if (parseV t).isSome = true then 0 else 100
theorem parseD_ok (t : List UInt8) : patsB (parseD t) = true := by
  unfold parseD
  cases h : parseV t with
  | none => rfl
  | some q => exact (parseV_ok h).1
theorem parseE_zero {t : List UInt8} {q : LL} (h : parseV t = some q) : parseE t = 0 ∧ parseD t = q := by
  unfold parseE parseD; rw [h]; exact ⟨rfl, rfl⟩
theorem parseE_no {t : List UInt8} (h : parseV t = none) : parseE t = 100 ∧ parseD t = ([], []) := by
  unfold parseE parseD; rw [h]; exact ⟨rfl, rfl⟩
end L10
end Go.Proofs.YtijhabhnhglhgaaDoor

