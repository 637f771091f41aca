/- Layer 13, plain: words that are written are read; how long texts are; texts behind one another. -/
import Derived.Test.YtbiklbomacjihaaDoorTextR13
import Derived.Test.YtbiklbomacjihaaDoorTextC13
import Derived.Test.YtbiklbomacjihaaDoorDocD13
namespace Go.Proofs.YtbiklbomacjihaaDoor
open Go.RowKit
namespace L13
open L10 (gapB wordsGo wordsL)

theorem bytesM_count {ss : List Int} (hp : ss.Pairwise (· < ·)) : ∀ (cs : List Int) (n j : Nat), Part ss j n → (∀ a ∈ ss, a < (n : Int) + cs.length) → (bytesM ss cs n).length = cs.length + 2 * (ss.length - j)
  | [], n, j, h, hm => by
    have hj : ss.length ≤ j := by
      rcases Nat.lt_or_ge j ss.length with h1 | h1
      · have h2 := h.2.2 j (Nat.le_refl _) h1
        have h3 := hm _ (getD_mem h1)
        simp only [List.length_nil] at h3
        omega
      · exact h1
    simp only [bytesM, List.length_nil]
    omega
  | c :: r, n, j, h, hm => by
    have hm2 : ∀ a ∈ ss, a < ((n + 1 : Nat) : Int) + r.length := fun a ha => by
      have := hm a ha
      simp only [List.length_cons] at this
      omega
    by_cases hh : j < ss.length ∧ ss.getD j 0 = (n : Int)
    · obtain ⟨h1, h2⟩ := h.hit hp hh.1 hh.2
      have ih := bytesM_count hp r (n + 1) (j + 1) h2 hm2
      rw [bytesM, if_pos h1, List.length_append]
      simp only [List.length_cons, List.length_nil, ih]
      omega
    · obtain ⟨h1, h2⟩ := h.miss hp (fun hj e => hh ⟨hj, e⟩)
      have ih := bytesM_count hp r (n + 1) j h2 hm2
      rw [bytesM, if_neg h1, List.length_append]
      simp only [List.length_cons, List.length_nil, ih]
      omega
theorem bytesL_count {p : TW} (h : wordB p = true) : (bytesL p).length = p.1.length + 2 * p.2.length := by
  simp only [wordB, Bool.and_eq_true] at h
  have hm := L10.rises_mem _ _ h.2.2
  have := bytesM_count (rises_pair _ _ h.2.2) p.1 0 0 (Part.start (fun a ha => by have := hm a ha; omega)) (fun a ha => by have := hm a ha; omega)
  rw [bytesL, this]
  omega
def cntW (l : List TW) : Nat := (l.map fun p => p.1.length + 2 * p.2.length).sum
theorem cntW_snoc (l : List TW) (p : TW) : cntW (l ++ [p]) = cntW l + (p.1.length + 2 * p.2.length) := by simp [cntW]
theorem textL_count : ∀ l : List TW, (∀ p ∈ l, wordB p = true) → 1 ≤ l.length → (textL l).length + 1 = l.length + cntW l
  | [], _, h => by simp at h
  | [p], h, _ => by
    have := bytesL_count (h p (by simp))
    simp only [textL, cntW, List.map_cons, List.map_nil, List.sum_cons, List.sum_nil, List.length_cons, List.length_nil]
    omega
  | p :: q :: r, h, _ => by
    have h1 := bytesL_count (h p (by simp))
    have h2 := textL_count (q :: r) (fun x hx => h x (by simp [hx])) (by simp)
    have e : cntW (p :: q :: r) = (p.1.length + 2 * p.2.length) + cntW (q :: r) := by simp [cntW]
    rw [textL, List.length_append, List.length_cons, e]
    simp only [List.length_cons] at h2 ⊢
    omega
theorem check_parts13 {l : List TW} (h : checkB l = true) : ∀ p ∈ l, wordB p = true := by
  simp only [checkB, Bool.and_eq_true, List.all_eq_true] at h
  exact h.2.1
/-! ### Bytes of a word are read again -/
theorem ofGo_plain {b : UInt8} (h : b ≠ 194) (r : List UInt8) (n : Nat) : ofGo (b :: r) n = ((b.toNat : Int) :: (ofGo r (n + 1)).1, (ofGo r (n + 1)).2) := by
  cases r with
  | nil => rfl
  | cons d r => rw [ofGo, if_neg (fun e => h e.1)]
theorem code_byte {c : Int} (h : codeB c = true) : ((UInt8.ofNat c.toNat).toNat : Int) = c ∧ UInt8.ofNat c.toNat ≠ 194 ∧ UInt8.ofNat c.toNat ≠ 173 ∧ gapB (UInt8.ofNat c.toNat) = false := by
  unfold codeB at h
  have h := of_decide_eq_true h
  have e : (UInt8.ofNat c.toNat).toNat = c.toNat := by rw [UInt8.toNat_ofNat']; omega
  have ne : ∀ k : UInt8, k.toNat ≠ c.toNat → UInt8.ofNat c.toNat ≠ k := fun k hk e2 => by
    rw [e2] at e
    exact hk e
  refine ⟨by rw [e]; omega, ne 194 (by show 194 ≠ _; omega), ne 173 (by show 173 ≠ _; omega), ?_⟩
  unfold gapB
  rw [decide_eq_false_iff_not]
  rintro (h1 | h1 | h1 | h1)
  · exact ne 9 (by show 9 ≠ _; omega) h1
  · exact ne 10 (by show 10 ≠ _; omega) h1
  · exact ne 13 (by show 13 ≠ _; omega) h1
  · exact ne 32 (by show 32 ≠ _; omega) h1
theorem part_end {ss : List Int} {n j : Nat} (h : Part ss j n) (hm : ∀ a ∈ ss, a < (n : Int)) : ss.length ≤ j := by
  rcases Nat.lt_or_ge j ss.length with h1 | h1
  · have h2 := h.2.2 j (Nat.le_refl _) h1
    have h3 := hm _ (getD_mem h1)
    omega
  · exact h1
theorem ofGo_bytes {ss : List Int} (hp : ss.Pairwise (· < ·)) : ∀ (cs : List Int) (n j : Nat), Part ss j n → (∀ a ∈ ss, a < (n : Int) + cs.length) → cs.all codeB = true → ofGo (bytesM ss cs n) n = (cs, ss.drop j)
  | [], n, j, h, hm, _ => by
    rw [bytesM, List.drop_eq_nil_of_le (part_end h (fun a ha => by simpa using hm a ha))]; rfl
  | c :: r, n, j, h, hm, hc => by
    have hm2 : ∀ a ∈ ss, a < ((n + 1 : Nat) : Int) + r.length := fun a ha => by
      have := hm a ha
      simp only [List.length_cons] at this
      omega
    simp only [List.all_cons, Bool.and_eq_true] at hc
    obtain ⟨b1, b2, _, _⟩ := code_byte hc.1
    by_cases hh : j < ss.length ∧ ss.getD j 0 = (n : Int)
    · obtain ⟨h1, h2⟩ := h.hit hp hh.1 hh.2
      have ih := ofGo_bytes hp r (n + 1) (j + 1) h2 hm2 hc.2
      have e : ss.drop j = (n : Int) :: ss.drop (j + 1) := by
        rw [List.drop_eq_getElem_cons hh.1]
        have := hh.2
        rw [List.getD, List.getElem?_eq_getElem hh.1, Option.getD_some] at this
        rw [this]
      rw [bytesM, if_pos h1, List.cons_append, List.cons_append, List.nil_append, ofGo, if_pos ⟨rfl, rfl⟩, ofGo_plain b2, ih, b1, e]
    · obtain ⟨h1, h2⟩ := h.miss hp (fun hj e => hh ⟨hj, e⟩)
      have ih := ofGo_bytes hp r (n + 1) j h2 hm2 hc.2
      rw [bytesM, if_neg h1, List.nil_append, ofGo_plain b2, ih, b1]
theorem ofL_bytes {p : TW} (h : wordB p = true) : ofL (bytesL p) = p := by
  simp only [wordB, Bool.and_eq_true] at h
  have hm := L10.rises_mem _ _ h.2.2
  have := ofGo_bytes (rises_pair _ _ h.2.2) p.1 0 0 (Part.start (fun a ha => by have := hm a ha; omega)) (fun a ha => by have := hm a ha; omega) h.2.1
  rw [ofL, bytesL, this, List.drop_zero]
theorem bytesM_gap (ss : List Int) : ∀ (cs : List Int) (n : Nat), cs.all codeB = true → ∀ b ∈ bytesM ss cs n, gapB b = false
  | [], _, _, b, hb => by simp [bytesM] at hb
  | c :: r, n, hc, b, hb => by
    simp only [List.all_cons, Bool.and_eq_true] at hc
    rw [bytesM] at hb
    rcases List.mem_append.1 hb with hb | hb
    · split at hb
      · simp only [List.mem_cons, List.not_mem_nil, or_false] at hb
        rcases hb with rfl | rfl <;> decide
      · simp at hb
    · rcases List.mem_cons.1 hb with rfl | hb
      · exact (code_byte hc.1).2.2.2
      · exact bytesM_gap ss r (n + 1) hc.2 b hb
theorem bytesL_gap {p : TW} (h : wordB p = true) : ∀ b ∈ bytesL p, gapB b = false := by
  simp only [wordB, Bool.and_eq_true] at h
  exact bytesM_gap _ _ _ h.2.1
theorem bytesL_some {p : TW} (h : wordB p = true) : bytesL p ≠ [] := fun e => by
  have h1 := (word_short h).1
  have h2 := bytesM_some p.2 p.1 0
  rw [show bytesM p.2 p.1 0 = bytesL p from rfl, e] at h2
  simp only [List.length_nil] at h2
  omega
/-! ### Gaps -/
theorem wordsGo_gaps : ∀ (g r : List UInt8), (∀ b ∈ g, gapB b = true) → wordsGo [] (g ++ r) = wordsGo [] r
  | [], r, _ => rfl
  | b :: g, r, h => by
    rw [List.cons_append, wordsGo, if_pos (h b (by simp)), if_pos rfl, wordsGo_gaps g r (fun c hc => h c (by simp [hc]))]
/-- A word, and gaps behind it. -/
theorem wordsGo_word {bs g : List UInt8} (hb : ∀ b ∈ bs, gapB b = false) (hne : bs ≠ []) (hg : ∀ b ∈ g, gapB b = true) (hg0 : g ≠ []) (r : List UInt8) : wordsGo [] (bs ++ (g ++ r)) = bs :: wordsGo [] r := by
  rw [wordsGo_skip bs [] _ hb, List.nil_append]
  cases g with
  | nil => exact absurd rfl hg0
  | cons c g =>
    rw [List.cons_append, wordsGo, if_pos (hg c (by simp)), if_neg hne, wordsGo_gaps g r (fun d hd => hg d (by simp [hd]))]
theorem wordsGo_app : ∀ (a b acc : List UInt8), wordsGo acc (a ++ 32 :: b) = wordsGo acc a ++ wordsGo [] b
  | [], b, acc => by
    have e1 : wordsGo acc (32 :: b) = if acc = [] then wordsGo [] b else acc :: wordsGo [] b := by rw [wordsGo]; exact if_pos (by decide)
    have e2 : wordsGo acc [] = if acc = [] then [] else [acc] := by rw [wordsGo]
    rw [List.nil_append, e1, e2]
    by_cases h : acc = []
    · rw [if_pos h, if_pos h]; rfl
    · rw [if_neg h, if_neg h]; rfl
  | c :: a, b, acc => by
    rw [List.cons_append, wordsGo, wordsGo]
    split
    · split
      · exact wordsGo_app a b []
      · rw [wordsGo_app a b [], List.cons_append]
    · exact wordsGo_app a b (acc ++ [c])
theorem wordsL_text : ∀ l : List TW, (∀ p ∈ l, wordB p = true) → wordsL (textL l) = l.map bytesL
  | [], _ => rfl
  | [p], h => by
    have h1 := wordsGo_skip (bytesL p) [] [] (bytesL_gap (h p (by simp)))
    rw [List.append_nil, List.nil_append] at h1
    rw [textL, wordsL, h1, wordsGo, if_neg (bytesL_some (h p (by simp)))]; rfl
  | p :: q :: r, h => by
    have ih := wordsL_text (q :: r) (fun x hx => h x (by simp [hx]))
    rw [textL, wordsL]
    have := wordsGo_word (g := [32]) (bytesL_gap (h p (by simp))) (bytesL_some (h p (by simp))) (by simp; decide) (by simp) (textL (q :: r))
    rw [List.cons_append, List.nil_append] at this
    rw [this]
    unfold wordsL at ih
    rw [ih]; rfl
theorem map_ofL {l : List TW} (h : ∀ p ∈ l, wordB p = true) : (l.map bytesL).map ofL = l := by
  induction l with
  | nil => rfl
  | cons p r ih => rw [List.map_cons, List.map_cons, ofL_bytes (h p (by simp)), ih (fun q hq => h q (by simp [hq]))]
/-- What words are read where just these bytes stand between gaps. -/
theorem readA_words {t : List UInt8} {l : List TW} (h : ∀ p ∈ l, wordB p = true) (e : wordsL t = l.map bytesL) : readA t = if checkB l = true then (l, 0) else ([], 130) := by
  unfold readA fromL
  rw [e, map_ofL h, List.all_eq_true.2 h, Bool.true_and]
theorem readA_text {l : List TW} (h : checkB l = true) : readA (textL l) = (l, 0) := by
  have h1 := (check_parts13 h)
  rw [readA_words h1 (wordsL_text l h1), if_pos h]
/-! ### How long -/
theorem wordsGo_len : ∀ (r acc : List UInt8), ((wordsGo acc r).map List.length).sum + (wordsGo acc r).length ≤ acc.length + r.length + 1
  | [], acc => by
    rw [wordsGo]
    split
    · simp
    · simp
  | b :: r, acc => by
    rw [wordsGo]
    split
    · have := wordsGo_len r []
      simp only [List.length_nil] at this
      split
      · simp only [List.length_cons]; omega
      · simp only [List.map_cons, List.sum_cons, List.length_cons]; omega
    · have := wordsGo_len r (acc ++ [b])
      simp only [List.length_append, List.length_cons, List.length_nil] at this
      simp only [List.length_cons]
      omega
theorem cnt_ofL (ws : List (List UInt8)) : cntW (ws.map ofL) = (ws.map List.length).sum := by
  induction ws with
  | nil => rfl
  | cons t r ih =>
    have e : cntW ((t :: r).map ofL) = ((ofL t).1.length + 2 * (ofL t).2.length) + cntW (r.map ofL) := by simp [cntW]
    have := ofGo_len t.length t 0 (Nat.le_refl _)
    rw [e, ih, List.map_cons, List.sum_cons]
    unfold ofL
    omega
theorem readA_short {t : List UInt8} (h : (readA t).2 = 0) : (textL (readA t).1).length ≤ t.length := by
  unfold readA fromL at h ⊢
  split
  · rename_i hc
    simp only [Bool.and_eq_true] at hc
    have h1 := List.all_eq_true.1 hc.1
    have h2 : 1 ≤ ((wordsL t).map ofL).length := by
      have := hc.2
      simp only [checkB, Bool.and_eq_true, decide_eq_true_eq] at this
      exact this.1.1
    have h3 := textL_count _ h1 h2
    have h4 := wordsGo_len t []
    rw [cnt_ofL, List.length_map] at h3
    unfold wordsL at h3 ⊢
    simp only [List.length_nil] at h4
    dsimp only
    omega
  · rename_i hc
    rw [if_neg hc] at h
    cases h
/-! ### Without soft hyphens -/
def plainW (l : List TW) : List TW := l.map fun p => (p.1, [])
def keepB (b : UInt8) : Bool := decide (b ≠ 194 ∧ b ≠ 173)
theorem bytesM_keep (ss : List Int) : ∀ (cs : List Int) (n : Nat), cs.all codeB = true → (bytesM ss cs n).filter keepB = bytesM [] cs n
  | [], _, _ => rfl
  | c :: r, n, hc => by
    simp only [List.all_cons, Bool.and_eq_true] at hc
    obtain ⟨_, b2, b3, _⟩ := code_byte hc.1
    have ih := bytesM_keep ss r (n + 1) hc.2
    have e : keepB (UInt8.ofNat c.toNat) = true := decide_eq_true ⟨b2, b3⟩
    have e1 : bytesM [] (c :: r) n = UInt8.ofNat c.toNat :: bytesM [] r (n + 1) := by rw [bytesM, if_neg (fun h => by cases h), List.nil_append]
    have e2 : (if (n : Int) ∈ ss then [194, 173] else ([] : List UInt8)).filter keepB = [] := by
      split
      · rfl
      · rfl
    rw [e1, bytesM, List.filter_append, List.filter_cons, if_pos e, ih, e2, List.nil_append]
theorem word_code {p : TW} (h : wordB p = true) : p.1.all codeB = true := by
  simp only [wordB, Bool.and_eq_true] at h
  exact h.2.1
theorem textL_keep : ∀ l : List TW, (∀ p ∈ l, wordB p = true) → (textL l).filter keepB = textL (plainW l)
  | [], _ => rfl
  | [p], h => by rw [textL]; exact bytesM_keep _ _ _ (word_code (h p (by simp)))
  | p :: q :: r, h => by
    have ih := textL_keep (q :: r) (fun x hx => h x (by simp [hx]))
    have h1 := bytesM_keep p.2 p.1 0 (word_code (h p (by simp)))
    rw [textL, List.filter_append, List.filter_cons, if_pos (by decide), ih, show (bytesL p).filter keepB = bytesL (p.1, []) from h1]; rfl
theorem plain_word {p : TW} (h : wordB p = true) : wordB (p.1, []) = true := by
  simp only [wordB, Bool.and_eq_true] at h ⊢
  exact ⟨h.1, h.2.1, rfl⟩
theorem plain_check {l : List TW} (h : checkB l = true) : checkB (plainW l) = true := by
  simp only [checkB, Bool.and_eq_true, decide_eq_true_eq, List.all_eq_true] at h ⊢
  refine ⟨by rw [plainW, List.length_map]; exact h.1, fun p hp => ?_, ?_⟩
  · obtain ⟨q, hq, rfl⟩ := List.mem_map.1 hp
    exact plain_word (h.2.1 q hq)
  · have e : sumC (plainW l) = sumC l := by unfold sumC plainW; rw [List.map_map]; rfl
    rw [e]; exact h.2.2
end L13
end Go.Proofs.YtbiklbomacjihaaDoor

