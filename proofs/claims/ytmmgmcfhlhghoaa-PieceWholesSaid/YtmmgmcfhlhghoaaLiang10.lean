/- Layer 10, plain: patterns, exceptions, their words, a text's words. -/
import Derived.Test.YtmmgmcfhlhghoaaFrame
namespace Go.Proofs.Ytmmgmcfhlhghoaa
namespace L10

/-- A text's bytes, and its numbers. -/
abbrev TN := List UInt8 × List Int

def letterB (b : UInt8) : Bool := decide (97 ≤ b.toNat ∧ b.toNat ≤ 122)
def plainB (l : List UInt8) : Bool := decide (1 ≤ l.length ∧ l.length ≤ 40) && l.all letterB
def headD (l : List UInt8) : List UInt8 := if l.head? = some 46 then l.tail else l
def tailD (l : List UInt8) : List UInt8 := if l.getLast? = some 46 then l.dropLast else l
def coreL (l : List UInt8) : List UInt8 := tailD (headD l)
def valB (n : Int) : Bool := decide (0 ≤ n ∧ n ≤ 9)
def patB (p : TN) : Bool := plainB (coreL p.1) && (decide (p.2.length = p.1.length + 1) && p.2.all valB)
def risesB (n : Int) : Int → List Int → Bool
  | _, [] => true
  | least, a :: r => decide (least ≤ a ∧ a < n) && risesB n (a + 1) r
def excB (p : TN) : Bool := plainB p.1 && (decide (0 < p.2.length) && risesB p.1.length 1 p.2)
def digitL (v : Int) : List UInt8 := if v = 0 then [] else [UInt8.ofNat (48 + v.toNat)]
/-- A pattern's word, of its first k values. -/
def wordTo (p : TN) : Nat → List UInt8
  | 0 => []
  | k + 1 => wordTo p k ++ (digitL (p.2.getD k 0) ++ if k < p.1.length then [p.1.getD k 0] else [])
def wordL (p : TN) : List UInt8 := wordTo p (p.1.length + 1)
/-- An exception's word, from letter n on. -/
def partM (at' : List Int) : List UInt8 → Nat → List UInt8
  | [], _ => []
  | b :: s, n => (if (n : Int) ∈ at' then [45] else []) ++ b :: partM at' s (n + 1)
def partL (p : TN) : List UInt8 := partM p.2 p.1 0
/-- The pattern that bytes tell, of which the value ahead is v. -/
def asPatGo : List UInt8 → Int → Option TN
  | [], v => some ([], [v])
  | b :: r, v => if 49 ≤ b.toNat ∧ b.toNat ≤ 57 then (if 0 < v then none else asPatGo r (b.toNat - 48)) else (asPatGo r 0).map fun p => (b :: p.1, v :: p.2)
def asPat (w : List UInt8) : Option TN := match asPatGo w 0 with
  | some p => if patB p = true then some p else none
  | none => none
def asExcGo : List UInt8 → Nat → TN
  | [], _ => ([], [])
  | b :: r, n => if b = 45 then ((asExcGo r n).1, (n : Int) :: (asExcGo r n).2) else (b :: (asExcGo r (n + 1)).1, (asExcGo r (n + 1)).2)
def asExc (w : List UInt8) : Option TN := if excB (asExcGo w 0) = true then some (asExcGo w 0) else none
def gapB (b : UInt8) : Bool := decide (b = 9 ∨ b = 10 ∨ b = 13 ∨ b = 32)
/-- A text's words, behind so many bytes of one. -/
def wordsGo : List UInt8 → List UInt8 → List (List UInt8)
  | acc, [] => if acc = [] then [] else [acc]
  | acc, b :: r => if gapB b = true then (if acc = [] then wordsGo [] r else acc :: wordsGo [] r) else wordsGo (acc ++ [b]) r
def wordsL (l : List UInt8) : List (List UInt8) := wordsGo [] l
abbrev LL := List TN × List TN
/-- One word more. -/
def addW (st : LL) (w : List UInt8) : Option LL := match asPat w with
  | some p => some (st.1 ++ [p], st.2)
  | none => match asExc w with
    | some x => some (st.1, st.2 ++ [x])
    | none => none
def parseS : LL → List (List UInt8) → Option LL
  | st, [] => some st
  | st, w :: r => match addW st w with
    | some st' => parseS st' r
    | none => none
def parseV (l : List UInt8) : Option LL := if (wordsL l).length ≤ 300 then parseS ([], []) (wordsL l) else none
def patsB (q : LL) : Bool := decide (q.1.length + q.2.length ≤ 300) && (q.1.all patB && q.2.all excB)
def linesP (l : List TN) : List UInt8 := l.flatMap fun p => wordL p ++ [10]
def linesE (l : List TN) : List UInt8 := l.flatMap fun p => partL p ++ [10]
def writeL (q : LL) : List UInt8 := linesP q.1 ++ linesE q.2

/-! ### Patterns -/
theorem letter_lt {b : UInt8} (h : letterB b = true) : 97 ≤ b.toNat ∧ b.toNat ≤ 122 := by simpa [letterB] using h
theorem headD_mem {l : List UInt8} {b : UInt8} (h : b ∈ l) : b ∈ headD l ∨ b = 46 := by
  unfold headD
  split
  · rename_i h1
    cases l with
    | nil => simp at h
    | cons a r =>
      simp at h1
      subst h1
      rcases List.mem_cons.1 h with rfl | h
      · exact .inr rfl
      · exact .inl h
  · exact .inl h
theorem tailD_mem {l : List UInt8} {b : UInt8} (h : b ∈ l) : b ∈ tailD l ∨ b = 46 := by
  unfold tailD
  split
  · rename_i h1
    have hne : l ≠ [] := by rintro rfl; simp at h
    have e := List.dropLast_concat_getLast hne
    rw [List.getLast?_eq_some_getLast hne, Option.some.injEq] at h1
    rw [h1] at e
    rw [← e] at h
    rcases List.mem_append.1 h with h | h
    · exact .inl h
    · exact .inr (by simpa using h)
  · exact .inl h
theorem plain_letters {l : List UInt8} (h : plainB l = true) : ∀ b ∈ l, letterB b = true := by
  simp only [plainB, Bool.and_eq_true, List.all_eq_true] at h
  exact h.2
theorem pat_bytes {p : TN} (h : patB p = true) : ∀ b ∈ p.1, letterB b = true ∨ b = 46 := fun b hb => by
  simp only [patB, Bool.and_eq_true] at h
  rcases headD_mem hb with h1 | h1
  · rcases tailD_mem h1 with h2 | h2
    · exact .inl (plain_letters h.1 b h2)
    · exact .inr h2
  · exact .inr h1
theorem pat_vals {p : TN} (h : patB p = true) : p.2.length = p.1.length + 1 ∧ ∀ n ∈ p.2, 0 ≤ n ∧ n ≤ 9 := by
  simp only [patB, Bool.and_eq_true, decide_eq_true_eq, List.all_eq_true, valB] at h
  exact h.2
theorem headD_len (l : List UInt8) : l.length ≤ (headD l).length + 1 := by
  unfold headD; split <;> simp <;> omega
theorem tailD_len (l : List UInt8) : l.length ≤ (tailD l).length + 1 := by
  unfold tailD; split <;> simp <;> omega
theorem pat_len {p : TN} (h : patB p = true) : 1 ≤ p.1.length ∧ p.1.length ≤ 42 := by
  simp only [patB, Bool.and_eq_true, plainB, decide_eq_true_eq] at h
  have h1 := headD_len p.1
  have h2 := tailD_len (headD p.1)
  have h3 : (coreL p.1).length ≤ (headD p.1).length := by unfold coreL tailD; split <;> simp
  have h4 : (headD p.1).length ≤ p.1.length := by unfold headD; split <;> simp
  have e : coreL p.1 = tailD (headD p.1) := rfl
  rw [e] at h h3
  omega
theorem digit_nat {v : Int} (h : 0 ≤ v ∧ v ≤ 9) (_ : v ≠ 0) : (UInt8.ofNat (48 + v.toNat)).toNat = 48 + v.toNat := by simp; omega
theorem wordTo_cons (b : UInt8) (s : List UInt8) (v : Int) (ns : List Int) : ∀ k, wordTo (b :: s, v :: ns) (k + 1) = digitL v ++ b :: wordTo (s, ns) k
  | 0 => by simp [wordTo]
  | k + 1 => by
    rw [wordTo, wordTo_cons b s v ns k, wordTo]
    simp [List.append_assoc]
theorem wordL_cons (b : UInt8) (s : List UInt8) (v : Int) (ns : List Int) : wordL (b :: s, v :: ns) = digitL v ++ b :: wordL (s, ns) := wordTo_cons b s v ns _
theorem wordL_nil (v : Int) : wordL ([], [v]) = digitL v := by simp [wordL, wordTo]

/-- A word's pattern is that of which it is the word. -/
theorem asPatGo_word : ∀ (s : List UInt8) (ns : List Int), ns.length = s.length + 1 → (∀ n ∈ ns, 0 ≤ n ∧ n ≤ 9) → (∀ b ∈ s, ¬ (49 ≤ b.toNat ∧ b.toNat ≤ 57)) → asPatGo (wordL (s, ns)) 0 = some (s, ns)
  | [], [v], _, hv, _ => by
    rw [wordL_nil, digitL]
    have hv := hv v (by simp)
    split
    · rename_i h; subst h; rfl
    · rename_i h
      have e := digit_nat hv h
      simp only [asPatGo, e]
      rw [if_pos (by omega), if_neg (by omega)]
      congr
      omega
  | [], [], h, _, _ => by simp at h
  | [], _ :: _ :: _, h, _, _ => by simp at h
  | b :: s, [], h, _, _ => by simp at h
  | b :: s, v :: ns, h, hv, hb => by
    have ih := asPatGo_word s ns (by simpa using h) (fun n hn => hv n (by simp [hn])) (fun c hc => hb c (by simp [hc]))
    have hv := hv v (by simp)
    have hb := hb b (by simp)
    have step : ∀ u, asPatGo (b :: wordL (s, ns)) u = some (b :: s, u :: ns) := fun u => by
      rw [asPatGo, if_neg hb, ih]; rfl
    rw [wordL_cons, digitL]
    split
    · rename_i h0; subst h0; exact step 0
    · rename_i h0
      have e := digit_nat hv h0
      rw [List.cons_append, List.nil_append, asPatGo, e, if_pos (by omega), if_neg (by omega), step]
      congr
      omega
theorem asPat_word {p : TN} (h : patB p = true) : asPat (wordL p) = some p := by
  obtain ⟨h1, h2⟩ := pat_vals h
  have := asPatGo_word p.1 p.2 h1 h2 (fun b hb => by
    rcases pat_bytes h b hb with h3 | h3
    · have := letter_lt h3; omega
    · subst h3; decide)
  unfold asPat
  rw [this]
  exact if_pos h
/-- The word of a word's pattern is the word. -/
theorem word_asPatGo : ∀ (w : List UInt8) (v : Int) (p : TN), 0 ≤ v → v ≤ 9 → asPatGo w v = some p → wordL p = digitL v ++ w ∧ p.2.length = p.1.length + 1 ∧ ∀ n ∈ p.2, 0 ≤ n ∧ n ≤ 9
  | [], v, p, h0, h9, h => by
    simp only [asPatGo, Option.some.injEq] at h
    subst h
    exact ⟨by rw [wordL_nil]; simp, rfl, by simp; exact ⟨h0, h9⟩⟩
  | b :: r, v, p, h0, h9, h => by
    simp only [asPatGo] at h
    split at h
    · rename_i hb
      split at h
      · cases h
      · obtain ⟨g1, g2, g3⟩ := word_asPatGo r (b.toNat - 48) p (by omega) (by omega) h
        obtain rfl : v = 0 := by omega
        refine ⟨?_, g2, g3⟩
        rw [g1, digitL, if_neg (by omega), digitL, if_pos rfl]
        have e : UInt8.ofNat (48 + ((b.toNat : Int) - 48).toNat) = b := by
          apply UInt8.toNat.inj
          simp
          omega
        rw [e]; rfl
    · cases hr : asPatGo r 0 with
      | none => rw [hr] at h; cases h
      | some q =>
        rw [hr] at h
        simp only [Option.map_some, Option.some.injEq] at h
        subst h
        obtain ⟨g1, g2, g3⟩ := word_asPatGo r 0 q (by omega) (by omega) hr
        refine ⟨?_, by simp [g2], fun n hn => ?_⟩
        · rw [wordL_cons, show (q.1, q.2) = q from rfl, g1, digitL]; simp [digitL]
        · rcases List.mem_cons.1 hn with rfl | hn
          · exact ⟨h0, h9⟩
          · exact g3 n hn
theorem word_asPat {w : List UInt8} {p : TN} (h : asPat w = some p) : wordL p = w ∧ patB p = true := by
  unfold asPat at h
  split at h
  · rename_i q hq
    split at h
    · rename_i hp
      cases h
      exact ⟨by simpa [digitL] using (word_asPatGo w 0 p (by omega) (by omega) hq).1, hp⟩
    · cases h
  · cases h

/-! ### Exceptions -/
theorem rises_mem {n : Int} : ∀ (l : List Int) (least : Int), risesB n least l = true → ∀ a ∈ l, least ≤ a ∧ a < n
  | [], _, _, a, h => by simp at h
  | b :: r, least, h, a, ha => by
    simp only [risesB, Bool.and_eq_true, decide_eq_true_eq] at h
    rcases List.mem_cons.1 ha with rfl | ha
    · exact h.1
    · have := rises_mem r (b + 1) h.2 a ha; omega
theorem partM_append (at' : List Int) (m : List UInt8) : ∀ (l : List UInt8) (n : Nat), partM at' (l ++ m) n = partM at' l n ++ partM at' m (n + l.length)
  | [], n => by simp [partM]
  | b :: l, n => by
    have e := partM_append at' m l (n + 1)
    rw [List.cons_append, partM, partM, e, List.length_cons, show n + 1 + l.length = n + (l.length + 1) by omega]
    simp
theorem partM_congr {a a' : List Int} : ∀ (s : List UInt8) (n : Nat), (∀ j : Nat, n ≤ j → j < n + s.length → ((j : Int) ∈ a ↔ (j : Int) ∈ a')) → partM a s n = partM a' s n
  | [], _, _ => rfl
  | b :: s, n, h => by
    rw [partM, partM, partM_congr s (n + 1) (fun j h1 h2 => h j (by omega) (by simp; omega))]
    have := h n (Nat.le_refl _) (by simp)
    by_cases hn : (n : Int) ∈ a
    · rw [if_pos hn, if_pos (this.1 hn)]
    · rw [if_neg hn, if_neg (fun x => hn (this.2 x))]
theorem partM_none {a : List Int} (s : List UInt8) (n : Nat) (h : ∀ j : Nat, n ≤ j → j < n + s.length → (j : Int) ∉ a) : partM a s n = s := by
  rw [partM_congr (a' := []) s n (fun j h1 h2 => by simp [h j h1 h2])]
  clear h
  induction s generalizing n with
  | nil => rfl
  | cons b s ih => simp [partM, ih]
theorem partM_hit {a : List Int} (s : List UInt8) (n : Nat) (hs : 0 < s.length) (hn : (n : Int) ∈ a) (h : ∀ j : Nat, n < j → j < n + s.length → (j : Int) ∉ a) : partM a s n = 45 :: s := by
  cases s with
  | nil => simp at hs
  | cons b s =>
    rw [partM, if_pos hn, partM_none s (n + 1) (fun j h1 h2 => h j (by omega) (by simp; omega))]
    rfl
/-- What is left of places from n on. -/
def fromN (n : Nat) (l : List Int) : List Int := l.filter fun a => decide ((n : Int) ≤ a)
theorem fromN_all {n : Nat} {l : List Int} (h : ∀ a ∈ l, (n : Int) ≤ a) : fromN n l = l := by
  unfold fromN
  rw [List.filter_eq_self]
  exact fun a ha => by simpa using h a ha
theorem fromN_step {m : Int} : ∀ (l : List Int) (least : Int) (n : Nat), risesB m least l = true → fromN n l = (if (n : Int) ∈ l then [(n : Int)] else []) ++ fromN (n + 1) l
  | [], _, _, _ => by simp [fromN]
  | a :: r, least, n, h => by
    simp only [risesB, Bool.and_eq_true, decide_eq_true_eq] at h
    have ih := fromN_step r (a + 1) n h.2
    have hm := rises_mem r (a + 1) h.2
    by_cases e : a = (n : Int)
    · subst e
      have h1 : fromN n ((n : Int) :: r) = (n : Int) :: fromN n r := by simp [fromN]
      have h2 : fromN (n + 1) ((n : Int) :: r) = fromN (n + 1) r := by
        unfold fromN; rw [List.filter_cons, if_neg (by simp; omega)]
      have h3 : fromN n r = fromN (n + 1) r := by
        rw [ih, if_neg (fun hx => by have := hm _ hx; omega)]; rfl
      rw [h1, h2, h3, if_pos (by simp)]; rfl
    · by_cases hl : (n : Int) ≤ a
      · have h1 : fromN n (a :: r) = a :: fromN n r := by simp [fromN, hl]
        have h2 : fromN (n + 1) (a :: r) = a :: fromN (n + 1) r := by
          unfold fromN; rw [List.filter_cons, if_pos (by simp; omega)]
        have h3 : fromN n r = fromN (n + 1) r := by
          rw [ih, if_neg (fun hx => by have := hm _ hx; omega)]; rfl
        rw [h1, h2, h3, if_neg]
        · rfl
        · simp only [List.mem_cons, not_or]
          exact ⟨fun hx => e hx.symm, fun hx => by have := hm _ hx; omega⟩
      · have h1 : fromN n (a :: r) = fromN n r := by
          unfold fromN; rw [List.filter_cons, if_neg (by simpa using hl)]
        have h2 : fromN (n + 1) (a :: r) = fromN (n + 1) r := by
          unfold fromN; rw [List.filter_cons, if_neg (by simp; omega)]
        rw [h1, h2, ih]
        by_cases hx : (n : Int) ∈ r
        · rw [if_pos hx, if_pos (by simp [hx])]
        · rw [if_neg hx, if_neg (by simp only [List.mem_cons, not_or]; exact ⟨fun hx' => e hx'.symm, hx⟩)]
theorem asExcGo_part {m least : Int} (a : List Int) (hr : risesB m least a = true) : ∀ (s : List UInt8) (n : Nat), m = (n + s.length : Nat) → (∀ b ∈ s, b ≠ 45) → asExcGo (partM a s n) n = (s, fromN n a)
  | [], n, hm, _ => by
    have : fromN n a = [] := by
      unfold fromN
      rw [List.filter_eq_nil_iff]
      intro x hx
      have := rises_mem a least hr x hx
      simp at hm
      simp
      omega
    rw [this]; rfl
  | b :: s, n, hm, hb => by
    have ih := asExcGo_part a hr s (n + 1) (by simp at hm ⊢; omega) (fun c hc => hb c (by simp [hc]))
    have hb := hb b (by simp)
    have st := fromN_step a least n hr
    have h1 : asExcGo (b :: partM a s (n + 1)) n = (b :: s, fromN (n + 1) a) := by
      rw [asExcGo, if_neg hb, ih]
    rw [partM]
    by_cases hn : (n : Int) ∈ a
    · rw [if_pos hn] at st ⊢
      rw [List.cons_append, List.nil_append, asExcGo, if_pos rfl, h1, st]; rfl
    · rw [if_neg hn] at st ⊢
      rw [List.nil_append, h1, st]; rfl
theorem exc_parts {p : TN} (h : excB p = true) : plainB p.1 = true ∧ 0 < p.2.length ∧ risesB p.1.length 1 p.2 = true := by
  simp only [excB, Bool.and_eq_true, decide_eq_true_eq] at h
  exact ⟨h.1, h.2.1, h.2.2⟩
theorem plain_no {l : List UInt8} (h : plainB l = true) (c : UInt8) (hc : letterB c = false) : ∀ b ∈ l, b ≠ c := fun b hb e => by
  have := plain_letters h b hb
  rw [e, hc] at this
  cases this
theorem asExc_part {p : TN} (h : excB p = true) : asExc (partL p) = some p := by
  obtain ⟨h1, h2, h3⟩ := exc_parts h
  have e := asExcGo_part p.2 h3 p.1 0 (by simp) (plain_no h1 45 (by decide))
  rw [fromN_all (fun a ha => by have := rises_mem _ _ h3 a ha; simp; omega)] at e
  unfold asExc partL
  rw [e]
  exact if_pos h
theorem asExcGo_mem : ∀ (w : List UInt8) (n : Nat), ∀ a ∈ (asExcGo w n).2, (n : Int) ≤ a
  | [], _, a, h => by simp [asExcGo] at h
  | b :: r, n, a, h => by
    simp only [asExcGo] at h
    split at h
    · rcases List.mem_cons.1 h with rfl | h
      · exact Int.le_refl _
      · exact asExcGo_mem r n a h
    · have := asExcGo_mem r (n + 1) a h; omega
theorem part_asExcGo : ∀ (w : List UInt8) (n : Nat) (least : Int), risesB ((n + (asExcGo w n).1.length : Nat) : Int) least (asExcGo w n).2 = true → partM (asExcGo w n).2 (asExcGo w n).1 n = w
  | [], _, _, _ => rfl
  | b :: r, n, least, h => by
    by_cases hb : b = 45
    · subst hb
      simp only [asExcGo, if_pos] at h ⊢
      simp only [risesB, Bool.and_eq_true, decide_eq_true_eq] at h
      obtain ⟨⟨h1, h2⟩, h3⟩ := h
      have ih := part_asExcGo r n _ h3
      have hm := rises_mem _ _ h3
      have hs : 0 < (asExcGo r n).1.length := by omega
      cases hx : (asExcGo r n).1 with
      | nil => rw [hx] at hs; simp at hs
      | cons c s =>
        rw [hx] at ih
        rw [partM, if_neg (fun hn => by have := hm _ hn; omega)] at ih
        rw [partM, if_pos (by simp), partM_congr (a' := (asExcGo r n).2) s (n + 1) (fun j h4 _ => by
          simp only [List.mem_cons]
          constructor
          · rintro (h5 | h5)
            · omega
            · exact h5
          · exact .inr), List.cons_append, List.nil_append]
        exact congrArg (45 :: ·) ih
    · simp only [asExcGo, if_neg hb] at h ⊢
      have ih := part_asExcGo r (n + 1) least (by rw [List.length_cons, show n + ((asExcGo r (n + 1)).1.length + 1) = n + 1 + (asExcGo r (n + 1)).1.length by omega] at h; exact h)
      rw [partM, if_neg (fun hn => by have := asExcGo_mem r (n + 1) _ hn; omega), ih]
      rfl
theorem part_asExc {w : List UInt8} {p : TN} (h : asExc w = some p) : partL p = w ∧ excB p = true := by
  unfold asExc at h
  split at h
  · rename_i he
    cases h
    refine ⟨?_, he⟩
    have := (exc_parts he).2.2
    exact part_asExcGo w 0 1 (by simpa using this)
  · cases h
end L10
end Go.Proofs.Ytmmgmcfhlhghoaa

