/- Layer 10, plain: patterns, exceptions, their words, a text's words. Layer 11, plain: the numbers of a text's places by patterns; the beginnings of patterns. Several rows of one's own beside each other, an iterator over a string, boxes: what stays while one of them turns. Any program. Maps with keys of whatever kind, by a function of the key. Any program. All blocks but some are as they were. Any program. Layer 11: a trie's maps in memory. Layer 11: a trie's steps, and its values, in memory. The landed lift of layer 11. sync.Once, one goroutine: Do, the first time and later; whatever the function handed to it is. And atomic.Int64. The landed grow of layer 11. -/
import Derived.Test.YtmmgmcfhlhghoaaGreatDoorGA16
import Derived.Lib.OthersKept
import Derived.OneCell
import Derived.Maps.Own
import Derived.Maps.OwnOps
import Derived.Maps.OwnSet
import Derived.Maps.Views
import Derived.DeepKeys4
import Derived.Deep.LoopGhost
import Derived.Deep.QuietTactic
import Derived.Defers
import Derived.Laws.Pointers
import Derived.Laws.LoneSync
import Derived.Laws.NewBlocks
import Derived.RegionCalls
import Derived.Deep.Cut
import Derived.BigQuiet
import Derived.StillTailTactics
namespace Go.Proofs.YtmmgmcfhlhghoaaGreatDoor
namespace L10

/-- A text's bytes, and its numbers. -/
abbrev TN := List UInt8 × List Int

def letterB (b : UInt8) : Bool := decide (97 ≤ b.toNat ∧ b.toNat ≤ 122)
def plainB (l : List UInt8) : Bool := decide (1 ≤ l.length ∧ l.length ≤ 40) && l.all letterB
def headD (l : List UInt8) : List UInt8 := if l.head? = some 46 then l.tail else l
def tailD (l : List UInt8) : List UInt8 := if l.getLast? = some 46 then l.dropLast else l
def coreL (l : List UInt8) : List UInt8 := tailD (headD l)
def valB (n : Int) : Bool := decide (0 ≤ n ∧ n ≤ 9)
def patB (p : TN) : Bool := plainB (coreL p.1) && (decide (p.2.length = p.1.length + 1) && p.2.all valB)
def risesB (n : Int) : Int → List Int → Bool
  | _, [] => true
  | least, a :: r => decide (least ≤ a ∧ a < n) && risesB n (a + 1) r
def excB (p : TN) : Bool := plainB p.1 && (decide (0 < p.2.length) && risesB p.1.length 1 p.2)
def digitL (v : Int) : List UInt8 := if v = 0 then [] else [UInt8.ofNat (48 + v.toNat)]
/-- A pattern's word, of its first k values. -/
def wordTo (p : TN) : Nat → List UInt8
  | 0 => []
  | k + 1 => wordTo p k ++ (digitL (p.2.getD k 0) ++ if k < p.1.length then [p.1.getD k 0] else [])
def wordL (p : TN) : List UInt8 := wordTo p (p.1.length + 1)
/-- An exception's word, from letter n on. -/
def partM (at' : List Int) : List UInt8 → Nat → List UInt8
  | [], _ => []
  | b :: s, n => (if (n : Int) ∈ at' then [45] else []) ++ b :: partM at' s (n + 1)
def partL (p : TN) : List UInt8 := partM p.2 p.1 0
/-- The pattern that bytes tell, of which the value ahead is v. -/
def asPatGo : List UInt8 → Int → Option TN
  | [], v => some ([], [v])
  | b :: r, v => if 49 ≤ b.toNat ∧ b.toNat ≤ 57 then (if 0 < v then none else asPatGo r (b.toNat - 48)) else (asPatGo r 0).map fun p => (b :: p.1, v :: p.2)
def asPat (w : List UInt8) : Option TN := match asPatGo w 0 with
  | some p => if patB p = true then some p else none
  | none => none
def asExcGo : List UInt8 → Nat → TN
  | [], _ => ([], [])
  | b :: r, n => if b = 45 then ((asExcGo r n).1, (n : Int) :: (asExcGo r n).2) else (b :: (asExcGo r (n + 1)).1, (asExcGo r (n + 1)).2)
def asExc (w : List UInt8) : Option TN := if excB (asExcGo w 0) = true then some (asExcGo w 0) else none
def gapB (b : UInt8) : Bool := decide (b = 9 ∨ b = 10 ∨ b = 13 ∨ b = 32)
/-- A text's words, behind so many bytes of one. -/
def wordsGo : List UInt8 → List UInt8 → List (List UInt8)
  | acc, [] => if acc = [] then [] else [acc]
  | acc, b :: r => if gapB b = true then (if acc = [] then wordsGo [] r else acc :: wordsGo [] r) else wordsGo (acc ++ [b]) r
def wordsL (l : List UInt8) : List (List UInt8) := wordsGo [] l
abbrev LL := List TN × List TN
/-- One word more. -/
def addW (st : LL) (w : List UInt8) : Option LL := match asPat w with
  | some p => some (st.1 ++ [p], st.2)
  | none => match asExc w with
    | some x => some (st.1, st.2 ++ [x])
    | none => none
def parseS : LL → List (List UInt8) → Option LL
  | st, [] => some st
  | st, w :: r => match addW st w with
    | some st' => parseS st' r
    | none => none
def parseV (l : List UInt8) : Option LL := if (wordsL l).length ≤ 300 then parseS ([], []) (wordsL l) else none
def patsB (q : LL) : Bool := decide (q.1.length + q.2.length ≤ 300) && (q.1.all patB && q.2.all excB)
def linesP (l : List TN) : List UInt8 := l.flatMap fun p => wordL p ++ [10]
def linesE (l : List TN) : List UInt8 := l.flatMap fun p => partL p ++ [10]
def writeL (q : LL) : List UInt8 := linesP q.1 ++ linesE q.2

/-! ### Patterns -/
theorem letter_lt {b : UInt8} (h : letterB b = true) : 97 ≤ b.toNat ∧ b.toNat ≤ 122 := by simpa [letterB] using h
theorem headD_mem {l : List UInt8} {b : UInt8} (h : b ∈ l) : b ∈ headD l ∨ b = 46 := by
  unfold headD
  split
  · rename_i h1
    cases l with
    | nil => simp at h
    | cons a r =>
      simp at h1
      subst h1
      rcases List.mem_cons.1 h with rfl | h
      · exact .inr rfl
      · exact .inl h
  · exact .inl h
theorem tailD_mem {l : List UInt8} {b : UInt8} (h : b ∈ l) : b ∈ tailD l ∨ b = 46 := by
  unfold tailD
  split
  · rename_i h1
    have hne : l ≠ [] := by rintro rfl; simp at h
    have e := List.dropLast_concat_getLast hne
    rw [List.getLast?_eq_some_getLast hne, Option.some.injEq] at h1
    rw [h1] at e
    rw [← e] at h
    rcases List.mem_append.1 h with h | h
    · exact .inl h
    · exact .inr (by simpa using h)
  · exact .inl h
theorem plain_letters {l : List UInt8} (h : plainB l = true) : ∀ b ∈ l, letterB b = true := by
  simp only [plainB, Bool.and_eq_true, List.all_eq_true] at h
  exact h.2
theorem pat_bytes {p : TN} (h : patB p = true) : ∀ b ∈ p.1, letterB b = true ∨ b = 46 := fun b hb => by
  simp only [patB, Bool.and_eq_true] at h
  rcases headD_mem hb with h1 | h1
  · rcases tailD_mem h1 with h2 | h2
    · exact .inl (plain_letters h.1 b h2)
    · exact .inr h2
  · exact .inr h1
theorem pat_vals {p : TN} (h : patB p = true) : p.2.length = p.1.length + 1 ∧ ∀ n ∈ p.2, 0 ≤ n ∧ n ≤ 9 := by
  simp only [patB, Bool.and_eq_true, decide_eq_true_eq, List.all_eq_true, valB] at h
  exact h.2
theorem headD_len (l : List UInt8) : l.length ≤ (headD l).length + 1 := by
  unfold headD; split <;> simp <;> omega
theorem tailD_len (l : List UInt8) : l.length ≤ (tailD l).length + 1 := by
  unfold tailD; split <;> simp <;> omega
theorem pat_len {p : TN} (h : patB p = true) : 1 ≤ p.1.length ∧ p.1.length ≤ 42 := by
  simp only [patB, Bool.and_eq_true, plainB, decide_eq_true_eq] at h
  have h1 := headD_len p.1
  have h2 := tailD_len (headD p.1)
  have h3 : (coreL p.1).length ≤ (headD p.1).length := by unfold coreL tailD; split <;> simp
  have h4 : (headD p.1).length ≤ p.1.length := by unfold headD; split <;> simp
  have e : coreL p.1 = tailD (headD p.1) := rfl
  rw [e] at h h3
  omega
theorem digit_nat {v : Int} (h : 0 ≤ v ∧ v ≤ 9) (_ : v ≠ 0) : (UInt8.ofNat (48 + v.toNat)).toNat = 48 + v.toNat := by simp; omega
theorem wordTo_cons (b : UInt8) (s : List UInt8) (v : Int) (ns : List Int) : ∀ k, wordTo (b :: s, v :: ns) (k + 1) = digitL v ++ b :: wordTo (s, ns) k
  | 0 => by simp [wordTo]
  | k + 1 => by
    rw [wordTo, wordTo_cons b s v ns k, wordTo]
    simp [List.append_assoc]
theorem wordL_cons (b : UInt8) (s : List UInt8) (v : Int) (ns : List Int) : wordL (b :: s, v :: ns) = digitL v ++ b :: wordL (s, ns) := wordTo_cons b s v ns _
theorem wordL_nil (v : Int) : wordL ([], [v]) = digitL v := by simp [wordL, wordTo]

/-- A word's pattern is that of which it is the word. -/
theorem asPatGo_word : ∀ (s : List UInt8) (ns : List Int), ns.length = s.length + 1 → (∀ n ∈ ns, 0 ≤ n ∧ n ≤ 9) → (∀ b ∈ s, ¬ (49 ≤ b.toNat ∧ b.toNat ≤ 57)) → asPatGo (wordL (s, ns)) 0 = some (s, ns)
  | [], [v], _, hv, _ => by
    rw [wordL_nil, digitL]
    have hv := hv v (by simp)
    split
    · rename_i h; subst h; rfl
    · rename_i h
      have e := digit_nat hv h
      simp only [asPatGo, e]
      rw [if_pos (by omega), if_neg (by omega)]
      congr
      omega
  | [], [], h, _, _ => by simp at h
  | [], _ :: _ :: _, h, _, _ => by simp at h
  | b :: s, [], h, _, _ => by simp at h
  | b :: s, v :: ns, h, hv, hb => by
    have ih := asPatGo_word s ns (by simpa using h) (fun n hn => hv n (by simp [hn])) (fun c hc => hb c (by simp [hc]))
    have hv := hv v (by simp)
    have hb := hb b (by simp)
    have step : ∀ u, asPatGo (b :: wordL (s, ns)) u = some (b :: s, u :: ns) := fun u => by
      rw [asPatGo, if_neg hb, ih]; rfl
    rw [wordL_cons, digitL]
    split
    · rename_i h0; subst h0; exact step 0
    · rename_i h0
      have e := digit_nat hv h0
      rw [List.cons_append, List.nil_append, asPatGo, e, if_pos (by omega), if_neg (by omega), step]
      congr
      omega
theorem asPat_word {p : TN} (h : patB p = true) : asPat (wordL p) = some p := by
  obtain ⟨h1, h2⟩ := pat_vals h
  have := asPatGo_word p.1 p.2 h1 h2 (fun b hb => by
    rcases pat_bytes h b hb with h3 | h3
    · have := letter_lt h3; omega
    · subst h3; decide)
  unfold asPat
  rw [this]
  exact if_pos h
/-- The word of a word's pattern is the word. -/
theorem word_asPatGo : ∀ (w : List UInt8) (v : Int) (p : TN), 0 ≤ v → v ≤ 9 → asPatGo w v = some p → wordL p = digitL v ++ w ∧ p.2.length = p.1.length + 1 ∧ ∀ n ∈ p.2, 0 ≤ n ∧ n ≤ 9
  | [], v, p, h0, h9, h => by
    simp only [asPatGo, Option.some.injEq] at h
    subst h
    exact ⟨by rw [wordL_nil]; simp, rfl, by simp; exact ⟨h0, h9⟩⟩
  | b :: r, v, p, h0, h9, h => by
    simp only [asPatGo] at h
    split at h
    · rename_i hb
      split at h
      · cases h
      · obtain ⟨g1, g2, g3⟩ := word_asPatGo r (b.toNat - 48) p (by omega) (by omega) h
        obtain rfl : v = 0 := by omega
        refine ⟨?_, g2, g3⟩
        rw [g1, digitL, if_neg (by omega), digitL, if_pos rfl]
        have e : UInt8.ofNat (48 + ((b.toNat : Int) - 48).toNat) = b := by
          apply UInt8.toNat.inj
          simp
          omega
        rw [e]; rfl
    · cases hr : asPatGo r 0 with
      | none => rw [hr] at h; cases h
      | some q =>
        rw [hr] at h
        simp only [Option.map_some, Option.some.injEq] at h
        subst h
        obtain ⟨g1, g2, g3⟩ := word_asPatGo r 0 q (by omega) (by omega) hr
        refine ⟨?_, by simp [g2], fun n hn => ?_⟩
        · rw [wordL_cons, show (q.1, q.2) = q from rfl, g1, digitL]; simp [digitL]
        · rcases List.mem_cons.1 hn with rfl | hn
          · exact ⟨h0, h9⟩
          · exact g3 n hn
theorem word_asPat {w : List UInt8} {p : TN} (h : asPat w = some p) : wordL p = w ∧ patB p = true := by
  unfold asPat at h
  split at h
  · rename_i q hq
    split at h
    · rename_i hp
      cases h
      exact ⟨by simpa [digitL] using (word_asPatGo w 0 p (by omega) (by omega) hq).1, hp⟩
    · cases h
  · cases h

/-! ### Exceptions -/
theorem rises_mem {n : Int} : ∀ (l : List Int) (least : Int), risesB n least l = true → ∀ a ∈ l, least ≤ a ∧ a < n
  | [], _, _, a, h => by simp at h
  | b :: r, least, h, a, ha => by
    simp only [risesB, Bool.and_eq_true, decide_eq_true_eq] at h
    rcases List.mem_cons.1 ha with rfl | ha
    · exact h.1
    · have := rises_mem r (b + 1) h.2 a ha; omega
theorem partM_append (at' : List Int) (m : List UInt8) : ∀ (l : List UInt8) (n : Nat), partM at' (l ++ m) n = partM at' l n ++ partM at' m (n + l.length)
  | [], n => by simp [partM]
  | b :: l, n => by
    have e := partM_append at' m l (n + 1)
    rw [List.cons_append, partM, partM, e, List.length_cons, show n + 1 + l.length = n + (l.length + 1) by omega]
    simp
theorem partM_congr {a a' : List Int} : ∀ (s : List UInt8) (n : Nat), (∀ j : Nat, n ≤ j → j < n + s.length → ((j : Int) ∈ a ↔ (j : Int) ∈ a')) → partM a s n = partM a' s n
  | [], _, _ => rfl
  | b :: s, n, h => by
    rw [partM, partM, partM_congr s (n + 1) (fun j h1 h2 => h j (by omega) (by simp; omega))]
    have := h n (Nat.le_refl _) (by simp)
    by_cases hn : (n : Int) ∈ a
    · rw [if_pos hn, if_pos (this.1 hn)]
    · rw [if_neg hn, if_neg (fun x => hn (this.2 x))]
theorem partM_none {a : List Int} (s : List UInt8) (n : Nat) (h : ∀ j : Nat, n ≤ j → j < n + s.length → (j : Int) ∉ a) : partM a s n = s := by
  rw [partM_congr (a' := []) s n (fun j h1 h2 => by simp [h j h1 h2])]
  clear h
  induction s generalizing n with
  | nil => rfl
  | cons b s ih => simp [partM, ih]
theorem partM_hit {a : List Int} (s : List UInt8) (n : Nat) (hs : 0 < s.length) (hn : (n : Int) ∈ a) (h : ∀ j : Nat, n < j → j < n + s.length → (j : Int) ∉ a) : partM a s n = 45 :: s := by
  cases s with
  | nil => simp at hs
  | cons b s =>
    rw [partM, if_pos hn, partM_none s (n + 1) (fun j h1 h2 => h j (by omega) (by simp; omega))]
    rfl
/-- What is left of places from n on. -/
def fromN (n : Nat) (l : List Int) : List Int := l.filter fun a => decide ((n : Int) ≤ a)
theorem fromN_all {n : Nat} {l : List Int} (h : ∀ a ∈ l, (n : Int) ≤ a) : fromN n l = l := by
  unfold fromN
  rw [List.filter_eq_self]
  exact fun a ha => by simpa using h a ha
theorem fromN_step {m : Int} : ∀ (l : List Int) (least : Int) (n : Nat), risesB m least l = true → fromN n l = (if (n : Int) ∈ l then [(n : Int)] else []) ++ fromN (n + 1) l
  | [], _, _, _ => by simp [fromN]
  | a :: r, least, n, h => by
    simp only [risesB, Bool.and_eq_true, decide_eq_true_eq] at h
    have ih := fromN_step r (a + 1) n h.2
    have hm := rises_mem r (a + 1) h.2
    by_cases e : a = (n : Int)
    · subst e
      have h1 : fromN n ((n : Int) :: r) = (n : Int) :: fromN n r := by simp [fromN]
      have h2 : fromN (n + 1) ((n : Int) :: r) = fromN (n + 1) r := by
        unfold fromN; rw [List.filter_cons, if_neg (by simp; omega)]
      have h3 : fromN n r = fromN (n + 1) r := by
        rw [ih, if_neg (fun hx => by have := hm _ hx; omega)]; rfl
      rw [h1, h2, h3, if_pos (by simp)]; rfl
    · by_cases hl : (n : Int) ≤ a
      · have h1 : fromN n (a :: r) = a :: fromN n r := by simp [fromN, hl]
        have h2 : fromN (n + 1) (a :: r) = a :: fromN (n + 1) r := by
          unfold fromN; rw [List.filter_cons, if_pos (by simp; omega)]
        have h3 : fromN n r = fromN (n + 1) r := by
          rw [ih, if_neg (fun hx => by have := hm _ hx; omega)]; rfl
        rw [h1, h2, h3, if_neg]
        · rfl
        · simp only [List.mem_cons, not_or]
          exact ⟨fun hx => e hx.symm, fun hx => by have := hm _ hx; omega⟩
      · have h1 : fromN n (a :: r) = fromN n r := by
          unfold fromN; rw [List.filter_cons, if_neg (by simpa using hl)]
        have h2 : fromN (n + 1) (a :: r) = fromN (n + 1) r := by
          unfold fromN; rw [List.filter_cons, if_neg (by simp; omega)]
        rw [h1, h2, ih]
        by_cases hx : (n : Int) ∈ r
        · rw [if_pos hx, if_pos (by simp [hx])]
        · rw [if_neg hx, if_neg (by simp only [List.mem_cons, not_or]; exact ⟨fun hx' => e hx'.symm, hx⟩)]
theorem asExcGo_part {m least : Int} (a : List Int) (hr : risesB m least a = true) : ∀ (s : List UInt8) (n : Nat), m = (n + s.length : Nat) → (∀ b ∈ s, b ≠ 45) → asExcGo (partM a s n) n = (s, fromN n a)
  | [], n, hm, _ => by
    have : fromN n a = [] := by
      unfold fromN
      rw [List.filter_eq_nil_iff]
      intro x hx
      have := rises_mem a least hr x hx
      simp at hm
      simp
      omega
    rw [this]; rfl
  | b :: s, n, hm, hb => by
    have ih := asExcGo_part a hr s (n + 1) (by simp at hm ⊢; omega) (fun c hc => hb c (by simp [hc]))
    have hb := hb b (by simp)
    have st := fromN_step a least n hr
    have h1 : asExcGo (b :: partM a s (n + 1)) n = (b :: s, fromN (n + 1) a) := by
      rw [asExcGo, if_neg hb, ih]
    rw [partM]
    by_cases hn : (n : Int) ∈ a
    · rw [if_pos hn] at st ⊢
      rw [List.cons_append, List.nil_append, asExcGo, if_pos rfl, h1, st]; rfl
    · rw [if_neg hn] at st ⊢
      rw [List.nil_append, h1, st]; rfl
theorem exc_parts {p : TN} (h : excB p = true) : plainB p.1 = true ∧ 0 < p.2.length ∧ risesB p.1.length 1 p.2 = true := by
  simp only [excB, Bool.and_eq_true, decide_eq_true_eq] at h
  exact ⟨h.1, h.2.1, h.2.2⟩
theorem plain_no {l : List UInt8} (h : plainB l = true) (c : UInt8) (hc : letterB c = false) : ∀ b ∈ l, b ≠ c := fun b hb e => by
  have := plain_letters h b hb
  rw [e, hc] at this
  cases this
theorem asExc_part {p : TN} (h : excB p = true) : asExc (partL p) = some p := by
  obtain ⟨h1, h2, h3⟩ := exc_parts h
  have e := asExcGo_part p.2 h3 p.1 0 (by simp) (plain_no h1 45 (by decide))
  rw [fromN_all (fun a ha => by have := rises_mem _ _ h3 a ha; simp; omega)] at e
  unfold asExc partL
  rw [e]
  exact if_pos h
theorem asExcGo_mem : ∀ (w : List UInt8) (n : Nat), ∀ a ∈ (asExcGo w n).2, (n : Int) ≤ a
  | [], _, a, h => by simp [asExcGo] at h
  | b :: r, n, a, h => by
    simp only [asExcGo] at h
    split at h
    · rcases List.mem_cons.1 h with rfl | h
      · exact Int.le_refl _
      · exact asExcGo_mem r n a h
    · have := asExcGo_mem r (n + 1) a h; omega
theorem part_asExcGo : ∀ (w : List UInt8) (n : Nat) (least : Int), risesB ((n + (asExcGo w n).1.length : Nat) : Int) least (asExcGo w n).2 = true → partM (asExcGo w n).2 (asExcGo w n).1 n = w
  | [], _, _, _ => rfl
  | b :: r, n, least, h => by
    by_cases hb : b = 45
    · subst hb
      simp only [asExcGo, if_pos] at h ⊢
      simp only [risesB, Bool.and_eq_true, decide_eq_true_eq] at h
      obtain ⟨⟨h1, h2⟩, h3⟩ := h
      have ih := part_asExcGo r n _ h3
      have hm := rises_mem _ _ h3
      have hs : 0 < (asExcGo r n).1.length := by omega
      cases hx : (asExcGo r n).1 with
      | nil => rw [hx] at hs; simp at hs
      | cons c s =>
        rw [hx] at ih
        rw [partM, if_neg (fun hn => by have := hm _ hn; omega)] at ih
        rw [partM, if_pos (by simp), partM_congr (a' := (asExcGo r n).2) s (n + 1) (fun j h4 _ => by
          simp only [List.mem_cons]
          constructor
          · rintro (h5 | h5)
            · omega
            · exact h5
          · exact .inr), List.cons_append, List.nil_append]
        exact congrArg (45 :: ·) ih
    · simp only [asExcGo, if_neg hb] at h ⊢
      have ih := part_asExcGo r (n + 1) least (by rw [List.length_cons, show n + ((asExcGo r (n + 1)).1.length + 1) = n + 1 + (asExcGo r (n + 1)).1.length by omega] at h; exact h)
      rw [partM, if_neg (fun hn => by have := asExcGo_mem r (n + 1) _ hn; omega), ih]
      rfl
theorem part_asExc {w : List UInt8} {p : TN} (h : asExc w = some p) : partL p = w ∧ excB p = true := by
  unfold asExc at h
  split at h
  · rename_i he
    cases h
    refine ⟨?_, he⟩
    have := (exc_parts he).2.2
    exact part_asExcGo w 0 1 (by simpa using this)
  · cases h
end L10
end Go.Proofs.YtmmgmcfhlhghoaaGreatDoor

namespace Go.Proofs.YtmmgmcfhlhghoaaGreatDoor
namespace L11
open L10 (TN plainB patB)

/-! ### Greatest numbers -/
def supL (l : List Int) : Int := l.foldr max 0
theorem supL_le {n : Int} : ∀ {l : List Int}, supL l ≤ n ↔ 0 ≤ n ∧ ∀ v ∈ l, v ≤ n
  | [] => by simp [supL]
  | a :: l => by
    have ih := supL_le (n := n) (l := l)
    have e : supL (a :: l) = max a (supL l) := rfl
    rw [e, Int.max_le, ih]
    simp only [List.mem_cons, forall_eq_or_imp]
    exact ⟨fun ⟨h1, h2, h3⟩ => ⟨h2, h1, h3⟩, fun ⟨h1, h2, h3⟩ => ⟨h2, h1, h3⟩⟩
/-- Two numbers that are bounded alike are one. -/
theorem eq_of_le {a b : Int} (h : ∀ n, a ≤ n ↔ b ≤ n) : a = b := by
  have h1 := (h b).2 (Int.le_refl _)
  have h2 := (h a).1 (Int.le_refl _)
  omega
/-- What a pattern, at place a of a text, says of place i. -/
def hit (x : TN) (s : List UInt8) (a i : Nat) : Int := if a ≤ i ∧ x.1 <+: s.drop a then x.2.getD (i - a) 0 else 0
theorem hit_no {x : TN} {s : List UInt8} {a i : Nat} (h : ¬ x.1 <+: s.drop a) : hit x s a i = 0 := if_neg (fun k => h k.2)
/-- f is, at each place, the greatest of what the pairs of H say. -/
def Sup (s : List UInt8) (H : TN → Nat → Prop) (f : Nat → Int) : Prop := ∀ i n, f i ≤ n ↔ 0 ≤ n ∧ ∀ x a, H x a → hit x s a i ≤ n
theorem Sup.zero (s : List UInt8) : Sup s (fun _ _ => False) (fun _ => 0) := fun _ _ => ⟨fun h => ⟨h, fun _ _ k => k.elim⟩, fun h => h.1⟩
theorem Sup.uniq {s : List UInt8} {H K : TN → Nat → Prop} {f g : Nat → Int} (h : Sup s H f) (k : Sup s K g) (e : ∀ x a, x.1 <+: s.drop a → (H x a ↔ K x a)) (i : Nat) : f i = g i := by
  refine eq_of_le fun n => ?_
  rw [h i n, k i n]
  constructor
  · rintro ⟨h0, h1⟩
    refine ⟨h0, fun x a hx => ?_⟩
    by_cases hp : x.1 <+: s.drop a
    · exact h1 x a ((e x a hp).2 hx)
    · rw [hit_no hp]; exact h0
  · rintro ⟨h0, h1⟩
    refine ⟨h0, fun x a hx => ?_⟩
    by_cases hp : x.1 <+: s.drop a
    · exact h1 x a ((e x a hp).1 hx)
    · rw [hit_no hp]; exact h0
theorem Sup.nonneg {s : List UInt8} {H : TN → Nat → Prop} {f : Nat → Int} (h : Sup s H f) (i : Nat) : 0 ≤ f i := ((h i (f i)).1 (Int.le_refl _)).1
theorem Sup.adds {s : List UInt8} {H K : TN → Nat → Prop} {f g : Nat → Int} (h : Sup s H f) (e : ∀ i n, 0 ≤ n → (g i ≤ n ↔ f i ≤ n ∧ ∀ x a, K x a → hit x s a i ≤ n)) (hg : ∀ i, 0 ≤ g i) : Sup s (fun x a => H x a ∨ K x a) g := fun i n => by
  by_cases h0 : 0 ≤ n
  · rw [e i n h0, h i n]
    exact ⟨fun ⟨⟨_, h1⟩, h2⟩ => ⟨h0, fun x a hx => hx.elim (h1 x a) (h2 x a)⟩, fun ⟨_, h1⟩ => ⟨⟨h0, fun x a hx => h1 x a (.inl hx)⟩, fun x a hx => h1 x a (.inr hx)⟩⟩
  · have := hg i
    exact ⟨fun h1 => by omega, fun h1 => absurd h1.1 h0⟩
theorem Sup.add {s : List UInt8} {H : TN → Nat → Prop} {f g : Nat → Int} (h : Sup s H f) (x0 : TN) (a0 : Nat) (e : ∀ i, g i = max (f i) (hit x0 s a0 i)) : Sup s (fun x a => H x a ∨ (x = x0 ∧ a = a0)) g :=
  h.adds (fun i n _ => by
    rw [e i, Int.max_le]
    exact ⟨fun ⟨h1, h2⟩ => ⟨h1, fun x a ⟨hx, ha⟩ => by rw [hx, ha]; exact h2⟩, fun ⟨h1, h2⟩ => ⟨h1, h2 x0 a0 ⟨rfl, rfl⟩⟩⟩) (fun i => by rw [e i]; have := h.nonneg i; omega)
theorem Sup.iff {s : List UInt8} {H K : TN → Nat → Prop} {f : Nat → Int} (h : Sup s H f) (e : ∀ x a, x.1 <+: s.drop a → (H x a ↔ K x a)) : Sup s K f := fun i n => by
  rw [h i n]
  constructor
  · rintro ⟨h0, h1⟩
    refine ⟨h0, fun x a hx => ?_⟩
    by_cases hp : x.1 <+: s.drop a
    · exact h1 x a ((e x a hp).2 hx)
    · rw [hit_no hp]; exact h0
  · rintro ⟨h0, h1⟩
    refine ⟨h0, fun x a hx => ?_⟩
    by_cases hp : x.1 <+: s.drop a
    · exact h1 x a ((e x a hp).1 hx)
    · rw [hit_no hp]; exact h0

/-- A text's numbers. -/
def numF (p : List TN) (s : List UInt8) (i : Nat) : Int := supL (p.flatMap fun x => (List.range s.length).map fun a => hit x s a i)
theorem numF_sup (p : List TN) (s : List UInt8) : Sup s (fun x a => x ∈ p ∧ a < s.length) (numF p s) := fun i n => by
  unfold numF
  rw [supL_le]
  simp only [List.mem_flatMap, List.mem_map, List.mem_range]
  exact ⟨fun ⟨h0, h1⟩ => ⟨h0, fun x a ⟨hx, ha⟩ => h1 _ ⟨x, hx, a, ha, rfl⟩⟩, fun ⟨h0, h1⟩ => ⟨h0, fun v ⟨x, hx, a, ha, e⟩ => by rw [← e]; exact h1 x a ⟨hx, ha⟩⟩⟩
theorem numF_nonneg (p : List TN) (s : List UInt8) (i : Nat) : 0 ≤ numF p s i := (numF_sup p s).nonneg i
theorem hit_most {x : TN} (h : patB x = true) (s : List UInt8) (a i : Nat) : 0 ≤ hit x s a i ∧ hit x s a i ≤ 9 := by
  unfold hit
  split
  · have := (L10.pat_vals h).2
    by_cases hk : i - a < x.2.length
    · rw [List.getD, List.getElem?_eq_getElem hk]
      exact this _ (List.getElem_mem hk)
    · rw [List.getD, List.getElem?_eq_none (by omega)]
      simp
  · omega
theorem numF_most {p : List TN} (h : ∀ x ∈ p, patB x = true) (s : List UInt8) (i : Nat) : numF p s i ≤ 9 :=
  ((numF_sup p s) i 9).2 ⟨by omega, fun x a hx => (hit_most (h x hx.1) s a i).2⟩
/-- A word, and a . on either side. -/
def textL (w : List UInt8) : List UInt8 := 46 :: (w ++ [46])
theorem textL_length (w : List UInt8) : (textL w).length = w.length + 2 := by simp [textL]
/-- The numbers of a word's places. -/
def valsL (p : List TN) (w : List UInt8) : List Int := if plainB w = true then (List.range (w.length + 1)).map fun j => numF p (textL w) (j + 1) else []
theorem valsL_no {p : List TN} {w : List UInt8} (h : plainB w = false) : valsL p w = [] := if_neg (by simp [h])
theorem valsL_length {p : List TN} {w : List UInt8} (h : plainB w = true) : (valsL p w).length = w.length + 1 := by rw [valsL, if_pos h]; simp
theorem valsL_get {p : List TN} {w : List UInt8} (h : plainB w = true) {j : Nat} (hj : j < w.length + 1) : (valsL p w)[j]? = some (numF p (textL w) (j + 1)) := by
  rw [valsL, if_pos h, List.getElem?_map, List.getElem?_range hj]; rfl
theorem valsL_mem {p : List TN} (hp : ∀ x ∈ p, patB x = true) {w : List UInt8} {v : Int} (h : v ∈ valsL p w) : 0 ≤ v ∧ v ≤ 9 := by
  unfold valsL at h
  split at h
  · obtain ⟨j, _, rfl⟩ := List.mem_map.1 h
    exact ⟨numF_nonneg _ _ _, numF_most hp _ _⟩
  · simp at h
theorem plain_len {w : List UInt8} (h : plainB w = true) : 1 ≤ w.length ∧ w.length ≤ 40 := by
  simp only [plainB, Bool.and_eq_true, decide_eq_true_eq] at h
  exact h.1
/-- The same patterns, in whatever order, how often soever. -/
theorem numF_congr {p q : List TN} (h : ∀ x, x ∈ p ↔ x ∈ q) (s : List UInt8) (i : Nat) : numF p s i = numF q s i :=
  (numF_sup p s).uniq (numF_sup q s) (fun x a _ => by rw [h x]) i
theorem numF_append (p q : List TN) (s : List UInt8) (i : Nat) : numF (p ++ q) s i = max (numF p s i) (numF q s i) := by
  refine eq_of_le fun n => ?_
  rw [Int.max_le, numF_sup, numF_sup, numF_sup]
  simp only [List.mem_append]
  exact ⟨fun ⟨h0, h1⟩ => ⟨⟨h0, fun x a hx => h1 x a ⟨.inl hx.1, hx.2⟩⟩, h0, fun x a hx => h1 x a ⟨.inr hx.1, hx.2⟩⟩,
    fun ⟨⟨h0, h1⟩, _, h2⟩ => ⟨h0, fun x a hx => hx.1.elim (fun k => h1 x a ⟨k, hx.2⟩) (fun k => h2 x a ⟨k, hx.2⟩)⟩⟩
theorem valsL_congr {p q : List TN} (h : ∀ x, x ∈ p ↔ x ∈ q) (w : List UInt8) : valsL p w = valsL q w := by
  unfold valsL
  split
  · exact List.map_congr_left fun j _ => numF_congr h _ _
  · rfl

/-! ### The values of a node -/
/-- The greatest of the k-th values of the patterns whose letters are q. -/
def valF (p : List TN) (q : List UInt8) (k : Nat) : Int := supL ((p.filter fun x => decide (x.1 = q)).map fun x => x.2.getD k 0)
theorem valF_le {p : List TN} {q : List UInt8} {k : Nat} {n : Int} : valF p q k ≤ n ↔ 0 ≤ n ∧ ∀ x ∈ p, x.1 = q → x.2.getD k 0 ≤ n := by
  unfold valF
  rw [supL_le]
  simp only [List.mem_map, List.mem_filter, decide_eq_true_eq]
  exact ⟨fun ⟨h0, h1⟩ => ⟨h0, fun x hx e => h1 _ ⟨x, ⟨hx, e⟩, rfl⟩⟩, fun ⟨h0, h1⟩ => ⟨h0, fun v ⟨x, ⟨hx, e⟩, h⟩ => by rw [← h]; exact h1 x hx e⟩⟩
theorem valF_nonneg (p : List TN) (q : List UInt8) (k : Nat) : 0 ≤ valF p q k := (valF_le.1 (Int.le_refl _)).1
theorem getD_val {x : TN} (h : patB x = true) (k : Nat) : 0 ≤ x.2.getD k 0 ∧ x.2.getD k 0 ≤ 9 := by
  have := (L10.pat_vals h).2
  by_cases hk : k < x.2.length
  · rw [List.getD, List.getElem?_eq_getElem hk]
    exact this _ (List.getElem_mem hk)
  · rw [List.getD, List.getElem?_eq_none (by omega)]
    simp
theorem valF_most {p : List TN} (h : ∀ x ∈ p, patB x = true) (q : List UInt8) (k : Nat) : valF p q k ≤ 9 := valF_le.2 ⟨by omega, fun x hx _ => (getD_val (h x hx) k).2⟩
theorem valF_none {p : List TN} {q : List UInt8} (h : ∀ x ∈ p, x.1 ≠ q) (k : Nat) : valF p q k = 0 :=
  eq_of_le fun n => by
    rw [valF_le]
    exact ⟨fun h => h.1, fun h0 => ⟨h0, fun x hx e => absurd e (h x hx)⟩⟩
theorem valF_same (p : List TN) (x : TN) (k : Nat) : valF (p ++ [x]) x.1 k = max (valF p x.1 k) (x.2.getD k 0) :=
  eq_of_le fun n => by
    rw [Int.max_le, valF_le, valF_le]
    simp only [List.mem_append, List.mem_singleton]
    exact ⟨fun ⟨h0, h1⟩ => ⟨⟨h0, fun y hy e => h1 y (.inl hy) e⟩, h1 x (.inr rfl) rfl⟩, fun ⟨⟨h0, h1⟩, h2⟩ => ⟨h0, fun y hy e => hy.elim (fun k => h1 y k e) (fun k => by rw [k]; exact h2)⟩⟩
theorem valF_other (p : List TN) (x : TN) {q : List UInt8} (hq : x.1 ≠ q) (k : Nat) : valF (p ++ [x]) q k = valF p q k :=
  eq_of_le fun n => by
    rw [valF_le, valF_le]
    simp only [List.mem_append, List.mem_singleton]
    exact ⟨fun ⟨h0, h1⟩ => ⟨h0, fun y hy e => h1 y (.inl hy) e⟩, fun ⟨h0, h1⟩ => ⟨h0, fun y hy e => hy.elim (fun k => h1 y k e) (fun k => absurd (k ▸ e) hq)⟩⟩
/-- A node's values go into a text's numbers. -/
theorem Sup.lift {s : List UInt8} {H : TN → Nat → Prop} {f g : Nat → Int} (h : Sup s H f) (p : List TN) (a n : Nat)
    (e : ∀ i, g i = if a ≤ i then max (f i) (valF p ((s.drop a).take n) (i - a)) else f i) : Sup s (fun x b => H x b ∨ (x ∈ p ∧ x.1 = (s.drop a).take n ∧ b = a)) g := by
  refine h.adds (fun i m h0 => ?_) (fun i => ?_)
  · rw [e i]
    by_cases hi : a ≤ i
    · rw [if_pos hi, Int.max_le, valF_le]
      refine ⟨fun ⟨h1, _, h2⟩ => ⟨h1, fun x b ⟨hx, hq, hb⟩ => ?_⟩, fun ⟨h1, h2⟩ => ⟨h1, h0, fun x hx hq => ?_⟩⟩
      · rw [hb, hit, if_pos ⟨hi, by rw [hq]; exact List.take_prefix _ _⟩]
        exact h2 x hx hq
      · have := h2 x a ⟨hx, hq, rfl⟩
        rw [hit, if_pos ⟨hi, by rw [hq]; exact List.take_prefix _ _⟩] at this
        exact this
    · rw [if_neg hi]
      refine ⟨fun h1 => ⟨h1, fun x b ⟨hx, hq, hb⟩ => ?_⟩, fun h1 => h1.1⟩
      rw [hb, hit, if_neg (fun k => hi k.1)]
      exact h0
  · rw [e i]
    have := h.nonneg i
    split
    · omega
    · exact this

/-! ### Beginnings -/
def addQ (s : List (List UInt8)) (q : List UInt8) : List (List UInt8) := if q ∈ s then s else s ++ [q]
/-- The beginnings of l of at most so many bytes, put to others. -/
def addTo (s : List (List UInt8)) (l : List UInt8) : Nat → List (List UInt8)
  | 0 => s
  | n + 1 => addQ (addTo s l n) (l.take (n + 1))
def nodesL (p : List TN) : List (List UInt8) := p.foldl (fun s x => addTo s x.1 x.1.length) [[]]
theorem nodesL_snoc (p : List TN) (x : TN) : nodesL (p ++ [x]) = addTo (nodesL p) x.1 x.1.length := by simp [nodesL]
theorem mem_addQ {s : List (List UInt8)} {q r : List UInt8} : r ∈ addQ s q ↔ r ∈ s ∨ r = q := by
  unfold addQ
  split
  · rename_i h
    exact ⟨.inl, fun k => k.elim id (fun e => by rw [e]; exact h)⟩
  · simp
theorem mem_addTo {s : List (List UInt8)} {l r : List UInt8} : ∀ {n : Nat}, r ∈ addTo s l n ↔ r ∈ s ∨ ∃ k, 1 ≤ k ∧ k ≤ n ∧ r = l.take k
  | 0 => ⟨.inl, fun h => h.elim id (fun ⟨k, h1, h2, _⟩ => by omega)⟩
  | n + 1 => by
    rw [addTo, mem_addQ, mem_addTo (n := n)]
    constructor
    · rintro ((h | ⟨k, h1, h2, h3⟩) | h)
      · exact .inl h
      · exact .inr ⟨k, h1, by omega, h3⟩
      · exact .inr ⟨n + 1, by omega, Nat.le_refl _, h⟩
    · rintro (h | ⟨k, h1, h2, h3⟩)
      · exact .inl (.inl h)
      · by_cases e : k = n + 1
        · exact .inr (by rw [h3, e])
        · exact .inl (.inr ⟨k, h1, by omega, h3⟩)
theorem mem_nodes {r : List UInt8} : ∀ {p : List TN}, r ∈ nodesL p ↔ r = [] ∨ ∃ x ∈ p, r <+: x.1 := by
  have key : ∀ (p : List TN) (s : List (List UInt8)), [] ∈ s → (r ∈ p.foldl (fun s x => addTo s x.1 x.1.length) s ↔ r ∈ s ∨ ∃ x ∈ p, r <+: x.1) := by
    intro p
    induction p with
    | nil => intro s _; simp
    | cons x p ih =>
      intro s hs
      rw [List.foldl_cons, ih _ (mem_addTo.2 (.inl hs)), mem_addTo]
      constructor
      · rintro ((h | ⟨k, _, h2, h3⟩) | ⟨y, hy, h⟩)
        · exact .inl h
        · exact .inr ⟨x, by simp, by rw [h3]; exact List.take_prefix _ _⟩
        · exact .inr ⟨y, by simp [hy], h⟩
      · rintro (h | ⟨y, hy, h⟩)
        · exact .inl (.inl h)
        · rcases List.mem_cons.1 hy with rfl | hy
          · refine .inl ?_
            have e := List.prefix_iff_eq_take.1 h
            by_cases h0 : r.length = 0
            · rw [List.length_eq_zero_iff.1 h0]; exact .inl hs
            · exact .inr ⟨r.length, by omega, h.length_le, e⟩
          · exact .inr ⟨y, hy, h⟩
  intro p
  have := key p [[]] (by simp)
  rw [nodesL, this]
  simp

/-- Nodes: nothing first, none twice, with each one what it begins with. -/
structure Nds (ns : List (List UInt8)) : Prop where
  head : ns[0]? = some []
  nodup : ns.Nodup
  closed : ∀ q b, q ++ [b] ∈ ns → q ∈ ns
theorem nds_one : Nds [[]] := ⟨rfl, by simp, fun q b h => by simp at h⟩
theorem Nds.nil {ns : List (List UInt8)} (h : Nds ns) : [] ∈ ns := List.mem_of_getElem? h.head
theorem Nds.pos {ns : List (List UInt8)} (h : Nds ns) : 0 < ns.length := (List.getElem?_eq_some_iff.1 h.head).1
theorem Nds.add {ns : List (List UInt8)} (h : Nds ns) {q : List UInt8} (hq : q ∈ ns) (b : UInt8) : Nds (addQ ns (q ++ [b])) := by
  unfold addQ
  split
  · exact h
  · rename_i hn
    refine ⟨by rw [List.getElem?_append_left h.pos]; exact h.head, ?_, fun r c hr => ?_⟩
    · rw [List.nodup_append]
      exact ⟨h.nodup, by simp, fun a ha b' hb e => hn (by simp at hb; rw [← hb, ← e]; exact ha)⟩
    · rcases List.mem_append.1 hr with hr | hr
      · exact List.mem_append.2 (.inl (h.closed r c hr))
      · have e := List.mem_singleton.1 hr
        have := List.append_inj_left' e rfl
        rw [this]
        exact List.mem_append.2 (.inl hq)
theorem take_snoc' {l : List UInt8} {n : Nat} (h : n < l.length) : l.take (n + 1) = l.take n ++ [l[n]] := by rw [List.take_succ_eq_append_getElem h]
theorem Nds.addTo {ns : List (List UInt8)} (h : Nds ns) (l : List UInt8) : ∀ n, n ≤ l.length → Nds (addTo ns l n)
  | 0, _ => h
  | n + 1, hn => by
    have ih := Nds.addTo h l n (by omega)
    rw [L11.addTo, take_snoc' (by omega)]
    refine ih.add ?_ _
    by_cases h0 : n = 0
    · subst h0; exact h.nil
    · exact mem_addTo.2 (.inr ⟨n, by omega, Nat.le_refl _, rfl⟩)
theorem nds_nodes (p : List TN) : Nds (nodesL p) := by
  have key : ∀ (p : List TN) (s : List (List UInt8)), Nds s → Nds (p.foldl (fun s x => addTo s x.1 x.1.length) s) := by
    intro p
    induction p with
    | nil => exact fun _ h => h
    | cons x p ih => exact fun s h => ih _ (h.addTo x.1 _ (Nat.le_refl _))
  exact key p _ nds_one
theorem take_mem_addTo {ns : List (List UInt8)} (h : Nds ns) (l : List UInt8) (n : Nat) : l.take n ∈ addTo ns l n := by
  by_cases h0 : n = 0
  · subst h0; exact h.nil
  · exact mem_addTo.2 (.inr ⟨n, by omega, Nat.le_refl _, rfl⟩)

/-- How many there are. -/
theorem addQ_length (s : List (List UInt8)) (q : List UInt8) : s.length ≤ (addQ s q).length ∧ (addQ s q).length ≤ s.length + 1 := by
  unfold addQ; split <;> simp
theorem addTo_length (s : List (List UInt8)) (l : List UInt8) : ∀ n, s.length ≤ (addTo s l n).length ∧ (addTo s l n).length ≤ s.length + n
  | 0 => by simp [addTo]
  | n + 1 => by
    have h1 := addTo_length s l n
    have h2 := addQ_length (addTo s l n) (l.take (n + 1))
    rw [addTo]
    omega
def sumLen (p : List TN) : Nat := (p.map fun x => x.1.length).sum
theorem nodes_length (p : List TN) : 1 ≤ (nodesL p).length ∧ (nodesL p).length ≤ 1 + sumLen p := by
  have key : ∀ (p : List TN) (s : List (List UInt8)), s.length ≤ (p.foldl (fun s x => addTo s x.1 x.1.length) s).length ∧ (p.foldl (fun s x => addTo s x.1 x.1.length) s).length ≤ s.length + sumLen p := by
    intro p
    induction p with
    | nil => intro s; simp [sumLen]
    | cons x p ih =>
      intro s
      have h1 := ih (addTo s x.1 x.1.length)
      have h2 := addTo_length s x.1 x.1.length
      rw [List.foldl_cons]
      have e : sumLen (x :: p) = x.1.length + sumLen p := by simp [sumLen]
      omega
  have := key p [[]]
  simpa [nodesL] using this
theorem length_le_of_subset {α : Type} [DecidableEq α] : ∀ {l m : List α}, l.Nodup → (∀ x ∈ l, x ∈ m) → l.length ≤ m.length
  | [], _, _, _ => by simp
  | a :: l, m, h, hs => by
    rw [List.nodup_cons] at h
    have ha : a ∈ m := hs a (by simp)
    have := length_le_of_subset (m := m.erase a) h.2 (fun x hx => by
      have hne : x ≠ a := fun e => h.1 (by rw [← e]; exact hx)
      exact (List.mem_erase_of_ne hne).2 (hs x (by simp [hx])))
    rw [List.length_erase_of_mem ha] at this
    have hp : 0 < m.length := List.length_pos_of_mem ha
    simp only [List.length_cons]
    omega
theorem nodes_le {p q : List TN} (h : ∀ x ∈ p, x ∈ q) : (nodesL p).length ≤ (nodesL q).length :=
  length_le_of_subset (nds_nodes p).nodup fun r hr => by
    rw [mem_nodes] at hr ⊢
    exact hr.imp id fun ⟨x, hx, k⟩ => ⟨x, h x hx, k⟩
theorem nodes_congr {p q : List TN} (h : ∀ x, x ∈ p ↔ x ∈ q) : (nodesL p).length = (nodesL q).length :=
  Nat.le_antisymm (nodes_le fun x => (h x).1) (nodes_le fun x => (h x).2)
theorem nodes_append (p q : List TN) : (nodesL (p ++ q)).length < (nodesL p).length + (nodesL q).length := by
  have hq := nds_nodes q
  have hsub : (nodesL (p ++ q)).length ≤ (nodesL p ++ (nodesL q).tail).length := length_le_of_subset (nds_nodes _).nodup fun r hr => by
    rw [mem_nodes] at hr
    by_cases h0 : r = []
    · exact List.mem_append.2 (.inl (mem_nodes.2 (.inl h0)))
    · rcases hr with hr | ⟨x, hx, k⟩
      · exact absurd hr h0
      · rcases List.mem_append.1 hx with hx | hx
        · exact List.mem_append.2 (.inl (mem_nodes.2 (.inr ⟨x, hx, k⟩)))
        · refine List.mem_append.2 (.inr ?_)
          have hm : r ∈ nodesL q := mem_nodes.2 (.inr ⟨x, hx, k⟩)
          have he := hq.head
          cases hn : nodesL q with
          | nil => rw [hn] at hm; simp at hm
          | cons a t =>
            rw [hn] at hm he
            simp at he
            subst he
            rcases List.mem_cons.1 hm with hm | hm
            · exact absurd hm h0
            · exact hm
  have hp := hq.pos
  rw [List.length_append, List.length_tail] at hsub
  omega
/-- Of one pattern. -/
theorem nodes_one (x : TN) : (nodesL [x]).length = x.1.length + 1 := by
  have key : ∀ n, n ≤ x.1.length → (addTo [[]] x.1 n).length = n + 1 := by
    intro n
    induction n with
    | zero => intro _; rfl
    | succ n ih =>
      intro hn
      have h1 := ih (by omega)
      rw [addTo, addQ, if_neg, List.length_append, h1]
      · rfl
      · intro hm
        rcases mem_addTo.1 hm with h2 | ⟨k, h2, h3, h4⟩
        · have := congrArg List.length (List.mem_singleton.1 h2)
          rw [List.length_take, List.length_nil] at this
          omega
        · have := congrArg List.length h4
          rw [List.length_take, List.length_take] at this
          omega
  exact key _ (Nat.le_refl _)
theorem numF_one {w : List UInt8} {ns : List Int} (hn : ∀ v ∈ ns, 0 ≤ v) (i : Nat) : numF [(textL w, ns)] (textL w) i = ns.getD i 0 := by
  have hv : 0 ≤ ns.getD i 0 := by
    by_cases hk : i < ns.length
    · rw [List.getD, List.getElem?_eq_getElem hk]; exact hn _ (List.getElem_mem hk)
    · rw [List.getD, List.getElem?_eq_none (by omega)]; simp
  refine eq_of_le fun n => ?_
  rw [numF_sup]
  constructor
  · rintro ⟨h0, h1⟩
    have := h1 (textL w, ns) 0 ⟨by simp, by rw [textL_length]; omega⟩
    rw [hit, if_pos ⟨Nat.zero_le _, by simp⟩] at this
    exact this
  · intro h1
    refine ⟨by omega, fun x a ⟨hx, ha⟩ => ?_⟩
    rw [List.mem_singleton.1 hx]
    by_cases h0 : a = 0
    · subst h0
      rw [hit, if_pos ⟨Nat.zero_le _, by simp⟩]
      exact h1
    · rw [hit_no]
      · omega
      · intro h
        have := h.length_le
        have hl := textL_length w
        rw [List.length_drop] at this
        simp only at this
        omega
theorem numF_nil (s : List UInt8) (i : Nat) : numF [] s i = 0 := rfl
end L11
end Go.Proofs.YtmmgmcfhlhghoaaGreatDoor

namespace Go.Proofs.YtmmgmcfhlhghoaaGreatDoor
open Go.RowKit

/-- All blocks but one are as they were. -/
structure Kp (r : Option Nat) (w w' : World) : Prop where
  size : w.heap.size ≤ w'.heap.size
  same : ∀ b, b < w.heap.size → some b ≠ r → w'.heap[b]? = w.heap[b]?
theorem Kp.of_grown {r : Option Nat} {w w' : World} (h : w.grownBy w' r) : Kp r w w' := ⟨h.size, fun b hb hn => h.block b hb hn⟩
theorem Kp.of_ext {r : Option Nat} {w w' : World} (h : Ext w w') : Kp r w w' := ⟨h.size, fun b hb _ => h.block b hb⟩
theorem Kp.alloc {r : Option Nat} (w : World) (o : Obj) : Kp r w (w.alloc o) := Kp.of_ext ((Ext.refl w).alloc o)
theorem Kp.iter (w : World) (k : Nat) (s : ByteArray) (p : Nat) : Kp (some k) w (w.iterAt k s p) :=
  ⟨by rw [Lib.iterAt_size]; exact Nat.le_refl _, fun b _ hn => Lib.iterAt_other w k b s p (fun e => hn (by rw [e]))⟩
theorem Kp.set (w : World) (a : Addr) (u : Value) : Kp (some a.block) w (w.setCell a u) :=
  ⟨by simp [World.setCell], fun b _ hn => Below.heap_setCell w a u b (fun e => hn (by rw [e]))⟩
theorem Kp.sets : ∀ (vs : List Value) (b o : Nat) (w : World), Kp (some b) w (w.setCells b o vs)
  | [], _, _, w => ⟨Nat.le_refl _, fun _ _ _ => rfl⟩
  | v :: r, b, o, w => by
    have h1 := Kp.set w ⟨b, o, none⟩ v
    have h2 := Kp.sets r b (o + 1) (w.setCell ⟨b, o, none⟩ v)
    exact ⟨Nat.le_trans h1.size h2.size, fun c hc hn => (h2.same c (Nat.lt_of_lt_of_le hc h1.size) hn).trans (h1.same c hc hn)⟩
theorem Kp.blk {r : Option Nat} {w w' : World} {b : Nat} {t : TypeId} {cs : List Value} (k : Kp r w w') (h : Blk w b t cs) (hne : some b ≠ r) : Blk w' b t cs := (k.same b h.lt hne).trans h
theorem Kp.it {r : Option Nat} {w w' : World} {b : Nat} {o : Obj} (k : Kp r w w') (h : w.heap[b]? = some o) (hne : some b ≠ r) : w'.heap[b]? = some o :=
  (k.same b (Array.getElem?_eq_some_iff.1 h).1 hne).trans h
theorem Kp.row {r : Option Nat} {w w' : World} {base : Nat} {e : TypeId} {size n : Nat} {v : Value} {xs : List Value} (k : Kp r w w') (h : w.ownsRow base e size v n xs) (hne : ∀ g, v.ownBlock = some g → some g ≠ r) : w'.ownsRow base e size v n xs := by
  refine ⟨h.1, ?_⟩
  rcases h.2 with hn | ⟨g, cap, cur, rfl, hb, hgg, rest⟩
  · exact .inl hn
  · exact .inr ⟨g, cap, cur, rfl, hb, k.it hgg (hne g rfl), rest⟩
theorem row_lt {w : World} {base : Nat} {e : TypeId} {size n : Nat} {v : Value} {xs : List Value} (h : w.ownsRow base e size v n xs) {g : Nat} (hg : v.ownBlock = some g) : base ≤ g ∧ g < w.heap.size := h.lt g hg
/-- Extension, where only a block of one's own turns. -/
theorem ext_iter {a w : World} (h : Ext a w) {k : Nat} (hk : a.heap.size ≤ k) (s : ByteArray) (p : Nat) : Ext a (w.iterAt k s p) := Lib.below_iterAt h hk s p
/-- A store into a row of one's own. -/
theorem row_set {w : World} {base : Nat} {e : TypeId} {n g cap : Nat} {xs : List Value} (h : w.ownsRow base e 1 (.slice (some ⟨g, 0, none⟩) n cap) n xs) (i : Nat) (u : Value) :
    (w.setCell ⟨g, i, none⟩ u).ownsRow base e 1 (.slice (some ⟨g, 0, none⟩) n cap) n (xs.set i u) := by
  obtain ⟨h1, h2⟩ := h
  refine ⟨by simpa using h1, ?_⟩
  rcases h2 with ⟨h0, _⟩ | ⟨g', cap', cur, hv, hb, hgg, hc, hm, hs, ht⟩
  · cases h0
  · simp only [Value.slice.injEq, Option.some.injEq, Addr.mk.injEq, true_and, and_true] at hv
    obtain ⟨rfl, rfl⟩ := hv
    refine .inr ⟨g, cap, cur.setIfInBounds i u, rfl, hb, ?_, hc, hm, by simpa using hs, ?_⟩
    · simp [World.setCell, Array.getElem?_modify, hgg]
    · rw [Array.toList_setIfInBounds, List.take_set, ht]
theorem row_cell {w : World} {base : Nat} {e : TypeId} {n g cap : Nat} {xs : List Value} (h : w.ownsRow base e 1 (.slice (some ⟨g, 0, none⟩) n cap) n xs) {i : Nat} (hi : i < n) :
    w.cell? ⟨g, i, none⟩ = xs[i]? ∧ w.frozen? ⟨g, i, none⟩ = false := by
  obtain ⟨h1, h2⟩ := h
  rcases h2 with ⟨h0, _⟩ | ⟨g', cap', cur, hv, hb, hgg, hc, hm, hs, ht⟩
  · cases h0
  · simp only [Value.slice.injEq, Option.some.injEq, Addr.mk.injEq, true_and, and_true] at hv
    obtain ⟨rfl, rfl⟩ := hv
    refine ⟨?_, by simp [World.frozen?, hgg]⟩
    rw [← ht, List.getElem?_take, if_pos (by omega)]
    simp [World.cell?, hgg]
end Go.Proofs.YtmmgmcfhlhghoaaGreatDoor

namespace Go.Proofs.YtmmgmcfhlhghoaaGreatDoor
open Go.RowKit
namespace L11

section
variable {P : Program} {K : TypeId} {R : Value → Option (DataW Unit × List MemPlace)}
/-- Block b is a map of at most n entries, and it is m. -/
def MapG (P : Program) (K : TypeId) (R : Value → Option (DataW Unit × List MemPlace)) (w : World) (b n : Nat) (m : Value → Option (DataW Unit)) : Prop :=
  ∃ D, w.ownsMap P K R b n D ∧ ∀ x l, keyOf P K x = some l → Maps.has D l = (m x).isSome ∧ ∀ d, m x = some d → ∀ z, D.atKey l z = d
theorem MapG.lt {w : World} {b n : Nat} {m : Value → Option (DataW Unit)} (h : MapG P K R w b n m) : b < w.heap.size := by
  obtain ⟨D, h, _⟩ := h
  exact h.lt
theorem MapG.block {w w' : World} {b n : Nat} {m : Value → Option (DataW Unit)} (h : MapG P K R w b n m) (e : w'.heap[b]? = w.heap[b]?) : MapG P K R w' b n m := by
  obtain ⟨D, ⟨es, c, hb, r⟩, q⟩ := h
  exact ⟨D, ⟨es, c, e.trans hb, r⟩, q⟩
theorem MapG.congr {w : World} {b n : Nat} {m m' : Value → Option (DataW Unit)} (h : MapG P K R w b n m) (e : ∀ x l, keyOf P K x = some l → m' x = m x) : MapG P K R w b n m' := by
  obtain ⟨D, h, q⟩ := h
  exact ⟨D, h, fun x l hx => by rw [e x l hx]; exact q x l hx⟩
theorem MapG.mono {w : World} {b n n' : Nat} {m : Value → Option (DataW Unit)} (h : MapG P K R w b n m) (hn : n ≤ n') : MapG P K R w b n' m := by
  obtain ⟨D, h, q⟩ := h
  exact ⟨D, h.mono hn, q⟩
theorem MapG.made (w : World) : MapG P K R (w.alloc (.map #[] 0)) w.heap.size 0 (fun _ => none) :=
  ⟨.map [], World.ownsMap_made _ _ _ _, fun x l _ => ⟨rfl, fun p h => by cases h⟩⟩
theorem MapG.not_block {w : World} {b n k : Nat} {m : Value → Option (DataW Unit)} (h : MapG P K R w b n m) {cs : Array Value} {t : TypeId} {f : Nat × Nat} (hc : w.heap[k]? = some (.cells cs t f)) : k ≠ b := by
  obtain ⟨D, ⟨es, c, hb, _⟩, _⟩ := h
  rintro rfl
  rw [hb] at hc
  cases hc
/-- What is looked up, and whether it is there. -/
theorem MapG.look {w : World} {b n : Nat} {m : Value → Option (DataW Unit)} (h : MapG P K R w b n m) (law : Maps.Keyed P K) {t e : TypeId} (ht : P.underlying t = some (.map K e)) {z : Value} (hz : (zeroValue e).run P w = .ok z w) {zd : DataW Unit} {zp : List MemPlace}
    (hzd : R z = some (zd, zp)) {x : Value} {l : Lit} (hx : keyOf P K x = some l) : ∃ v ps, (Instr.lookup t (.map (some b)) x true).run P w = .ok (.tuple #[v, .bool (m x).isSome]) w ∧ R v = some ((m x).getD zd, ps) := by
  obtain ⟨D, ho, q⟩ := h
  obtain ⟨q1, q2⟩ := q x l hx
  obtain ⟨v, ps, hr, hv⟩ := ho.look_ok law ht hz hzd hx
  refine ⟨v, ps, by rw [hr, q1], ?_⟩
  rw [hv]
  cases hm : m x with
  | none =>
    rw [hm] at q1
    rw [Maps.atKey_of_not_has q1]
    rfl
  | some p => rw [q2 p hm]; rfl
theorem MapG.look1 {w : World} {b n : Nat} {m : Value → Option (DataW Unit)} (h : MapG P K R w b n m) (law : Maps.Keyed P K) {t e : TypeId} (ht : P.underlying t = some (.map K e)) {z : Value} (hz : (zeroValue e).run P w = .ok z w) {zd : DataW Unit} {zp : List MemPlace}
    (hzd : R z = some (zd, zp)) {x : Value} {l : Lit} (hx : keyOf P K x = some l) : ∃ v ps, (Instr.lookup t (.map (some b)) x false).run P w = .ok v w ∧ R v = some ((m x).getD zd, ps) := by
  obtain ⟨D, ho, q⟩ := h
  obtain ⟨q1, q2⟩ := q x l hx
  obtain ⟨v, ps, hr, hv⟩ := ho.lookup law ht hz hzd hx
  refine ⟨v, ps, hr, ?_⟩
  rw [hv]
  cases hm : m x with
  | none =>
    rw [hm] at q1
    rw [Maps.atKey_of_not_has q1]
    rfl
  | some p => rw [q2 p hm]; rfl
open Classical in
/-- What is stored. -/
theorem MapG.store {w : World} {b n : Nat} {m : Value → Option (DataW Unit)} (h : MapG P K R w b n m) (law : Maps.Keyed P K) {t e : TypeId} (ht : P.underlying t = some (.map K e)) (hn : n < maxLen) {x : Value} {l : Lit} (hx : keyOf P K x = some l)
    {v : Value} {d : DataW Unit} {ps : List MemPlace} (hv : R v = some (d, ps)) :
    ∃ w', (Instr.mapUpdate t (.map (some b)) x v).run P w = .ok () w' ∧ MapG P K R w' b (n + 1) (fun y => if y = x then some d else m y) ∧ w.grownBy w' (some b) := by
  obtain ⟨D, ho, q⟩ := h
  have hD : Maps.IsMap D := ho.isMap
  obtain ⟨w', hr, ho', hg⟩ := ho.update law ht hn hx hv
  have hk : WideAt.IsKeyLit l := law.key hx
  refine ⟨w', hr, ⟨_, ho', fun y ly hy => ?_⟩, hg⟩
  by_cases e : y = x
  · subst e
    rw [hy] at hx
    cases hx
    simp only [if_true]
    exact ⟨Maps.has_put_same hD hk _, fun p' e' z => by cases e'; exact Maps.atKey_put_same hD hk _ _⟩
  · simp only [if_neg e]
    have hne : ly ≠ l := fun h => e (law.inj hy (by rw [h]; exact hx))
    rw [Maps.has_put_other hne]
    exact ⟨(q y ly hy).1, fun p' e' z => by rw [Maps.atKey_put_other hne]; exact (q y ly hy).2 p' e' z⟩
end
end L11
end Go.Proofs.YtmmgmcfhlhghoaaGreatDoor

namespace Go.Proofs.YtmmgmcfhlhghoaaGreatDoor
open Go.RowKit

/-- All blocks that are not in S are as they were; so are the streams. -/
structure But (S : Nat → Prop) (w w' : World) : Prop where
  os : w'.os = w.os
  tape : w'.tape = w.tape
  output : w'.output = w.output
  size : w.heap.size ≤ w'.heap.size
  block : ∀ k, k < w.heap.size → ¬ S k → w'.heap[k]? = w.heap[k]?
theorem But.refl (S : Nat → Prop) (w : World) : But S w w := ⟨rfl, rfl, rfl, Nat.le_refl _, fun _ _ _ => rfl⟩
theorem But.of_ext {S : Nat → Prop} {w w' : World} (h : Ext w w') : But S w w' := ⟨h.os, h.tape, h.output, h.size, fun k hk _ => h.block k hk⟩
theorem But.trans {S T : Nat → Prop} {a b c : World} (h : But S a b) (k : But T b c) (hT : ∀ i, T i → S i ∨ a.heap.size ≤ i) : But S a c :=
  ⟨k.os.trans h.os, k.tape.trans h.tape, k.output.trans h.output, Nat.le_trans h.size k.size, fun i hi hs => (k.block i (Nat.lt_of_lt_of_le hi h.size) (fun t => (hT i t).elim hs (fun g => by omega))).trans (h.block i hi hs)⟩
theorem But.mono {S T : Nat → Prop} {a b : World} (h : But S a b) (hT : ∀ i, i < a.heap.size → S i → T i) : But T a b := ⟨h.os, h.tape, h.output, h.size, fun k hk ht => h.block k hk (fun s => ht (hT k hk s))⟩
theorem But.of_grown {S : Nat → Prop} {w w' : World} {r : Option Nat} (h : w.grownBy w' r) (hS : ∀ g, r = some g → S g) : But S w w' :=
  ⟨h.os, h.tape, h.output, h.size, fun k hk hs => h.block k hk (fun e => hs (hS k e.symm))⟩
theorem But.set {S : Nat → Prop} (w : World) (p : Addr) (u : Value) (hS : S p.block) : But S w (w.setCell p u) :=
  ⟨rfl, rfl, rfl, by simp [World.setCell], fun k _ hs => Below.heap_setCell w p u k (fun e => hs (by rw [e]; exact hS))⟩
theorem But.drew {S : Nat → Prop} {a w : World} (h : But S a w) : But S a w.drew := ⟨h.os, h.tape, h.output, h.size, h.block⟩
theorem But.alloc {S : Nat → Prop} (w : World) (o : Obj) : But S w (w.alloc o) := But.of_ext ((Ext.refl w).alloc o)
/-- What lies elsewhere is as it was. -/
theorem But.ext {S : Nat → Prop} {W w w' : World} (h : But S w w') (x : Ext W w) (hS : ∀ k, S k → W.heap.size ≤ k) : Ext W w' :=
  Below.trans x ⟨h.os, h.tape, h.output, h.size, fun k hk => h.block k (Nat.lt_of_lt_of_le hk x.size) (fun s => by have := hS k s; omega)⟩
theorem But.ext_all {S : Nat → Prop} {w w' : World} (h : But S w w') (hS : ∀ k, S k → w.heap.size ≤ k) : Ext w w' := h.ext (Ext.refl w) hS
theorem But.blk {S : Nat → Prop} {w w' : World} {b : Nat} {t : TypeId} {cs : List Value} (k : But S w w') (h : Blk w b t cs) (hne : ¬ S b) : Blk w' b t cs := (k.block b h.lt hne).trans h
theorem But.at {S : Nat → Prop} {w w' : World} (h : But S w w') {p : Addr} {v : Value} (hc : w.cell? p = some v) (hp : ¬ S p.block) : w'.cell? p = some v := by
  rw [World.cell?_of_block (h.block p.block (World.block_lt_of_cell? w _ hc) hp)]; exact hc
theorem But.fz {S : Nat → Prop} {w w' : World} (h : But S w w') {p : Addr} {v : Value} (hc : w.cell? p = some v) (hf : w.frozen? p = false) (hp : ¬ S p.block) : w'.frozen? p = false := by
  rw [World.frozen?_of_block (h.block p.block (World.block_lt_of_cell? w _ hc) hp)]; exact hf
/-- Only one block. -/
abbrev Only (b : Nat) : Nat → Prop := fun k => k = b
theorem blk_not {w : World} {b c : Nat} {t u : TypeId} {cs ds : List Value} (h : Blk w b t cs) (k : Blk w c u ds) (ht : t ≠ u) : b ≠ c := by
  rintro rfl
  unfold Blk at h k
  rw [h] at k
  simp only [Option.some.injEq, Obj.cells.injEq] at k
  exact ht k.2.1
end Go.Proofs.YtmmgmcfhlhghoaaGreatDoor

namespace Go.Proofs.YtmmgmcfhlhghoaaGreatDoor
open Go.RowKit
namespace L11
open L10 (TN plainB patB)

/-! ### Numbers of nodes -/
def num (ns : List (List UInt8)) (q : List UInt8) : Int := ((ns.idxOf q + 1 : Nat) : Int)
/-- The node that a step leads to. -/
def stepN (ns : List (List UInt8)) (a : Int) (b : UInt8) : Option Int :=
  if 1 ≤ a then (match ns[(a - 1).toNat]? with
    | some q => if q ++ [b] ∈ ns then some (num ns (q ++ [b])) else none
    | none => none) else none
theorem num_pos (ns : List (List UInt8)) (q : List UInt8) : 1 ≤ num ns q := by unfold num; omega
theorem num_le {ns : List (List UInt8)} {q : List UInt8} (h : q ∈ ns) : num ns q ≤ ns.length := by
  have := List.idxOf_lt_length_of_mem h
  unfold num; omega
theorem num_nil {ns : List (List UInt8)} (h : Nds ns) : num ns [] = 1 := by
  have h0 := h.head
  cases ns with
  | nil => simp at h0
  | cons a r =>
    simp at h0
    subst h0
    simp [num, List.idxOf_cons_self]
theorem get_num {ns : List (List UInt8)} {q : List UInt8} (h : q ∈ ns) : ns[(num ns q - 1).toNat]? = some q := by
  have hl := List.idxOf_lt_length_of_mem h
  have e : (num ns q - 1).toNat = ns.idxOf q := by unfold num; omega
  rw [e, List.getElem?_eq_getElem hl, List.getElem_idxOf]
theorem num_inj {ns : List (List UInt8)} {q r : List UInt8} (hq : q ∈ ns) (hr : r ∈ ns) (h : num ns q = num ns r) : q = r := by
  have h1 := get_num hq
  rw [h, get_num hr] at h1
  exact (Option.some.inj h1).symm
theorem num_append {ns : List (List UInt8)} {q : List UInt8} (h : q ∈ ns) (m : List (List UInt8)) : num (ns ++ m) q = num ns q := by
  unfold num
  rw [List.idxOf_append, if_pos h]
theorem num_new {ns : List (List UInt8)} {q : List UInt8} (h : q ∉ ns) : num (ns ++ [q]) q = (ns.length : Int) + 1 := by
  unfold num
  rw [List.idxOf_append, if_neg h, List.idxOf_cons_self]
  omega
theorem stepN_num {ns : List (List UInt8)} {q : List UInt8} (h : q ∈ ns) (b : UInt8) : stepN ns (num ns q) b = if q ++ [b] ∈ ns then some (num ns (q ++ [b])) else none := by
  unfold stepN
  rw [if_pos (num_pos ns q), get_num h]
theorem stepN_add {ns : List (List UInt8)} (h : Nds ns) {q : List UInt8} {b : UInt8} (hq : q ∈ ns) (hn : q ++ [b] ∉ ns) (a : Int) (c : UInt8) :
    stepN (ns ++ [q ++ [b]]) a c = if a = num ns q ∧ c = b then some ((ns.length : Int) + 1) else stepN ns a c := by
  by_cases ha : 1 ≤ a
  · by_cases hk : (a - 1).toNat < ns.length
    · obtain ⟨r, hr⟩ : ∃ r, ns[(a - 1).toNat]? = some r := ⟨_, List.getElem?_eq_getElem hk⟩
      have hm : r ∈ ns := List.mem_of_getElem? hr
      have ea : a = num ns r := by
        have h1 := get_num hm
        have h2 : (num ns r - 1).toNat = (a - 1).toNat := by
          have hl := List.idxOf_lt_length_of_mem hm
          have e : (num ns r - 1).toNat = ns.idxOf r := by unfold num; omega
          rw [e]
          have e1 : ns[ns.idxOf r]? = ns[(a - 1).toNat]? := by rw [hr, ← h1, e]
          exact (List.getElem?_inj hl h.nodup).1 e1
        have := num_pos ns r
        omega
      subst ea
      have h1 : stepN (ns ++ [q ++ [b]]) (num ns r) c = if r ++ [c] ∈ ns ++ [q ++ [b]] then some (num (ns ++ [q ++ [b]]) (r ++ [c])) else none := by
        rw [← num_append hm [q ++ [b]]]
        exact stepN_num (List.mem_append.2 (.inl hm)) c
      rw [h1, stepN_num hm]
      by_cases e : r = q ∧ c = b
      · obtain ⟨rfl, rfl⟩ := e
        rw [if_pos (by simp), if_pos ⟨rfl, rfl⟩, num_new hn]
      · have e2 : ¬ (num ns r = num ns q ∧ c = b) := fun ⟨h3, h4⟩ => e ⟨num_inj hm hq h3, h4⟩
        rw [if_neg e2]
        have e3 : (r ++ [c] ∈ ns ++ [q ++ [b]]) ↔ r ++ [c] ∈ ns := by
          rw [List.mem_append]
          refine ⟨fun k => k.elim id (fun k => ?_), .inl⟩
          have e4 := List.mem_singleton.1 k
          exact absurd ⟨List.append_inj_left' e4 rfl, by simpa using List.append_inj_right' e4 rfl⟩ e
        by_cases h5 : r ++ [c] ∈ ns
        · rw [if_pos (e3.2 h5), if_pos h5, num_append h5]
        · rw [if_neg (fun k => h5 (e3.1 k)), if_neg h5]
    · have e1 : ns[(a - 1).toNat]? = none := List.getElem?_eq_none (by omega)
      have e2 : stepN ns a c = none := by unfold stepN; rw [if_pos ha, e1]
      have e3 : ¬ (a = num ns q ∧ c = b) := fun k => by have := num_le hq; omega
      rw [e2, if_neg e3]
      unfold stepN
      rw [if_pos ha]
      by_cases hk2 : (a - 1).toNat = ns.length
      · rw [hk2, List.getElem?_append_right (Nat.le_refl _)]
        simp only [Nat.sub_self, List.getElem?_cons_zero]
        rw [if_neg]
        intro k
        rcases List.mem_append.1 k with k | k
        · exact hn (h.closed _ _ k)
        · have := congrArg List.length (List.mem_singleton.1 k)
          simp at this
      · rw [List.getElem?_eq_none (by simp; omega)]
  · have e3 : ¬ (a = num ns q ∧ c = b) := fun k => by have := num_pos ns q; omega
    rw [if_neg e3]
    unfold stepN
    rw [if_neg ha, if_neg ha]

/-! ### Keys -/
def keyS (a : Int) (b : UInt8) : Value := .agg #[.int .i64 a, .int .u8 (b.toNat : Int)]
theorem keyS_inj {a c : Int} {b d : UInt8} (h : keyS a b = keyS c d) : a = c ∧ b = d := by
  simp only [keyS, Value.agg.injEq] at h
  have h0 : (#[Value.int .i64 a, .int .u8 (b.toNat : Int)] : Array Value)[0]? = (#[Value.int .i64 c, .int .u8 (d.toNat : Int)] : Array Value)[0]? := by rw [h]
  have h1 : (#[Value.int .i64 a, .int .u8 (b.toNat : Int)] : Array Value)[1]? = (#[Value.int .i64 c, .int .u8 (d.toNat : Int)] : Array Value)[1]? := by rw [h]
  simp at h0 h1
  exact ⟨h0, UInt8.toNat.inj (by omega)⟩
theorem step_law : Maps.Keyed Tryz.prog 169 := Maps.Keyed.of_law (deep_law_laid laidOut (m := 2) (by omega) (of_decide_eq_true (by kernel_rfl)) (by kernel_rfl) (by kernel_rfl))
theorem node_law : Maps.Keyed Tryz.prog 166 := Maps.int_keyed Tryz.underlying166
theorem wf64 {x : Int} (h : -9223372036854775808 ≤ x ∧ x ≤ 9223372036854775807) : (Lit.int .i64 x).wf = true := by
  simp only [Lit.wf, IntKind.min, IntKind.max, IntKind.signed, IntKind.bits, Bool.and_eq_true, decide_eq_true_eq, if_true]
  omega
theorem wf8 (b : UInt8) : (Lit.int .u8 (b.toNat : Int)).wf = true := by
  have := b.toNat_lt
  simp only [Lit.wf, IntKind.min, IntKind.max, IntKind.signed, IntKind.bits, Bool.and_eq_true]
  simp
  omega
theorem size_two : ∃ n, Tryz.prog.types.size + 1 = n + 2 := ⟨Tryz.prog.types.size - 1, by
    have : 1 ≤ Tryz.prog.types.size := by decide +kernel
    omega⟩
theorem keyS_lit (a : Int) (b : UInt8) (h : -9223372036854775808 ≤ a ∧ a ≤ 9223372036854775807) : ∃ l, keyOf Tryz.prog 169 (keyS a b) = some l := by
  obtain ⟨n, hn⟩ := size_two
  have h1 := wf64 h
  have h2 := wf8 b
  have hc : Tryz.prog.cellsOf 169 = 2 := by kernel_rfl
  have hc0 : Tryz.prog.cellsOf 166 = 1 := by kernel_rfl
  have hc1 : Tryz.prog.cellsOf 5 = 1 := by kernel_rfl
  have hk : Tryz.prog.keyType 169 = true := by kernel_rfl
  unfold keyOf
  simp only [Tryz.underlying169, hk, Bool.true_and]
  have hf : (keyS a b).formed Tryz.prog 169 = true := by
    simp [keyS, Value.formed, Tryz.underlying169, hc]
  rw [if_pos hf, hn]
  simp [keyS, Value.cells, Program.keyLits, Tryz.underlying169, Tryz.underlying166, Tryz.underlying5, hc, hc0, hc1, h1, h2]
end L11
end Go.Proofs.YtmmgmcfhlhghoaaGreatDoor

namespace Go.Proofs.YtmmgmcfhlhghoaaGreatDoor
open Go.RowKit
namespace L11
open L10 (TN plainB patB)

theorem num_of_get {ns : List (List UInt8)} (N : Nds ns) {a : Int} {r : List UInt8} (ha : 1 ≤ a) (hr : ns[(a - 1).toNat]? = some r) : a = num ns r := by
  have hm : r ∈ ns := List.mem_of_getElem? hr
  have hl := List.idxOf_lt_length_of_mem hm
  have e : (num ns r - 1).toNat = ns.idxOf r := by unfold num; omega
  have h1 := get_num hm
  rw [e] at h1
  have h2 : ns.idxOf r = (a - 1).toNat := (List.getElem?_inj hl N.nodup).1 (h1.trans hr.symm)
  unfold num
  omega
/-! ### Steps -/
/-- The map of steps. -/
def StepsAt (w : World) (bs n : Nat) (ns : List (List UInt8)) : Prop :=
  ∃ m, MapG Tryz.prog 169 (plainElem Tryz.prog 166) w bs n m ∧ ∀ a b, m (keyS a b) = (stepN ns a b).map fun c => .lit (.int .i64 c)
theorem StepsAt.lt {w : World} {bs n : Nat} {ns : List (List UInt8)} (h : StepsAt w bs n ns) : bs < w.heap.size := by
  obtain ⟨m, hm, _⟩ := h
  exact hm.lt
theorem StepsAt.block {w w' : World} {bs n : Nat} {ns : List (List UInt8)} (h : StepsAt w bs n ns) (e : w'.heap[bs]? = w.heap[bs]?) : StepsAt w' bs n ns := by
  obtain ⟨m, hm, q⟩ := h
  exact ⟨m, hm.block e, q⟩
theorem StepsAt.not_block {w : World} {bs n k : Nat} {ns : List (List UInt8)} (h : StepsAt w bs n ns) {cs : List Value} {t : TypeId} (hc : Blk w k t cs) : k ≠ bs := by
  obtain ⟨m, hm, _⟩ := h
  exact hm.not_block hc
theorem StepsAt.made (w : World) : StepsAt (w.alloc (.map #[] 0)) w.heap.size 0 [[]] := by
  refine ⟨_, MapG.made w, fun a b => ?_⟩
  have e : stepN [[]] a b = none := by
    unfold stepN
    split
    · split
      · rename_i q hq
        rw [if_neg]
        have hm : q ∈ [([] : List UInt8)] := List.mem_of_getElem? hq
        rw [List.mem_singleton.1 hm]
        simp
      · rfl
    · rfl
  rw [e]; rfl
theorem zero_node (w : World) : (zeroValue 166).run Tryz.prog w = .ok (.int .i64 0) w := by kernel_rfl
theorem plain_node (c : Int) (h : -9223372036854775808 ≤ c ∧ c ≤ 9223372036854775807) : plainElem (H := Unit) Tryz.prog 166 (.int .i64 c) = some (.lit (.int .i64 c), []) := plainElem_int Tryz.underlying166 (wf64 h)
/-- What is looked up. -/
theorem StepsAt.look {w : World} {bs n : Nat} {ns : List (List UInt8)} (h : StepsAt w bs n ns) (a : Int) (b : UInt8) (ha : -9223372036854775808 ≤ a ∧ a ≤ 9223372036854775807) :
    (Instr.lookup 74 (.map (some bs)) (.agg #[.int .i64 a, .int .u8 (b.toNat : Int)]) true).run Tryz.prog w = .ok (.tuple #[.int .i64 ((stepN ns a b).getD 0), .bool (stepN ns a b).isSome]) w := by
  obtain ⟨m, hm, q⟩ := h
  obtain ⟨l, hl⟩ := keyS_lit a b ha
  obtain ⟨v, ps, hr, hv⟩ := hm.look step_law Tryz.underlying74 (zero_node w) (plain_node 0 (by omega)) hl
  have e : (.agg #[.int .i64 a, .int .u8 (b.toNat : Int)] : Value) = keyS a b := rfl
  rw [e, hr, q]
  rw [q] at hv
  obtain ⟨c, rfl, hc, _⟩ := plainElem_int_inv Tryz.underlying166 hv
  simp only [Prod.mk.injEq] at hc
  cases hs : stepN ns a b with
  | none =>
    rw [hs] at hc
    obtain rfl : c = 0 := by have := hc.1; simp at this; exact this.symm
    rfl
  | some d =>
    rw [hs] at hc
    obtain rfl : c = d := by have := hc.1; simp at this; exact this.symm
    rfl
/-- What is stored: a node more. -/
theorem StepsAt.store {w : World} {bs n : Nat} {ns : List (List UInt8)} (h : StepsAt w bs n ns) (N : Nds ns) {q : List UInt8} {b : UInt8} (hq : q ∈ ns) (hn : q ++ [b] ∉ ns) (hl : n < 1000000) (hns : ns.length < 1000000) :
    ∃ w', (Instr.mapUpdate 74 (.map (some bs)) (.agg #[.int .i64 (num ns q), .int .u8 (b.toNat : Int)]) (.int .i64 ((ns.length : Int) + 1))).run Tryz.prog w = .ok () w' ∧ StepsAt w' bs (n + 1) (ns ++ [q ++ [b]]) ∧ w.grownBy w' (some bs) := by
  obtain ⟨m, hm, hmq⟩ := h
  have h1 := num_pos ns q
  have h2 := num_le hq
  obtain ⟨l, hl'⟩ := keyS_lit (num ns q) b (by omega)
  obtain ⟨w', hr, hm', hg⟩ := hm.store step_law Tryz.underlying74 (by unfold maxLen; omega) hl' (plain_node ((ns.length : Int) + 1) (by omega))
  refine ⟨w', hr, ⟨_, hm', fun a c => ?_⟩, hg⟩
  rw [stepN_add N hq hn]
  by_cases e : keyS a c = keyS (num ns q) b
  · obtain ⟨rfl, rfl⟩ := keyS_inj e
    simp
  · simp only [if_neg e]
    rw [if_neg (fun k => e (by rw [k.1, k.2])), hmq]

/-! ### Values -/
/-- How an element reads: a row of one's own, or none. -/
def rowElem (v : Value) : Option (DataW Unit × List MemPlace) := match v with
  | .slice none 0 0 => some (.nil, [])
  | .slice (some ⟨g, 0, none⟩) n c => some (.agg [.lit (.int .i64 g), .lit (.int .i64 n), .lit (.int .i64 c)], [])
  | _ => none
def rowD (x : Nat × Nat) : DataW Unit := .agg [.lit (.int .i64 x.1), .lit (.int .i64 x.2), .lit (.int .i64 x.2)]
def rowV (x : Option (Nat × Nat)) : Value := match x with
  | some (g, n) => .slice (some ⟨g, 0, none⟩) n n
  | none => .slice none 0 0
theorem rowElem_nil : rowElem (.slice none 0 0) = some (.nil, []) := rfl
theorem rowElem_some (g n : Nat) : rowElem (.slice (some ⟨g, 0, none⟩) n n) = some (rowD (g, n), []) := rfl
theorem rowElem_inv {v : Value} {ps : List MemPlace} : ∀ {x : Option (Nat × Nat)}, rowElem v = some ((x.map rowD).getD .nil, ps) → v = rowV x := by
  intro x h
  unfold rowElem at h
  split at h
  · cases x with
    | none => rfl
    | some x => simp [rowD] at h
  · cases x with
    | none => simp at h
    | some x =>
      simp [rowD] at h
      obtain ⟨⟨h1, h2, h3⟩, _⟩ := h
      obtain ⟨g, n⟩ := x
      simp only at h1 h2 h3
      rw [rowV]
      congr <;> omega
  · cases h
/-- The row of a node, of which the patterns' letters are ks. -/
def valN (ns : List (List UInt8)) (ks : List (List UInt8)) (G : List UInt8 → Nat) (a : Int) : Option (Nat × Nat) :=
  if 1 ≤ a then (match ns[(a - 1).toNat]? with
    | some q => if q ∈ ks then some (G q, q.length + 1) else none
    | none => none) else none
theorem valN_num {ns ks : List (List UInt8)} {G : List UInt8 → Nat} {q : List UInt8} (h : q ∈ ns) : valN ns ks G (num ns q) = if q ∈ ks then some (G q, q.length + 1) else none := by
  unfold valN
  rw [if_pos (num_pos ns q), get_num h]
theorem valN_grow {ns ks : List (List UInt8)} {G : List UInt8 → Nat} {r : List UInt8} (h : r ∉ ks) (a : Int) : valN (ns ++ [r]) ks G a = valN ns ks G a := by
  unfold valN
  split
  · by_cases h1 : (a - 1).toNat < ns.length
    · rw [List.getElem?_append_left h1]
    · rw [List.getElem?_eq_none (l := ns) (by omega)]
      by_cases h2 : (a - 1).toNat = ns.length
      · rw [h2, List.getElem?_append_right (Nat.le_refl _)]
        simp only [Nat.sub_self, List.getElem?_cons_zero]
        rw [if_neg h]
      · rw [List.getElem?_eq_none (by simp; omega)]
  · rfl
/-- A node's row. -/
def rowL (p : List TN) (q : List UInt8) : List Value := (List.range (q.length + 1)).map fun k => .int .i64 (valF p q k)
def keysL (p : List TN) : List (List UInt8) := p.map (·.1)
/-- The map of values, and the rows. -/
structure RowsAt (w : World) (bv n : Nat) (ns : List (List UInt8)) (p : List TN) (G : List UInt8 → Nat) : Prop where
  map : ∃ m, MapG Tryz.prog 166 rowElem w bv n m ∧ ∀ a, m (.int .i64 a) = (valN ns (keysL p) G a).map rowD
  row : ∀ q, q ∈ keysL p → Blk w (G q) 3 (rowL p q)
  inj : ∀ q r, q ∈ keysL p → r ∈ keysL p → G q = G r → q = r
theorem RowsAt.lt {w : World} {bv n : Nat} {ns : List (List UInt8)} {p : List TN} {G : List UInt8 → Nat} (h : RowsAt w bv n ns p G) : bv < w.heap.size := by
  obtain ⟨⟨m, hm, _⟩, _⟩ := h
  exact hm.lt
theorem RowsAt.not_block {w : World} {bv n k : Nat} {ns : List (List UInt8)} {p : List TN} {G : List UInt8 → Nat} (h : RowsAt w bv n ns p G) {cs : List Value} {t : TypeId} (hc : Blk w k t cs) : k ≠ bv := by
  obtain ⟨⟨m, hm, _⟩, _⟩ := h
  exact hm.not_block hc
theorem RowsAt.keep {w w' : World} {bv n : Nat} {ns : List (List UInt8)} {p : List TN} {G : List UInt8 → Nat} (h : RowsAt w bv n ns p G) (e : w'.heap[bv]? = w.heap[bv]?) (er : ∀ q, q ∈ keysL p → w'.heap[G q]? = w.heap[G q]?) : RowsAt w' bv n ns p G := by
  obtain ⟨⟨m, hm, q⟩, hr, hi⟩ := h
  exact ⟨⟨m, hm.block e, q⟩, fun q hq => (er q hq).trans (hr q hq), hi⟩
theorem RowsAt.grow {w : World} {bv n : Nat} {ns : List (List UInt8)} {p : List TN} {G : List UInt8 → Nat} (h : RowsAt w bv n ns p G) {r : List UInt8} (hr : r ∉ keysL p) : RowsAt w bv n (ns ++ [r]) p G := by
  obtain ⟨⟨m, hm, q⟩, hrow, hi⟩ := h
  exact ⟨⟨m, hm, fun a => by rw [valN_grow hr]; exact q a⟩, hrow, hi⟩
theorem RowsAt.made (w : World) (G : List UInt8 → Nat) : RowsAt (w.alloc (.map #[] 0)) w.heap.size 0 [[]] [] G := by
  refine ⟨⟨_, MapG.made w, fun a => ?_⟩, fun q hq => by simp [keysL] at hq, fun q r hq => by simp [keysL] at hq⟩
  have e : valN [[]] (keysL []) G a = none := by
    unfold valN
    split
    · split
      · rw [if_neg (by simp [keysL])]
      · rfl
    · rfl
  rw [e]; rfl
theorem RowsAt.congr {w : World} {bv n : Nat} {ns : List (List UInt8)} {p p' : List TN} {G : List UInt8 → Nat} (h : RowsAt w bv n ns p G) (hk : ∀ q, q ∈ keysL p' ↔ q ∈ keysL p) (hv : ∀ q k, q ∈ keysL p → valF p' q k = valF p q k) : RowsAt w bv n ns p' G := by
  obtain ⟨⟨m, hm, hq⟩, hrow, hi⟩ := h
  refine ⟨⟨m, hm, fun a => ?_⟩, fun q h1 => ?_, fun q r h1 h2 => hi q r ((hk q).1 h1) ((hk r).1 h2)⟩
  · rw [hq]
    refine congrArg (Option.map rowD) ?_
    unfold valN
    split
    · split
      · rename_i q _
        by_cases h2 : q ∈ keysL p
        · rw [if_pos h2, if_pos ((hk q).2 h2)]
        · rw [if_neg h2, if_neg (fun k => h2 ((hk q).1 k))]
      · rfl
    · rfl
  · have h2 := (hk q).1 h1
    have := hrow q h2
    have e : rowL p' q = rowL p q := List.map_congr_left fun k _ => by rw [hv q k h2]
    rw [e]; exact this
theorem zero_ints (w : World) : (zeroValue 48).run Tryz.prog w = .ok (.slice none 0 0) w := by kernel_rfl
theorem node_key {a : Int} (h : -9223372036854775808 ≤ a ∧ a ≤ 9223372036854775807) : keyOf Tryz.prog 166 (.int .i64 a) = some (.int .i64 a) := Maps.keyOf_int_mk Tryz.underlying166 (wf64 h)
/-- What is looked up. -/
theorem RowsAt.look {w : World} {bv n : Nat} {ns : List (List UInt8)} {p : List TN} {G : List UInt8 → Nat} (h : RowsAt w bv n ns p G) (a : Int) (ha : -9223372036854775808 ≤ a ∧ a ≤ 9223372036854775807) :
    (Instr.lookup 75 (.map (some bv)) (.int .i64 a) false).run Tryz.prog w = .ok (rowV (valN ns (keysL p) G a)) w := by
  obtain ⟨⟨m, hm, q⟩, _, _⟩ := h
  obtain ⟨v, ps, hr, hv⟩ := hm.look1 node_law Tryz.underlying75 (zero_ints w) rowElem_nil (node_key ha)
  rw [hr]
  rw [q] at hv
  rw [rowElem_inv hv]
theorem valF_zeros (p : List TN) (q : List UInt8) (n : Nat) (h : ∀ x ∈ p, x.1 ≠ q) (k : Nat) : valF (p ++ [(q, List.replicate n 0)]) q k = 0 := by
  have h1 := valF_same p (q, List.replicate n 0) k
  simp only at h1
  rw [h1, valF_none h]
  by_cases hk : k < n
  · simp [List.getD, hk]
  · simp [List.getD, hk]
theorem keysL_snoc (p : List TN) (x : TN) (q : List UInt8) : q ∈ keysL (p ++ [x]) ↔ q ∈ keysL p ∨ q = x.1 := by simp [keysL]
/-- A row of noughts more, of block g. -/
theorem RowsAt.new {w : World} {bv n : Nat} {ns : List (List UInt8)} {p : List TN} {G : List UInt8 → Nat} (h : RowsAt w bv n ns p G) (N : Nds ns) {q : List UInt8} (hq : q ∈ ns) (hk : q ∉ keysL p) (hl : n < 1000000) (hns : ns.length < 1000000)
    {g : Nat} (hg : Blk w g 3 ((List.range (q.length + 1)).map fun _ => .int .i64 0)) (hG : ∀ r, r ∈ keysL p → G r ≠ g) :
    ∃ w', (Instr.mapUpdate 75 (.map (some bv)) (.int .i64 (num ns q)) (.slice (some ⟨g, 0, none⟩) (q.length + 1) (q.length + 1))).run Tryz.prog w = .ok () w' ∧
      RowsAt w' bv (n + 1) ns (p ++ [(q, List.replicate (q.length + 1) 0)]) (fun r => if r = q then g else G r) ∧ w.grownBy w' (some bv) := by
  have hne : g ≠ bv := h.not_block hg
  have hbv := h.lt
  have hrb : ∀ r, r ∈ keysL p → G r ≠ bv := fun r hr => h.not_block (h.row r hr)
  obtain ⟨⟨m, hm, hmq⟩, hrow, hi⟩ := h
  have h1 := num_pos ns q
  have h2 := num_le hq
  obtain ⟨w', hr, hm', hgr⟩ := hm.store node_law Tryz.underlying75 (by unfold maxLen; omega) (node_key (a := num ns q) (by omega)) (rowElem_some g (q.length + 1))
  have keep : ∀ b, b < w.heap.size → b ≠ bv → w'.heap[b]? = w.heap[b]? := fun b hb hn => hgr.block b hb (fun e => hn (by cases e; rfl))
  have hself : valN ns (keysL (p ++ [(q, List.replicate (q.length + 1) 0)])) (fun r => if r = q then g else G r) (num ns q) = some (g, q.length + 1) := by
    rw [valN_num hq, if_pos ((keysL_snoc _ _ _).2 (.inr rfl)), if_pos rfl]
  refine ⟨w', hr, ⟨⟨_, hm', fun a => ?_⟩, fun r hr => ?_, fun r s hr hs e => ?_⟩, hgr⟩
  · by_cases e : a = num ns q
    · rw [e, hself, if_pos rfl]
      rfl
    · have e1 : ¬ (Value.int .i64 a) = .int .i64 (num ns q) := fun k => e (by cases k; rfl)
      refine (if_neg e1).trans ?_
      rw [hmq]
      refine congrArg (Option.map rowD) ?_
      unfold valN
      split
      · rename_i ha
        split
        · rename_i r hr
          have hne2 : r ≠ q := fun k => e (by rw [← k]; exact num_of_get N ha hr)
          by_cases h5 : r ∈ keysL p
          · rw [if_pos h5, if_pos ((keysL_snoc _ _ _).2 (.inl h5))]
            show _ = some ((if r = q then g else G r), r.length + 1)
            rw [if_neg hne2]
          · rw [if_neg h5, if_neg (fun k => ((keysL_snoc _ _ _).1 k).elim h5 hne2)]
        · rfl
      · rfl
  · by_cases e : r = q
    · subst e
      rw [if_pos rfl]
      have h3 : Blk w' g 3 ((List.range (r.length + 1)).map fun _ => .int .i64 0) := (keep g hg.lt hne).trans hg
      have h4 : rowL (p ++ [(r, List.replicate (r.length + 1) 0)]) r = (List.range (r.length + 1)).map fun _ => .int .i64 0 := List.map_congr_left fun k _ => by
        rw [valF_zeros]
        exact fun x hx e => hk (by rw [← e]; exact List.mem_map.2 ⟨x, hx, rfl⟩)
      rw [h4]; exact h3
    · rw [if_neg e]
      have hr' : r ∈ keysL p := ((keysL_snoc _ _ _).1 hr).elim id (fun k => absurd k e)
      have h3 : rowL (p ++ [(q, List.replicate (q.length + 1) 0)]) r = rowL p r := List.map_congr_left fun k _ => by
        have := valF_other p (q, List.replicate (q.length + 1) 0) (q := r) (fun k => e k.symm) k
        rw [this]
      rw [h3]
      exact (keep _ (hrow r hr').lt (hrb r hr')).trans (hrow r hr')
  · by_cases e1 : r = q
    · by_cases e2 : s = q
      · rw [e1, e2]
      · rw [if_pos e1, if_neg e2] at e
        exact absurd e.symm (hG s (((keysL_snoc _ _ _).1 hs).elim id (fun k => absurd k e2)))
    · by_cases e2 : s = q
      · rw [if_neg e1, if_pos e2] at e
        exact absurd e (hG r (((keysL_snoc _ _ _).1 hr).elim id (fun k => absurd k e1)))
      · rw [if_neg e1, if_neg e2] at e
        exact hi r s (((keysL_snoc _ _ _).1 hr).elim id (fun k => absurd k e1)) (((keysL_snoc _ _ _).1 hs).elim id (fun k => absurd k e2)) e
/-- A row that is lifted by a pattern's values. -/
theorem RowsAt.lift {w w' : World} {bv n : Nat} {ns : List (List UInt8)} {p : List TN} {G : List UInt8 → Nat} (h : RowsAt w bv n ns p G) (x : TN) (hx : x.1 ∈ keysL p) (hb : But (Only (G x.1)) w w')
    (hg : Blk w' (G x.1) 3 ((List.range (x.1.length + 1)).map fun k => .int .i64 (max (valF p x.1 k) (x.2.getD k 0)))) : RowsAt w' bv n ns (p ++ [x]) G := by
  have hbv := h.lt
  have hrb : ∀ r, r ∈ keysL p → G r ≠ bv := fun r hr => h.not_block (h.row r hr)
  obtain ⟨⟨m, hm, hmq⟩, hrow, hi⟩ := h
  have hk : ∀ q, q ∈ keysL (p ++ [x]) ↔ q ∈ keysL p := fun q => by
    rw [keysL_snoc]
    exact ⟨fun k => k.elim id (fun k => by rw [k]; exact hx), .inl⟩
  refine ⟨⟨m, hm.block (hb.block bv hbv (fun e => hrb _ hx e.symm)), fun a => ?_⟩, fun q hq => ?_, fun q r hq hr => hi q r ((hk q).1 hq) ((hk r).1 hr)⟩
  · rw [hmq]
    refine congrArg (Option.map rowD) ?_
    unfold valN
    split
    · split
      · rename_i q _
        by_cases h2 : q ∈ keysL p
        · rw [if_pos h2, if_pos ((hk q).2 h2)]
        · rw [if_neg h2, if_neg (fun k => h2 ((hk q).1 k))]
      · rfl
    · rfl
  · have hq' := (hk q).1 hq
    by_cases e : q = x.1
    · subst e
      have h3 : rowL (p ++ [x]) x.1 = (List.range (x.1.length + 1)).map fun k => .int .i64 (max (valF p x.1 k) (x.2.getD k 0)) := List.map_congr_left fun k _ => by rw [valF_same]
      rw [h3]; exact hg
    · have h3 : rowL (p ++ [x]) q = rowL p q := List.map_congr_left fun k _ => by rw [valF_other p x (fun k => e k.symm)]
      rw [h3]
      exact hb.blk (hrow q hq') (fun k => e (hi q x.1 hq' hx k))
end L11
end Go.Proofs.YtmmgmcfhlhghoaaGreatDoor

namespace Go.Proofs.YtmmgmcfhlhghoaaGreatDoor
open Go.RowKit
namespace L11

/-- The numbers f, from off on made no less than h's first m. -/
def liftF (f : Nat → Int) (off m : Nat) (h : Nat → Int) (j : Nat) : Int := if off ≤ j ∧ j < off + m then max (f j) (h (j - off)) else f j
def rowI (n : Nat) (f : Nat → Int) : List Value := (List.range n).map fun k => .int .i64 (f k)
theorem rowI_get {n : Nat} {f : Nat → Int} {k : Nat} (h : k < n) : (rowI n f)[k]? = some (.int .i64 (f k)) := by simp [rowI, h]
theorem rowI_set {n : Nat} {f g : Nat → Int} (k : Nat) (x : Int) (hg : ∀ j, j < n → g j = if j = k then x else f j) : (rowI n f).set k (.int .i64 x) = rowI n g := by
  apply List.ext_getElem
  · simp [rowI]
  · intro j h1 h2
    have hj : j < n := by simpa [rowI] using h2
    have e1 : (rowI n g)[j] = .int .i64 (g j) := by simp [rowI]
    have e2 : (rowI n f)[j]'(by simpa [rowI] using hj) = .int .i64 (f j) := by simp [rowI]
    rw [List.getElem_set, e1, hg j hj, e2]
    by_cases e : k = j
    · rw [if_pos e, if_pos e.symm]
    · rw [if_neg e, if_neg (fun h => e h.symm)]
theorem rowI_congr {n : Nat} {f g : Nat → Int} (h : ∀ j, j < n → f j = g j) : rowI n f = rowI n g := List.map_congr_left fun k hk => by rw [h k (List.mem_range.1 hk)]
def LiftQ (w : World) (g N : Nat) (f : Nat → Int) (e : Ending) (w' : World) : Prop := e = .returned (.tuple #[]) ∧ But (Only g) w w' ∧ Blk w' g 3 (rowI N f)

set_option maxRecDepth 100000 in
set_option maxHeartbeats 4000000 in
theorem lift_any (g off ln cp N : Nat) (f : Nat → Int) (A : Option Addr) (m c : Nat) (h : Nat → Int) (w : World) (kg : Blk w g 3 (rowI N f)) (so : SeenF w A m h) (hA : m ≠ 0 → ∀ ad, A = some ad → ad.block ≠ g) (hm : m ≤ ln) (hN : off + ln ≤ N) (hm' : m ≤ 1000000) :
    Calls Tryz.prog 102 #[.slice (some ⟨g, off, none⟩) ln cp, .slice A m c] w (LiftQ w g N (liftF f off m h)) := by
  have KG := Lib.hid kg
  have SO := Lib.hid so
  have HA := Lib.hid hA
  clear kg so hA
  go_enter Tryz.func102, Tryz.ntmps102
  go_wp2_with fail
  go_loopw [8] (fun i wr => ∃ k : Nat, k ≤ m ∧ i = .int .i64 k ∧ But (Only g) w wr ∧ Blk wr g 3 (rowI N (liftF f off k h))) (fun i _ => m - (intOf i).toNat)
  case atStart =>
    refine ⟨0, Nat.zero_le _, rfl, But.refl _ _, ?_⟩
    rw [rowI_congr (g := f)]
    · exact KG.out
    · intro j _; unfold liftF; rw [if_neg (by omega)]
  case round =>
    obtain ⟨k, hk, rfl, hb, kb⟩ := hrel
    by_cases hlt : k < m
    · obtain ⟨ad, rfl, hc⟩ := SO.out.get hlt
      have hne := HA.out (by omega) ad rfl
      have hkl : k < ln := by omega
      have q0 : wr.cell? (ad.add k) = some (.int .i64 (h k)) := hb.at hc (by rw [addr_block]; exact hne)
      have e0 : liftF f off k h (off + k) = f (off + k) := by unfold liftF; rw [if_neg (by omega)]
      have q1 : wr.cell? ⟨g, off + k, none⟩ = some (.int .i64 (f (off + k))) := by rw [kb.cell, rowI_get (by omega), e0]
      have q2 : wr.frozen? ⟨g, off + k, none⟩ = false := kb.free _
      have EX := Lib.hid (show Blk (wr.setCell ⟨g, off + k, none⟩ (.int .i64 (if f (off + k) < h k then h k else f (off + k)))) g 3 (rowI N (liftF f off (k + 1) h)) by
        have := kb.set (off + k) (.int .i64 (if f (off + k) < h k then h k else f (off + k)))
        rw [rowI_set (g := liftF f off (k + 1) h)] at this
        · exact this
        · intro j hj
          by_cases e : j = off + k
          · subst e
            rw [if_pos rfl]
            unfold liftF
            rw [if_pos (by omega), show off + k - off = k by omega]
            omega
          · rw [if_neg e]
            unfold liftF
            by_cases e2 : off ≤ j ∧ j < off + k
            · rw [if_pos e2, if_pos (by omega)]
            · rw [if_neg e2, if_neg (by omega)])
      have EB := Lib.hid (show But (Only g) w (wr.setCell ⟨g, off + k, none⟩ (.int .i64 (if f (off + k) < h k then h k else f (off + k)))) from hb.trans (But.set (S := Only g) wr ⟨g, off + k, none⟩ _ rfl) (fun i hi => .inl hi))
      have hadd : (⟨g, off, none⟩ : Addr).add k = ⟨g, off + k, none⟩ := by
        unfold Addr.add; by_cases h0 : k = 0 <;> simp [h0]
      clear hb kb hc hne e0
      generalize f (off + k) = x at *
      generalize h k = y at *
      go_wp2_with fail
      go_roundw
      case rel => exact ⟨k + 1, by omega, by go_num, EB.out, EX.out⟩
      case measure => simp [intOf]; omega
    · obtain rfl : k = m := by omega
      go_wp2_with fail
      go_end0
      exact ⟨rfl, hb, kb⟩
end L11
end Go.Proofs.YtmmgmcfhlhghoaaGreatDoor

namespace Go.Proofs.YtmmgmcfhlhghoaaGreatDoor
open Go.RowKit
namespace L11

theorem disable (w : World) : (callFunc 120 #[]).run Tryz.prog w = .ok (.value (.tuple #[])) w := run_call_mark0 Tryz.func120 (by kernel_rfl) (by kernel_rfl) (by kernel_rfl) .disable (by kernel_rfl) w
theorem enable (w : World) : (callFunc 122 #[]).run Tryz.prog w = .ok (.value (.tuple #[])) w := run_call_mark0 Tryz.func122 (by kernel_rfl) (by kernel_rfl) (by kernel_rfl) .enable (by kernel_rfl) w
theorem acquire (a : Addr) (w : World) : (callFunc 123 #[.pointer (some a)]).run Tryz.prog w = .ok (.value (.tuple #[])) w := run_call_marked Tryz.func123 (by kernel_rfl) (by kernel_rfl) (by kernel_rfl) .acquire (by kernel_rfl) a w
theorem releaseMerge (a : Addr) (w : World) : (callFunc 125 #[.pointer (some a)]).run Tryz.prog w = .ok (.value (.tuple #[])) w := run_call_marked Tryz.func125 (by kernel_rfl) (by kernel_rfl) (by kernel_rfl) .releaseMerge (by kernel_rfl) a w

/-- (*atomic.Bool).Store(true), deferred. -/
theorem store_deferred (a : Addr) (x : Value) (u : FrameMode) (w : World) (hc : w.cell? a = some x) (hz : w.frozen? a = false) :
    CallsD Tryz.prog 111 #[.pointer (some a), .bool true] u w fun e u' w' => u' = u ∧ (e = .returned (.tuple #[]) ∧ w' = w.drew.setCell a (.int .u32 1)) := by
  have hc' : w.drew.cell? a = some x := by go_simp
  have hz' : w.drew.frozen? a = false := by go_simp
  have hst := run_call_store (P := Tryz.prog) Tryz.func117 (by kernel_rfl) (by kernel_rfl) (by kernel_rfl) (by kernel_rfl) (k := .u32) (y := 1) hc' hz'
  go_enter_d Tryz.func111, Tryz.ntmps111
  go_wp2
  go_region_calls
  all_goals (go_end0; exact ⟨rfl, rfl⟩)

set_option maxRecDepth 100000 in
set_option maxHeartbeats 1600000 in
/-- (*Mutex).Unlock, deferred; the lock held, nobody waiting. -/
theorem unlock_deferred (a : Addr) (u : FrameMode) (w : World) (hc : w.cell? a = some (.int .i32 1)) (hz : w.frozen? a = false) :
    CallsD Tryz.prog 110 #[.pointer (some a)] u w fun e u' w' => u' = u ∧ (e = .returned (.tuple #[]) ∧ w' = w.setCell a (.int .i32 0)) := by
  have hd := disable
  have he := enable
  have hr := releaseMerge
  have hadd := run_call_add (P := Tryz.prog) Tryz.func126 (by kernel_rfl) (by kernel_rfl) (by kernel_rfl) .i32 (by kernel_rfl) (y := -1) (s := 0) hc hz (by simp [go_sem]; rfl)
  have hcv := run_convert_to_unsafe (P := Tryz.prog) (src := 190) (dst := 135) Tryz.underlying190 Tryz.underlying135 (by kernel_rfl) hc
  go_enter_d Tryz.func110, Tryz.ntmps110
  go_wp2
  go_end0
  go_wp2
  go_end0
  exact ⟨rfl, rfl⟩

set_option maxRecDepth 100000 in
set_option maxHeartbeats 1600000 in
/-- (*Mutex).Lock, the lock free. -/
theorem lock_free (a : Addr) (w : World) (hc : w.cell? a = some (.int .i32 0)) (hz : w.frozen? a = false) :
    Calls Tryz.prog 109 #[.pointer (some a)] w fun e w' => e = .returned (.tuple #[]) ∧ w' = w.setCell a (.int .i32 1) := by
  have hd := disable
  have he := enable
  have ha := acquire
  have hcas := run_call_cas_hit (P := Tryz.prog) Tryz.func121 (by kernel_rfl) (by kernel_rfl) (by kernel_rfl) .i32 (by kernel_rfl) (y := 1) hc hz
  have hc' : (w.setCell a (.int .i32 1)).cell? a = some (.int .i32 1) := World.cell?_setCell_same w a _ hc
  have hcv := run_convert_to_unsafe (P := Tryz.prog) (src := 190) (dst := 135) Tryz.underlying190 Tryz.underlying135 (by kernel_rfl) hc'
  go_enter Tryz.func109, Tryz.ntmps109
  go_wp2
  first | go_end0 | (simp only [Exit.inBlock, Exit.then]; refine bodyPost_ret (results_none rfl _ _ _) rfl ?_) | refine bodyPost_ret (results_none rfl _ _ _) rfl ?_
  go_wp2
  go_end0
  exact ⟨rfl, rfl⟩

/-- What Do leaves the first time: what the function leaves, and the Once done. -/
def OnceQ (Q : World → Prop) (b o : Nat) (e : Ending) (w' : World) : Prop := e = .returned (.tuple #[]) ∧ ∃ w1, Q w1 ∧ w' = (w1.drew.setCell ⟨b, o, none⟩ (.int .u32 1)).setCell ⟨b, o + 1, none⟩ (.int .i32 0)
/-- What the function has to leave. -/
def OnceIn (Q : World → Prop) (b o : Nat) (e : Ending) (w1 : World) : Prop := e = .returned (.tuple #[]) ∧ Q w1 ∧ w1.cell? ⟨b, o, none⟩ = some (.int .u32 0) ∧ w1.frozen? ⟨b, o, none⟩ = false ∧ w1.cell? ⟨b, o + 1, none⟩ = some (.int .i32 1) ∧ w1.frozen? ⟨b, o + 1, none⟩ = false
set_option maxRecDepth 100000 in
set_option maxHeartbeats 1600000 in
theorem slow_any (Q : World → Prop) (b o : Nat) (tp : Value) (w : World) (h0 : w.cell? ⟨b, o, none⟩ = some (.int .u32 0)) (h1 : w.cell? ⟨b, o + 1, none⟩ = some (.int .i32 0)) (f1 : w.frozen? ⟨b, o + 1, none⟩ = false)
    (hcall : Calls Tryz.prog 77 #[tp] (w.setCell ⟨b, o + 1, none⟩ (.int .i32 1)) (OnceIn Q b o)) :
    Calls Tryz.prog 99 #[.pointer (some ⟨b, o, none⟩), .func (.func 77) #[tp] #[]] w (OnceQ Q b o) := by
  have hl := run_call_load (P := Tryz.prog) Tryz.func108 (by kernel_rfl) (by kernel_rfl) (by kernel_rfl) .u32 (by kernel_rfl) (w := w.setCell ⟨b, o + 1, none⟩ (.int .i32 1)) (a := ⟨b, o, none⟩) (x := 0) ((World.cell?_setCell_other _ ⟨b, o + 1, none⟩ ⟨b, o, none⟩ _ (by simp)).trans h0)
  have hnot : ∀ (x : Bool) (w : World), (Op.unary .not (.bool x)).run Tryz.prog w = .ok (.bool (!x)) w := fun _ _ => rfl
  have L := Lib.hid (lock_free ⟨b, o + 1, none⟩ w h1 f1)
  have HC := Lib.hid hcall
  clear h0 h1 f1 hcall
  go_enter_defers Tryz.func99, Tryz.ntmps99
  go_wp2_with (go_at_call 109; refine L.out.mono ?_; rintro e w' ⟨rfl, rfl⟩)
  go_in
  go_wp2_with fail
  refine HC.out.mono ?_; rintro e w1 ⟨rfl, hq, h0, f0, h1, f1⟩
  go_wp2_with fail
  refine leaves_cons (f := 111) (args := #[.pointer (some ⟨b, o, none⟩), .bool true]) (by simp) (by simp [go_sem]) ?_
  refine (store_deferred ⟨b, o, none⟩ (.int .u32 0) .returning _ h0 f0).mono ?_
  rintro e u' w'' ⟨rfl, rfl, rfl⟩
  refine leaves_cons (f := 110) (args := #[.pointer (some ⟨b, o + 1, none⟩)]) (by simp [settle]) (by simp [go_sem]) ?_
  refine (unlock_deferred ⟨b, o + 1, none⟩ _ _ ?_ (by simp [f1])).mono ?_
  · refine (World.cell?_setCell_other _ ⟨b, o, none⟩ ⟨b, o + 1, none⟩ _ (by simp)).trans ?_
    rw [World.cell?_drew]
    exact h1
  rintro e u' w'' ⟨rfl, rfl, rfl⟩
  simp [Leaves, settle, results, Tryz.results99]
  exact ⟨rfl, w1, hq, rfl⟩
set_option maxRecDepth 100000 in
set_option maxHeartbeats 1600000 in
theorem do_first (Q : World → Prop) (b o : Nat) (tp : Value) (w : World) (h0 : w.cell? ⟨b, o, none⟩ = some (.int .u32 0)) (h1 : w.cell? ⟨b, o + 1, none⟩ = some (.int .i32 0)) (f1 : w.frozen? ⟨b, o + 1, none⟩ = false)
    (hcall : Calls Tryz.prog 77 #[tp] (w.setCell ⟨b, o + 1, none⟩ (.int .i32 1)) (OnceIn Q b o)) :
    Calls Tryz.prog 76 #[.pointer (some ⟨b, o, none⟩), .func (.func 77) #[tp] #[]] w (OnceQ Q b o) := by
  have hl := run_call_load (P := Tryz.prog) Tryz.func108 (by kernel_rfl) (by kernel_rfl) (by kernel_rfl) .u32 (by kernel_rfl) h0
  have hnot : ∀ (x : Bool) (w : World), (Op.unary .not (.bool x)).run Tryz.prog w = .ok (.bool (!x)) w := fun _ _ => rfl
  have S := Lib.hid (slow_any Q b o tp w h0 h1 f1 hcall)
  clear h0 h1 f1 hcall
  go_enter Tryz.func76, Tryz.ntmps76
  go_wp2_with (first | (go_at_call 99; refine S.out.mono ?_; rintro e w' ⟨rfl, hq⟩) | go_in)
  go_end0
  exact ⟨rfl, hq⟩

/-- A Once is done: its function is not called. -/
theorem do_done (a : Addr) (fv : Value) (w : World) (h0 : w.cell? a = some (.int .u32 1)) :
    Calls Tryz.prog 76 #[.pointer (some a), fv] w fun e w' => e = .returned (.tuple #[]) ∧ w' = w := by
  have hl := run_call_load (P := Tryz.prog) Tryz.func108 (by kernel_rfl) (by kernel_rfl) (by kernel_rfl) .u32 (by kernel_rfl) h0
  have hnot : ∀ (x : Bool) (w : World), (Op.unary .not (.bool x)).run Tryz.prog w = .ok (.bool (!x)) w := fun _ _ => rfl
  go_enter Tryz.func76, Tryz.ntmps76
  go_wp2
  go_end0
  exact ⟨rfl, rfl⟩

/-- (*atomic.Int64).Load, Store, Add. -/
theorem store64_any (a : Addr) (x : Value) (n : Int) (w : World) (hc : w.cell? a = some x) (hz : w.frozen? a = false) :
    Calls Tryz.prog 100 #[.pointer (some a), .int .i64 n] w fun e w' => e = .returned (.tuple #[]) ∧ w' = w.setCell a (.int .i64 n) := by
  have hst := run_call_store (P := Tryz.prog) Tryz.func112 (by kernel_rfl) (by kernel_rfl) (by kernel_rfl) (by kernel_rfl) (k := .i64) (y := n) hc hz
  go_enter Tryz.func100, Tryz.ntmps100
  go_wp2
  go_end0
  exact ⟨rfl, rfl⟩
theorem add64_any (a : Addr) (n : Int) (w : World) (hc : w.cell? a = some (.int .i64 n)) (hz : w.frozen? a = false) (h0 : 0 ≤ n) (h1 : n ≤ 1000000000) :
    Calls Tryz.prog 119 #[.pointer (some a), .int .i64 1] w fun e w' => e = .returned (.int .i64 (n + 1)) ∧ w' = w.setCell a (.int .i64 (n + 1)) := by
  have hw : IntKind.i64.wrap (n + 1) = n + 1 := IntWalk.i64_in _ (by omega)
  have hadd := run_call_add (P := Tryz.prog) Tryz.func128 (by kernel_rfl) (by kernel_rfl) (by kernel_rfl) .i64 (by kernel_rfl) (y := 1) (s := n + 1) hc hz (by simp [go_sem, hw])
  clear hw
  go_enter Tryz.func119, Tryz.ntmps119
  go_wp2
  go_ret
  exact ⟨rfl, rfl⟩
end L11
end Go.Proofs.YtmmgmcfhlhghoaaGreatDoor

namespace Go.Proofs.YtmmgmcfhlhghoaaGreatDoor
open Go.RowKit
namespace L11

/-- A trie's variable. -/
def trieC (vl : Value) (d st n : Int) (bs bv : Nat) : List Value := [vl, .int .u32 d, .int .i32 st, .int .u32 0, .int .i64 n, .map (some bs), .map (some bv)]
theorem StepsAt.keepB {S : Nat → Prop} {w w' : World} {bs n : Nat} {ns : List (List UInt8)} (h : StepsAt w bs n ns) (x : But S w w') (hs : ¬ S bs) : StepsAt w' bs n ns := h.block (x.block bs h.lt hs)
theorem StepsAt.ext {w w' : World} {bs n : Nat} {ns : List (List UInt8)} (h : StepsAt w bs n ns) (x : Ext w w') : StepsAt w' bs n ns := h.block (x.block bs h.lt)
theorem StepsAt.mono {w : World} {bs n m : Nat} {ns : List (List UInt8)} (h : StepsAt w bs n ns) (hn : n ≤ m) : StepsAt w bs m ns := by
  obtain ⟨x, hm, q⟩ := h
  exact ⟨x, hm.mono hn, q⟩
def GrowQ (w : World) (B bs bv n : Nat) (vl : Value) (d st : Int) (ns : List (List UInt8)) (r : List UInt8) (e : Ending) (w' : World) : Prop :=
  e = .returned (.int .i64 (num ns r)) ∧ But (fun k => k = B ∨ k = bs) w w' ∧ Blk w' B 77 (trieC vl d st ns.length bs bv) ∧ StepsAt w' bs n ns

set_option maxRecDepth 100000 in
set_option maxHeartbeats 4000000 in
theorem grow_any (B bs bv n : Nat) (vl : Value) (d st : Int) (ns : List (List UInt8)) (q : List UInt8) (b : UInt8) (w : World) (N : Nds ns) (hq : q ∈ ns) (kb : Blk w B 77 (trieC vl d st ns.length bs bv)) (ks : StepsAt w bs n ns) (hn : n < 900000) (hl : ns.length < 900000) :
    Calls Tryz.prog 113 #[.pointer (some ⟨B, 0, none⟩), .agg #[.int .i64 (num ns q), .int .u8 (b.toNat : Int)]] w (GrowQ w B bs bv (n + 1) vl d st (addQ ns (q ++ [b])) (q ++ [b])) := by
  have n1 := num_pos ns q
  have n2 := num_le hq
  have hne : B ≠ bs := ks.not_block kb
  obtain ⟨V, hV⟩ : ∃ V, V = w.alloc (.cells #[.int .i64 (num ns q), .int .u8 (b.toNat : Int)] 169) := ⟨_, rfl⟩
  have W0 : Ext w V := by rw [hV]; exact (Ext.refl _).alloc _
  have kS : Blk V w.heap.size 169 [.int .i64 (num ns q), .int .u8 (b.toNat : Int)] := by rw [hV]; exact Blk.lit _ _ _ _ rfl
  have hR : w.heap.size ≠ bs := by have := ks.lt; omega
  have hRB : w.heap.size ≠ B := by have := kb.lt; omega
  have KB := kb.ext W0
  have KS := ks.ext W0
  have LK := fun m => (KS.ext ((Ext.refl V).drewN m)).look (num ns q) b (by omega)
  have HX := Lib.hid W0
  have HST := Lib.hid (stepN_num hq b)
  have KBH := Lib.hid KB
  have KSH := Lib.hid KS
  have KSV := Lib.hid kS
  have q0 := KB.cell 0
  have q4 := KB.cell 4
  have q5 := KB.cell 5
  have z4 := KB.free 4
  have s0 := kS.cell 0
  have s1 := kS.cell 1
  simp only [trieC, List.getElem?_cons_zero, List.getElem?_cons_succ] at q0 q4 q5 s0 s1
  generalize hnum : num ns q = a at *
  have HN := Lib.hid hnum
  clear hnum
  obtain ⟨x, hx⟩ : ∃ x, stepN ns a b = x := ⟨_, rfl⟩
  rw [hx] at LK HST
  generalize hbz : (b.toNat : Int) = z at *
  have HZ := Lib.hid hbz
  clear KB KS kS kb ks W0 hx hbz
  go_enter Tryz.func113, Tryz.ntmps113
  go_upto_region 1 with (fail)
  rw [← hV]
  clear hV
  generalize w.heap.size = R at *
  by_cases hm : q ++ [b] ∈ ns
  · have E1 := Lib.hid (show addQ ns (q ++ [b]) = ns by unfold addQ; rw [if_pos hm])
    have hx : x = some (num ns (q ++ [b])) := by rw [HST.out, if_pos hm]
    clear HST hm
    subst hx
    simp only [Option.getD_some, Option.isSome_some] at LK
    go_quiet (fail)
    rename_i nq
    go_wp2_with fail
    go_ret
    have X2 := (Ext.refl V).drewN nq
    exact ⟨ret_int (show num ns (q ++ [b]) = num (addQ ns (q ++ [b])) (q ++ [b]) by rw [E1.out]), But.of_ext (HX.out.trans X2), by rw [E1.out]; exact KBH.out.ext X2, by rw [E1.out]; exact (KSH.out.ext X2).mono (by omega)⟩
  · have E1 := Lib.hid (show addQ ns (q ++ [b]) = ns ++ [q ++ [b]] by unfold addQ; rw [if_neg hm])
    have hx : x = none := by rw [HST.out, if_neg hm]
    have HM := Lib.hid hm
    clear HST hm
    subst hx
    simp only [Option.getD_none, Option.isSome_none] at LK
    go_quiet (fail)
    rename_i nq
    have X2 := (Ext.refl V).drewN nq
    have q4 := X2.at q4
    have z4 : (V.drewN nq).frozen? ⟨B, 4, none⟩ = false := z4
    have q5 := X2.at q5
    have s0 := X2.at s0
    have s1 := X2.at s1
    have KBH := Lib.hid (KBH.out.ext X2)
    have KSH := Lib.hid (KSH.out.ext X2)
    have KSV := Lib.hid (KSV.out.ext X2)
    have HX := Lib.hid (HX.out.trans X2)
    generalize V.drewN nq = V2 at *
    clear LK X2
    have AD := Lib.hid (add64_any ⟨B, 4, none⟩ (ns.length : Int) V2 q4 z4 (by omega) (by omega))
    go_wp2_with fail
    refine AD.out.mono ?_; rintro e w3 ⟨rfl, hw3⟩
    have BT : But (Only B) V2 w3 := by rw [hw3]; exact But.set (S := Only B) V2 ⟨B, 4, none⟩ _ rfl
    have kb3 : Blk w3 B 77 (trieC vl d st ((ns.length : Int) + 1) bs bv) := by rw [hw3]; exact KBH.out.set 4 _
    have ks3 := KSH.out.keepB BT (fun e => hne e.symm)
    have q5 : w3.cell? ⟨B, 5, none⟩ = some (.map (some bs)) := kb3.cell 5
    have kv3 := BT.blk KSV.out hRB
    have s0 : w3.cell? ⟨R, 0, none⟩ = some (.int .i64 a) := kv3.cell 0
    have s1 : w3.cell? ⟨R, 1, none⟩ = some (.int .u8 z) := kv3.cell 1
    obtain ⟨w5, hst, ks5, hg5⟩ := (ks3.ext ((Ext.refl w3).drew)).store N hq HM.out (by omega) (by omega)
    have hst : (Instr.mapUpdate 74 (.map (some bs)) (.agg #[.int .i64 a, .int .u8 z]) (.int .i64 ((ns.length : Int) + 1))).run Tryz.prog w3.drew = .ok () w5 := by
      rw [← HZ.out, ← HN.out]; exact hst
    have FIN := Lib.hid (show But (fun k => k = B ∨ k = bs) w w5 ∧ Blk w5 B 77 (trieC vl d st ((ns.length : Int) + 1) bs bv) ∧ StepsAt w5 bs (n + 1) (ns ++ [q ++ [b]]) from by
      have b1 : But (fun k => k = B ∨ k = bs) w w3 := (But.of_ext HX.out).trans (BT.mono (T := fun k => k = B ∨ k = bs) (fun i _ hi => .inl hi)) (fun i hi => .inl hi)
      have b2 : But (Only bs) w3 w5 := ((But.refl (Only bs) w3).drew).trans (But.of_grown (S := Only bs) hg5 (fun g hg => by cases hg; rfl)) (fun i hi => .inl hi)
      exact ⟨b1.trans b2 (fun i hi => .inl (.inr hi)), b2.blk kb3 hne, ks5⟩)
    have HNN := Lib.hid (num_new HM.out)
    clear hw3 BT kb3 ks3 kv3 KBH KSH KSV HX AD q4 z4 ks5 hg5
    go_wp2_with fail
    go_still_tail 6, (by kernel_rfl)
    change wpList _ _ _ _ _ w3.drew
    go_wp2_with fail
    go_ret
    obtain ⟨f1, f2, f3⟩ := FIN.out
    exact ⟨ret_int (show (ns.length : Int) + 1 = num (addQ ns (q ++ [b])) (q ++ [b]) by rw [E1.out, HNN.out]), f1, by rw [E1.out]; simpa using f2, by rw [E1.out]; exact f3⟩
end L11
end Go.Proofs.YtmmgmcfhlhghoaaGreatDoor

