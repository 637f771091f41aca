/- Layer 17, plain: a line's pieces, word by word. -/
import Derived.Test.YtmmgmcfhlhghoaaJoin17
namespace Go.Proofs.Ytmmgmcfhlhghoaa
open Go.RowKit
namespace L17
open L13 (TW tw checkB wordB)
open L16 (Brk befB bef_iff)

theorem cutTo_range {a b : Brk} {w lo hi : Nat} (cs : List Int) (h : ∀ i, i < cs.length → (behB a w i && aheB b w i) = (decide (lo ≤ i) && decide (i < hi))) : ∀ k, k ≤ cs.length → cutTo a b w cs k = (cs.take (min k hi)).drop lo
  | 0, _ => by simp [cutTo]
  | k + 1, hk => by
    rw [cutTo_succ, cutTo_range cs h k (by omega), h k (by omega)]
    have hg : cs.getD k 0 = cs[k] := by simp [List.getD, show k < cs.length from hk]
    by_cases h2 : k < hi
    · rw [Nat.min_eq_left (by omega), Nat.min_eq_left (by omega), List.take_succ_eq_append_getElem (show k < cs.length from hk), decide_eq_true h2, Bool.and_true, hg]
      by_cases h1 : lo ≤ k
      · rw [if_pos (decide_eq_true h1), List.drop_append_of_le_length (by rw [List.length_take]; omega)]
      · rw [if_neg (by simpa using h1), List.append_nil, List.drop_eq_nil_of_le (by rw [List.length_take]; omega), List.drop_eq_nil_of_le (by rw [List.length_append, List.length_take]; simp; omega)]
    · rw [Nat.min_eq_right (by omega), Nat.min_eq_right (by omega), decide_eq_false h2, Bool.and_false, if_neg (by decide), List.append_nil]
/-- Where the line behind a break begins. -/
def begW (a : Brk) : Nat := if a.1 = 1 then a.2.1.toNat + 1 else a.2.1.toNat
def begA (a : Brk) : Nat := if a.1 = 1 then 0 else a.2.2.toNat
theorem beg_cases (a : Brk) : a.1 = 1 ∧ begW a = a.2.1.toNat + 1 ∧ begA a = 0 ∨ a.1 ≠ 1 ∧ begW a = a.2.1.toNat ∧ begA a = a.2.2.toNat := by
  unfold begW begA
  by_cases h : a.1 = 1
  · exact .inl ⟨h, if_pos h, if_pos h⟩
  · exact .inr ⟨h, if_neg h, if_neg h⟩
/-- A word's codes behind that, the i-th word from there. -/
def fromW (l : List TW) (s f i : Nat) : List Int := (l.getD (s + i) ([], [])).1.drop (if i = 0 then f else 0)
def midsL (l : List TW) (s f m : Nat) : List (List Int) := (List.range m).map (fromW l s f)
theorem mids_succ (l : List TW) (s f m : Nat) : midsL l s f (m + 1) = midsL l s f m ++ [fromW l s f m] := by simp [midsL, List.range_succ]
def lastL (l : List TW) (s f q t : Nat) : List Int := ((l.getD q ([], [])).1.take t).drop (if q = s then f else 0)
/-- What two breaks of words, one ahead of the other, are. -/
structure Two (l : List TW) (a b : Brk) : Prop where
  bw : 0 ≤ b.2.1 ∧ b.2.1 < (l.length : Int)
  ba : 0 ≤ b.2.2 ∧ b.2.2 ≤ ((l.getD b.2.1.toNat ([], [])).1.length : Int)
  aw : 0 ≤ a.2.1 ∧ a.2.1 < (l.length : Int)
  aa : 0 ≤ a.2.2 ∧ a.2.2 ≤ ((l.getD a.2.1.toNat ([], [])).1.length : Int)
  a0 : a.1 = 0 → a.2.1 = 0 ∧ a.2.2 = 0
  a1 : a.1 = 1 → a.2.2 = ((l.getD a.2.1.toNat ([], [])).1.length : Int)
  a5 : a.1 ≠ 5
  an : a.1 ≠ 1 → a.2.2 < ((l.getD a.2.1.toNat ([], [])).1.length : Int)
  sq : begW a ≤ b.2.1.toNat
  ft : begW a = b.2.1.toNat → (begA a : Int) < b.2.2
  b1 : 0 < b.2.2
  all : ∀ w, w < l.length → 0 < (l.getD w ([], [])).1.length
theorem word_pos {l : List TW} (h : checkB l = true) : ∀ w, w < l.length → 0 < (l.getD w ([], [])).1.length := fun w hw => by
  simp only [checkB, Bool.and_eq_true, decide_eq_true_eq, List.all_eq_true] at h
  have h2 := h.2.1 l[w] (List.getElem_mem hw)
  simp only [L13.wordB, Bool.and_eq_true, decide_eq_true_eq] at h2
  have e : l.getD w ([], []) = l[w] := by simp [List.getD, hw]
  rw [e]
  omega
theorem st_parts {l : List TW} {b : Brk} (h : stB l b = true) : checkB l = true ∧ (0 ≤ b.2.1 ∧ b.2.1 < (l.length : Int)) ∧ (b.1 = 0 ∧ b.2.1 = 0 ∧ b.2.2 = 0 ∨ b.1 = 1 ∧ b.2.1 < (l.length : Int) - 1 ∧ b.2.2 = ((l.getD b.2.1.toNat ([], [])).1.length : Int) ∨ b.1 = 5 ∧ b.2.1 = (l.length : Int) - 1 ∧ b.2.2 = ((l.getD b.2.1.toNat ([], [])).1.length : Int) ∨ (2 ≤ b.1 ∧ b.1 ≤ 4) ∧ 1 ≤ b.2.2 ∧ b.2.2 < ((l.getD b.2.1.toNat ([], [])).1.length : Int)) := by
  unfold stB placeB at h
  generalize (l.getD b.2.1.toNat ([], [])).1.length = cl at *
  simp only [Bool.and_eq_true, decide_eq_true_eq] at h
  obtain ⟨h1, h2, h3, h4⟩ := h
  refine ⟨h1, ⟨h2, h3⟩, ?_⟩
  split at h4
  · simp only [Bool.and_eq_true, decide_eq_true_eq] at h4; omega
  · split at h4
    · simp only [Bool.and_eq_true, decide_eq_true_eq] at h4; omega
    · split at h4
      · simp only [Bool.and_eq_true, decide_eq_true_eq] at h4; omega
      · simp only [Bool.and_eq_true, decide_eq_true_eq] at h4; omega
theorem two_of {l : List TW} {a b : Brk} (ha : stB l a = true) (hb : stB l b = true) (h : befB a b = true) : Two l a b := by
  obtain ⟨hc, hw, hk⟩ := st_parts ha
  obtain ⟨_, gw, gk⟩ := st_parts hb
  have wp := word_pos hc
  have p1 := wp a.2.1.toNat (by omega)
  have p2 := wp b.2.1.toNat (by omega)
  have hb := bef_iff.1 h
  have hW := beg_cases a
  by_cases e : a.2.1 = b.2.1
  · rw [e] at hk p1 hw
    have e2 : a.2.1.toNat = b.2.1.toNat := by rw [e]
    generalize hz : (l.getD b.2.1.toNat ([], [])).1.length = cl at *
    refine ⟨gw, ?_, by omega, ?_, ?_, ?_, ?_, ?_, ?_, ?_, ?_, wp⟩
    all_goals (try rw [e2]; try rw [hz]) <;> omega
  · generalize hz : (l.getD b.2.1.toNat ([], [])).1.length = cl at *
    generalize hy : (l.getD a.2.1.toNat ([], [])).1.length = al at *
    refine ⟨gw, ?_, by omega, ?_, ?_, ?_, ?_, ?_, ?_, ?_, ?_, wp⟩
    all_goals (try rw [hz]; try rw [hy]) <;> omega
theorem rows_parts {l : List TW} {a b : Brk} (t : Two l a b) : ∀ k, k ≤ l.length → rowsTo a b l k = midsL l (begW a) (begA a) (min k b.2.1.toNat - begW a) ++ if b.2.1.toNat < k then [lastL l (begW a) (begA a) b.2.1.toNat b.2.2.toNat] else []
  | 0, _ => by simp [rowsTo, midsL]
  | k + 1, hk => by
    rw [rowsTo_succ, rows_parts t k (by omega)]
    have hp := t.all k (by omega)
    have hbw := t.bw
    have hba := t.ba
    have haw := t.aw
    have haa := t.aa
    have hb1 := t.b1
    have sq := t.sq
    have ft := t.ft
    have a0 := t.a0
    have a1 := t.a1
    have an := t.an
    have hW := beg_cases a
    by_cases h1 : k < begW a
    · have e : cutW a b k (l.getD k ([], [])).1 = [] := cutTo_none _ _ fun i hi => and_no (by
        rw [beh_iff]
        by_cases e1 : a.1 = 1
        · by_cases e2 : (k : Int) = a.2.1
          · have e3 : a.2.1.toNat = k := by omega
            rw [e3] at a1
            have := a1 e1
            omega
          · omega
        · omega)
      rw [e, if_pos rfl, List.append_nil, if_neg (by omega), if_neg (by omega), show min k b.2.1.toNat - begW a = 0 by omega, show min (k + 1) b.2.1.toNat - begW a = 0 by omega]
    · by_cases h2 : k ≤ b.2.1.toNat
      · have e : cutW a b k (l.getD k ([], [])).1 = ((l.getD k ([], [])).1.take (if k = b.2.1.toNat then b.2.2.toNat else (l.getD k ([], [])).1.length)).drop (if k = begW a then begA a else 0) := by
          unfold cutW
          rw [cutTo_range (lo := if k = begW a then begA a else 0) (hi := if k = b.2.1.toNat then b.2.2.toNat else (l.getD k ([], [])).1.length) _ (fun i hi => ?_) _ (Nat.le_refl _)]
          · congr 2
            split
            · rename_i e2; subst e2; omega
            · omega
          · refine and_same ?_
            rw [beh_iff, ahe_iff, decide_eq_true_eq, decide_eq_true_eq]
            have q1 : (a.1 = 0 ∨ a.2.1 < (k : Int) ∨ (k : Int) = a.2.1 ∧ a.2.2 ≤ (i : Int)) ↔ (if k = begW a then begA a else 0) ≤ i := by
              split <;> omega
            have q2 : ((k : Int) < b.2.1 ∨ (k : Int) = b.2.1 ∧ (i : Int) < b.2.2) ↔ i < (if k = b.2.1.toNat then b.2.2.toNat else (l.getD k ([], [])).1.length) := by
              split <;> omega
            rw [q1, q2]
        have hlt : (if k = begW a then begA a else 0) < (if k = b.2.1.toNat then b.2.2.toNat else (l.getD k ([], [])).1.length) := by
          by_cases e1 : k = begW a
          · rw [if_pos e1]
            by_cases e2 : k = b.2.1.toNat
            · rw [if_pos e2]
              have := ft (by omega)
              omega
            · rw [if_neg e2]
              by_cases e3 : a.1 = 1
              · omega
              · have e4 : a.2.1.toNat = k := by omega
                rw [e4] at an
                have := an e3
                omega
          · rw [if_neg e1]
            split <;> omega
        have ne : cutW a b k (l.getD k ([], [])).1 ≠ [] := by
          rw [e]
          intro h
          have := congrArg List.length h
          rw [List.length_drop, List.length_take] at this
          simp only [List.length_nil] at this
          have hm : (if k = b.2.1.toNat then b.2.2.toNat else (l.getD k ([], [])).1.length) ≤ (l.getD k ([], [])).1.length := by
            split
            · rename_i e2; subst e2; omega
            · exact Nat.le_refl _
          omega
        rw [if_neg ne, e, if_neg (show ¬ b.2.1.toNat < k by omega), List.append_nil]
        clear e hlt ne
        by_cases h3 : k = b.2.1.toNat
        · have z1 : (if k = b.2.1.toNat then b.2.2.toNat else (l.getD k ([], [])).1.length) = b.2.2.toNat := if_pos h3
          rw [z1, if_pos (show b.2.1.toNat < k + 1 by omega), show min (k + 1) b.2.1.toNat - begW a = min k b.2.1.toNat - begW a by omega]
          unfold lastL
          rw [← h3]
        · have z1 : (if k = b.2.1.toNat then b.2.2.toNat else (l.getD k ([], [])).1.length) = (l.getD k ([], [])).1.length := if_neg h3
          rw [z1, if_neg (show ¬ b.2.1.toNat < k + 1 by omega), List.append_nil, List.take_length, show min (k + 1) b.2.1.toNat - begW a = min k b.2.1.toNat - begW a + 1 by omega, mids_succ]
          congr 2
          unfold fromW
          rw [show begW a + (min k b.2.1.toNat - begW a) = k by omega]
          by_cases e1 : k = begW a
          · rw [if_pos e1, if_pos (by omega)]
          · rw [if_neg e1, if_neg (by omega)]
      · have e : cutW a b k (l.getD k ([], [])).1 = [] := cutTo_none _ _ fun i hi => and_no (by
          rw [ahe_iff]
          omega)
        rw [e, if_pos rfl, List.append_nil, if_pos (by omega), if_pos (by omega), show min (k + 1) b.2.1.toNat = min k b.2.1.toNat by omega]
/-- A line's pieces: of whole words, and of the one in which it ends. -/
theorem cutL_parts {l : List TW} {a b : Brk} (ha : stB l a = true) (hb : stB l b = true) (h : befB a b = true) :
    cutL a b l = midsL l (begW a) (begA a) (b.2.1.toNat - begW a) ++ [lastL l (begW a) (begA a) b.2.1.toNat b.2.2.toNat ++ if hyB b = true then [45] else []] := by
  have t := two_of ha hb h
  have e := rows_parts t l.length (Nat.le_refl _)
  have hbw := t.bw
  rw [if_pos (by omega), Nat.min_eq_right (by omega)] at e
  unfold cutL
  rw [e]
  by_cases hy : hyB b = true
  · rw [if_pos ⟨by simp, hy⟩, putH_snoc, if_pos hy]
  · rw [if_neg (fun h => hy h.2), if_neg hy, List.append_nil]
end L17
end Go.Proofs.Ytmmgmcfhlhghoaa

