/- Layer 17, plain: the words of lines between a paragraph's breaks are the words again. -/
import Derived.Test.YtmmgmcfhlhghoaaGreatDoorGI16
import Derived.Test.YtmmgmcfhlhghoaaGreatDoorPieC17
import Derived.Test.YtmmgmcfhlhghoaaGreatDoorPieB17
namespace Go.Proofs.YtmmgmcfhlhghoaaGreatDoor
open Go.RowKit
namespace L17
open L13 (TW tw checkB wordB sumC)
open L16 (Brk befB bef_iff)

/-! ### One line more -/
def trimA (hy : Bool) (ps : List (List Int)) (k : Nat) : List Int := trimP (decide (k + 1 = ps.length)) hy (ps.getD k [])
theorem lineTo_put {on hy : Bool} {ps o : List (List Int)} (h : ¬ (on = true ∧ o ≠ [])) : ∀ k, lineTo on hy ps o k = o ++ (List.range k).map (trimA hy ps)
  | 0 => by simp [lineTo]
  | k + 1 => by
    rw [lineTo, lineTo_put h k, List.range_succ, List.map_append, add_put, List.append_assoc]
    · rfl
    · rintro ⟨g1, g2⟩
      rw [Bool.and_eq_true, decide_eq_true_eq] at g1
      obtain ⟨rfl, g3⟩ := g1
      exact h ⟨g3, by simpa using g2⟩
theorem lineTo_glue {hy : Bool} {ps i : List (List Int)} {z : List Int} : ∀ k, lineTo true hy ps (i ++ [z]) (k + 1) = i ++ [z ++ trimA hy ps 0] ++ (List.range k).map fun j => trimA hy ps (j + 1)
  | 0 => by rw [lineTo, lineTo]; simp [add_glue, trimA]
  | k + 1 => by
    rw [lineTo, lineTo_glue k, List.range_succ, List.map_append, add_put]
    · simp [trimA]
    · rintro ⟨g1, _⟩
      simp at g1
theorem trimA_line {hy : Bool} {pre : List (List Int)} {x : List Int} {k : Nat} (hk : k ≤ pre.length) :
    trimA hy (pre ++ [x ++ if hy = true then [45] else []]) k = (pre ++ [x]).getD k [] := by
  unfold trimA trimP
  by_cases h : k = pre.length
  · subst h
    cases hy <;> simp
  · have h1 : k < pre.length := by omega
    rw [if_neg (by simp; omega)]
    simp [List.getD, List.getElem?_append_left h1]
theorem range_get {α : Type} (d : α) (l : List α) : (List.range l.length).map (fun k => l.getD k d) = l := by
  apply List.ext_getElem
  · simp
  · intro k h1 h2
    simp [List.getD, show k < l.length from h2]
/-- The words up to a break. -/
def preL (l : List TW) (e : Brk) : List (List Int) := if e.1 = 0 then [] else (l.take e.2.1.toNat).map (·.1) ++ [(l.getD e.2.1.toNat ([], [])).1.take e.2.2.toNat]
theorem take_words (l : List TW) (s : Nat) : ∀ m, s + m ≤ l.length → (l.take s).map (·.1) ++ midsL l s 0 m = (l.take (s + m)).map (·.1)
  | 0, _ => by simp [midsL]
  | m + 1, h => by
    rw [mids_succ, ← List.append_assoc, take_words l s m (by omega), show s + (m + 1) = s + m + 1 by omega, List.take_succ_eq_append_getElem (show s + m < l.length by omega), List.map_append]
    congr 1
    unfold fromW
    have e : l.getD (s + m) ([], []) = l[s + m] := by simp [List.getD, show s + m < l.length by omega]
    rw [e]
    simp
theorem mids_len (l : List TW) (s f m : Nat) : (midsL l s f m).length = m := by simp [midsL]
theorem line_step {l : List TW} {a b : Brk} (ha : stB l a = true) (hb : stB l b = true) (h : befB a b = true) :
    lineTo (onB a) (hyB b) (cutL a b l) (preL l a) (cutL a b l).length = preL l b := by
  have t := two_of ha hb h
  have hcl := cutL_parts ha hb h
  have hW := beg_cases a
  have hbw := t.bw
  have hba := t.ba
  have haw := t.aw
  have haa := t.aa
  have sq := t.sq
  have ft := t.ft
  have a0 := t.a0
  have a1 := t.a1
  have b0 : b.1 ≠ 0 := by
    have := bef_iff.1 h
    omega
  generalize hm : b.2.1.toNat - begW a = m at *
  have hq : b.2.1.toNat = begW a + m := by omega
  have hsl : begW a + m < l.length := by omega
  obtain ⟨ps, hps⟩ : ∃ ps : List (List Int), ps = midsL l (begW a) (begA a) m ++ [lastL l (begW a) (begA a) b.2.1.toNat b.2.2.toNat ++ if hyB b = true then [45] else []] := ⟨_, rfl⟩
  rw [hcl, ← hps]
  have hpl : ps.length = m + 1 := by rw [hps]; simp [mids_len]
  rw [hpl]
  have TR : ∀ k, k ≤ m → trimA (hyB b) ps k = (midsL l (begW a) (begA a) m ++ [lastL l (begW a) (begA a) b.2.1.toNat b.2.2.toNat]).getD k [] := fun k hk => by
    rw [hps]
    exact trimA_line (by rw [mids_len]; exact hk)
  clear hps hpl hcl
  have FIN : preL l b = (l.take (begW a)).map (·.1) ++ (midsL l (begW a) 0 m ++ [lastL l (begW a) 0 b.2.1.toNat b.2.2.toNat]) := by
    unfold preL
    rw [if_neg b0, ← List.append_assoc, take_words l (begW a) m (by omega), ← hq]
    congr 2
    unfold lastL
    simp
  rw [FIN]
  by_cases hon : onB a = true
  · -- inside of a word
    have hk : 2 ≤ a.1 ∧ a.1 ≤ 4 := by simpa [onB] using hon
    have e1 : begW a = a.2.1.toNat := by omega
    have e2 : begA a = a.2.2.toNat := by omega
    have hp : preL l a = (l.take (begW a)).map (·.1) ++ [(l.getD (begW a) ([], [])).1.take (begA a)] := by
      unfold preL
      rw [if_neg (by omega), e1, e2]
    rw [hon, hp, lineTo_glue, TR 0 (by omega), List.append_assoc]
    congr 1
    have hmap : (List.range m).map (fun j => trimA (hyB b) ps (j + 1)) = (List.range m).map fun j => (midsL l (begW a) (begA a) m ++ [lastL l (begW a) (begA a) b.2.1.toNat b.2.2.toNat]).getD (j + 1) [] :=
      List.map_congr_left fun j hj => TR (j + 1) (by have := List.mem_range.1 hj; omega)
    rw [hmap]
    rcases Nat.eq_zero_or_pos m with hm0 | hm0
    · subst hm0
      have hft := ft (by omega)
      simp only [midsL, List.range_zero, List.map_nil, List.nil_append, List.append_nil, List.getD_cons_zero]
      congr 1
      unfold lastL
      rw [hq, Nat.add_zero, if_pos rfl, if_pos rfl, List.drop_zero]
      conv => rhs; rw [← List.take_append_drop (begA a) ((l.getD (begW a) ([], [])).1.take b.2.2.toNat)]
      congr 1
      rw [List.take_take, Nat.min_eq_left (by omega)]
    · obtain ⟨r, rfl⟩ : ∃ r, m = r + 1 := ⟨m - 1, by omega⟩
      have hsplit : ∀ f, midsL l (begW a) f (r + 1) = (l.getD (begW a) ([], [])).1.drop f :: (List.range r).map fun j => fromW l (begW a) 0 (j + 1) := fun f => by
        unfold midsL
        rw [List.range_succ_eq_map, List.map_cons, List.map_map]
        congr 1
      have hl : ∀ f, lastL l (begW a) f b.2.1.toNat b.2.2.toNat = lastL l (begW a) 0 b.2.1.toNat b.2.2.toNat := fun f => by
        unfold lastL
        rw [if_neg (by omega), if_neg (by omega)]
      rw [hl (begA a), hsplit (begA a), hsplit 0]
      generalize hrest : (List.range r).map (fun j => fromW l (begW a) 0 (j + 1)) ++ [lastL l (begW a) 0 b.2.1.toNat b.2.2.toNat] = rest
      have hrl : rest.length = r + 1 := by rw [← hrest]; simp
      simp only [List.cons_append, hrest, List.getD_cons_zero, List.getD_cons_succ, List.drop_zero, List.take_append_drop]
      rw [← hrl, range_get]
      rfl
  · -- behind a word
    have hno : ¬ (onB a = true ∧ preL l a ≠ []) := fun g => hon g.1
    have e2 : begA a = 0 := by
      have hk : ¬ (2 ≤ a.1 ∧ a.1 ≤ 4) := by simpa [onB] using hon
      have hst := (st_parts ha).2.2
      have a5 := t.a5
      omega
    have hp : preL l a = (l.take (begW a)).map (·.1) := by
      have hk : ¬ (2 ≤ a.1 ∧ a.1 ≤ 4) := by simpa [onB] using hon
      have hst := (st_parts ha).2.2
      have a5 := t.a5
      unfold preL
      by_cases h0 : a.1 = 0
      · rw [if_pos h0]
        have := a0 h0
        rw [show begW a = 0 by omega]
        rfl
      · have h1 : a.1 = 1 := by omega
        have h2 := a1 h1
        rw [if_neg h0, show begW a = a.2.1.toNat + 1 by omega, List.take_succ_eq_append_getElem (show a.2.1.toNat < l.length by omega), List.map_append]
        congr 1
        have e : l.getD a.2.1.toNat ([], []) = l[a.2.1.toNat]'(by omega) := by simp [List.getD, show a.2.1.toNat < l.length by omega]
        rw [e] at h2 ⊢
        simp only [List.map_cons, List.map_nil]
        rw [List.take_of_length_le (by omega)]
    rw [lineTo_put hno, hp]
    congr 1
    rw [e2] at TR
    rw [show (List.range (m + 1)).map (trimA (hyB b) ps) = (List.range (m + 1)).map fun k => (midsL l (begW a) 0 m ++ [lastL l (begW a) 0 b.2.1.toNat b.2.2.toNat]).getD k [] from
      List.map_congr_left fun j hj => TR j (by have := List.mem_range.1 hj; omega)]
    have hlen : (midsL l (begW a) 0 m ++ [lastL l (begW a) 0 b.2.1.toNat b.2.2.toNat]).length = m + 1 := by simp [mids_len]
    rw [← hlen, range_get]
end L17
end Go.Proofs.YtmmgmcfhlhghoaaGreatDoor

