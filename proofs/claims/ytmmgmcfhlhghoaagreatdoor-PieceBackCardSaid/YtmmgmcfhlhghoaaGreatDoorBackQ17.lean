/- Layer 17, plain: all lines of a paragraph; how much they hold. -/
import Derived.Test.YtmmgmcfhlhghoaaGreatDoorBackP17
namespace Go.Proofs.YtmmgmcfhlhghoaaGreatDoor
open Go.RowKit
namespace L17
open L13 (TW tw checkB wordB sumC)
open L16 (Brk befB bef_iff)

theorem whTo_app (ls xs : List (List (List Int))) (es ys : List Brk) : ∀ k, k ≤ ls.length → k ≤ es.length → whTo (ls ++ xs) (es ++ ys) k = whTo ls es k
  | 0, _, _ => rfl
  | k + 1, h1, h2 => by
    have e1 : (ls ++ xs).getD k [] = ls.getD k [] := by simp [List.getD, List.getElem?_append_left (show k < ls.length from h1)]
    have e2 : (es ++ ys).getD k (0, 0, 0) = es.getD k (0, 0, 0) := by simp [List.getD, List.getElem?_append_left (show k < es.length from h2)]
    rw [whTo, whTo, whTo_app ls xs es ys k (by omega) (by omega), e1, e2]
theorem whTo_next {ls : List (List (List Int))} {es : List Brk} (x : List (List Int)) (e : Brk) (h : ls.length = es.length) :
    whTo (ls ++ [x]) (es ++ [e]) (ls.length + 1) = (lineTo (whTo ls es ls.length).2 (hyB e) x (whTo ls es ls.length).1 x.length, onB e) := by
  have e1 : (ls ++ [x]).getD ls.length [] = x := by simp [List.getD]
  have e2 : (es ++ [e]).getD ls.length (0, 0, 0) = e := by simp [List.getD, h]
  rw [whTo, whTo_app ls [x] es [e] ls.length (Nat.le_refl _) (by omega), e1, e2]
/-- The lines so far, up to a break. -/
structure Upto (l : List TW) (ls : List (List (List Int))) (es : List Brk) (a : Brk) : Prop where
  len : ls.length = es.length
  wh : whTo ls es ls.length = (preL l a, onB a)
  sz : szL ls ≤ 600 * ls.length
theorem upto_start (l : List TW) : Upto l [] [] (0, 0, 0) := ⟨rfl, rfl, Nat.le_refl _⟩
/-- How much a line holds. -/
theorem rows_sz (a b : Brk) (l : List TW) : ∀ k, k ≤ l.length → szP (rowsTo a b l k) ≤ szP ((l.take k).map (·.1))
  | 0, _ => by simp [rowsTo, szP]
  | k + 1, h => by
    have ih := rows_sz a b l k (by omega)
    have e : l.getD k ([], []) = l[k] := by simp [List.getD, show k < l.length from h]
    rw [rowsTo_succ, szP_append, List.take_succ_eq_append_getElem (show k < l.length from h), List.map_append, szP_append, e]
    have h1 := cutW_len a b k l[k].1
    split
    · rw [show szP [] = 0 from rfl]; omega
    · rw [szP_one, List.map_cons, List.map_nil, szP_one]; omega
theorem words_sz : ∀ l : List TW, szP (l.map (·.1)) = sumC l + l.length
  | [] => rfl
  | w :: l => by
    have ih := words_sz l
    simp only [szP, sumC, List.map_cons, List.sum_cons, List.length_cons] at *
    omega
theorem putH_sz (o : List (List Int)) (h : o ≠ []) : szP (putH o) = szP o + 1 := by
  obtain ⟨i, z, rfl⟩ : ∃ i z, o = i ++ [z] := ⟨o.dropLast, o.getLast h, (List.dropLast_concat_getLast h).symm⟩
  rw [putH_snoc, szP_append, szP_append, szP_one, szP_one, List.length_append]
  simp only [List.length_singleton]
  omega
theorem cut_sz {l : List TW} (a b : Brk) (hc : checkB l = true) : szP (cutL a b l) ≤ 600 := by
  have h1 := rows_sz a b l l.length (Nat.le_refl _)
  rw [List.take_length, words_sz] at h1
  simp only [checkB, Bool.and_eq_true, decide_eq_true_eq] at hc
  unfold cutL
  split
  · rename_i h
    rw [putH_sz _ h.1]
    omega
  · omega
theorem rows_full (a b : Brk) (l : List TW) : ∀ k, ∀ x ∈ rowsTo a b l k, x ≠ []
  | 0, x, hx => by simp [rowsTo] at hx
  | k + 1, x, hx => by
    rw [rowsTo_succ] at hx
    rcases List.mem_append.1 hx with hx | hx
    · exact rows_full a b l k x hx
    · split at hx
      · simp at hx
      · rename_i h
        rw [List.mem_singleton.1 hx]
        exact h
theorem cut_full (a b : Brk) (l : List TW) : ∀ x ∈ cutL a b l, x ≠ [] := by
  intro x hx
  unfold cutL at hx
  split at hx
  · rename_i h
    generalize ho : rowsTo a b l l.length = o at *
    obtain ⟨i, z, rfl⟩ : ∃ i z, o = i ++ [z] := ⟨o.dropLast, o.getLast h.1, (List.dropLast_concat_getLast h.1).symm⟩
    rw [putH_snoc] at hx
    rcases List.mem_append.1 hx with hx | hx
    · exact rows_full a b l l.length x (by rw [ho]; exact List.mem_append_left _ hx)
    · rw [List.mem_singleton.1 hx]; simp
  · exact rows_full a b l l.length x hx
/-- One line more. -/
structure Line (l : List TW) (a b : Brk) (x : List (List Int)) : Prop where
  pi : piA l a b = (x, 0)
  some : x ≠ []
  full : ∀ y ∈ x, y ≠ []
  long : x.length ≤ 600
  up : ∀ ls es, Upto l ls es a → Upto l (ls ++ [x]) (es ++ [b]) b
theorem line_any {l : List TW} {a b : Brk} (ha : stB l a = true) (hb : stB l b = true) (h : befB a b = true) : Line l a b (cutL a b l) := by
  have hc := (st_parts ha).1
  have s := cut_sz a b hc
  refine ⟨piA_yes hc (by have := ha; rw [stB_eq, hc] at this; exact this) (by have := hb; rw [stB_eq, hc] at this; exact this) h, by rw [cutL_parts ha hb h]; simp, cut_full a b l, Nat.le_trans (szP_len _) s, fun ls es u => ⟨by simp [u.len], ?_, ?_⟩⟩
  · rw [List.length_append, List.length_singleton, whTo_next _ _ u.len, u.wh, line_step ha hb h]
  · rw [szL_append, szL_one, List.length_append, List.length_singleton]
    have := u.sz
    omega
/-- All lines. -/
theorem upto_end {l : List TW} {ls : List (List (List Int))} {es : List Brk} {e : Brk} (he : stB l e = true) (h5 : e.1 = 5) (u : Upto l ls es e) : whL ls es = l.map (·.1) := by
  unfold whL
  rw [show min ls.length es.length = ls.length by have := u.len; omega, u.wh]
  have hst := (st_parts he).2
  unfold preL
  dsimp only
  rw [if_neg (by omega)]
  have hq : e.2.1.toNat + 1 = l.length := by omega
  have hlt : e.2.1.toNat < l.length := by omega
  have e1 : l.getD e.2.1.toNat ([], []) = l[e.2.1.toNat] := by simp [List.getD, hlt]
  rw [e1]
  have e2 : l[e.2.1.toNat].1.take e.2.2.toNat = l[e.2.1.toNat].1 := List.take_of_length_le (by
    have h2 := hst.2
    rw [e1] at h2
    omega)
  rw [e2]
  have e3 := congrArg (List.map (·.1)) (List.take_succ_eq_append_getElem hlt)
  rw [List.map_append, hq, List.take_length] at e3
  exact e3.symm
end L17
end Go.Proofs.YtmmgmcfhlhghoaaGreatDoor

