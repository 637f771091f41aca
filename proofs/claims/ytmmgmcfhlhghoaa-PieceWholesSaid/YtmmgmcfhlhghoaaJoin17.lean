/- Layer 17, plain: what stands on two lines, that are parted at a space. -/
import Derived.Test.YtmmgmcfhlhghoaaPie17
namespace Go.Proofs.Ytmmgmcfhlhghoaa
open Go.RowKit
namespace L17
open L13 (TW tw checkB)
open L16 (Brk befB bef_iff)

theorem cutTo_same {a b a' b' : Brk} {w : Nat} (cs : List Int) : ∀ k, (∀ i, i < k → (behB a w i && aheB b w i) = (behB a' w i && aheB b' w i)) → cutTo a b w cs k = cutTo a' b' w cs k
  | 0, _ => rfl
  | k + 1, h => by rw [cutTo_succ, cutTo_succ, cutTo_same cs k (fun i hi => h i (by omega)), h k (by omega)]
theorem cutTo_none {a b : Brk} {w : Nat} (cs : List Int) : ∀ k, (∀ i, i < k → (behB a w i && aheB b w i) = false) → cutTo a b w cs k = []
  | 0, _ => rfl
  | k + 1, h => by rw [cutTo_succ, cutTo_none cs k (fun i hi => h i (by omega)), h k (by omega)]; rfl
theorem beh_iff {a : Brk} {w i : Nat} : behB a w i = true ↔ a.1 = 0 ∨ a.2.1 < (w : Int) ∨ ((w : Int) = a.2.1 ∧ a.2.2 ≤ (i : Int)) := by simp [behB]
theorem ahe_iff {b : Brk} {w i : Nat} : aheB b w i = true ↔ (w : Int) < b.2.1 ∨ ((w : Int) = b.2.1 ∧ (i : Int) < b.2.2) := by simp [aheB]
theorem and_same {p q r s : Bool} (h : (p = true ∧ q = true) ↔ (r = true ∧ s = true)) : (p && q) = (r && s) := by
  cases p <;> cases q <;> cases r <;> cases s <;> simp_all
theorem and_no {p q : Bool} (h : ¬ (p = true ∧ q = true)) : (p && q) = false := by cases p <;> cases q <;> simp_all
/-- A break between words. -/
structure Mid (l : List TW) (b : Brk) : Prop where
  k : b.1 = 1
  w : 0 ≤ b.2.1
  a : ∀ w : Nat, (w : Int) = b.2.1 → b.2.2 = ((l.getD w ([], [])).1.length : Int)
theorem cut_low {l : List TW} {a b c : Brk} (m : Mid l b) (h2 : befB b c = true) {w : Nat} (hw : (w : Int) ≤ b.2.1) :
    cutW a c w (l.getD w ([], [])).1 = cutW a b w (l.getD w ([], [])).1 ∧ cutW b c w (l.getD w ([], [])).1 = [] := by
  have hb := bef_iff.1 h2
  have hk := m.k
  have ha := m.a w
  generalize (l.getD w ([], [])).1 = cs at *
  refine ⟨cutTo_same cs _ fun i hi => and_same ?_, cutTo_none cs _ fun i hi => and_no ?_⟩
  · rw [beh_iff, ahe_iff, ahe_iff]
    have : ((w : Int) < c.2.1 ∨ (w : Int) = c.2.1 ∧ (i : Int) < c.2.2) ∧ ((w : Int) < b.2.1 ∨ (w : Int) = b.2.1 ∧ (i : Int) < b.2.2) := by omega
    exact ⟨fun h => ⟨h.1, this.2⟩, fun h => ⟨h.1, this.1⟩⟩
  · rw [beh_iff]
    omega
theorem cut_high {l : List TW} {a b c : Brk} (m : Mid l b) (h1 : befB a b = true) {w : Nat} (hw : b.2.1 < (w : Int)) :
    cutW a c w (l.getD w ([], [])).1 = cutW b c w (l.getD w ([], [])).1 ∧ cutW a b w (l.getD w ([], [])).1 = [] := by
  have hb := bef_iff.1 h1
  have hk := m.k
  generalize (l.getD w ([], [])).1 = cs at *
  refine ⟨cutTo_same cs _ fun i hi => and_same ?_, cutTo_none cs _ fun i hi => and_no ?_⟩
  · rw [beh_iff, beh_iff]
    have : (a.1 = 0 ∨ a.2.1 < (w : Int) ∨ (w : Int) = a.2.1 ∧ a.2.2 ≤ (i : Int)) ∧ (b.1 = 0 ∨ b.2.1 < (w : Int) ∨ (w : Int) = b.2.1 ∧ b.2.2 ≤ (i : Int)) := by omega
    exact ⟨fun h => ⟨this.2, h.2⟩, fun h => ⟨this.1, h.2⟩⟩
  · rw [ahe_iff]
    omega
theorem rows_join {l : List TW} {a b c : Brk} (m : Mid l b) (h1 : befB a b = true) (h2 : befB b c = true) : ∀ k : Nat, rowsTo a c l k = rowsTo a b l k ++ rowsTo b c l k ∧ ((k : Int) ≤ b.2.1 + 1 → rowsTo b c l k = [])
  | 0 => ⟨rfl, fun _ => rfl⟩
  | k + 1 => by
    obtain ⟨i1, i2⟩ := rows_join m h1 h2 k
    rw [rowsTo_succ, rowsTo_succ, rowsTo_succ]
    by_cases hk : (k : Int) ≤ b.2.1
    · obtain ⟨e1, e2⟩ := cut_low (a := a) m h2 hk
      rw [e1, e2, if_pos rfl, i1, i2 (by omega)]
      exact ⟨by simp, fun _ => rfl⟩
    · obtain ⟨e1, e2⟩ := cut_high (c := c) m h1 (Int.not_le.1 hk)
      rw [e1, e2, if_pos rfl, i1]
      exact ⟨by simp, fun h => absurd h (by omega)⟩
/-- Where a word ends with a hyphen, something stands. -/
theorem rows_some {b c : Brk} {l : List TW} {w : Nat} (hw : w < l.length) (h0 : 0 < (l.getD w ([], [])).1.length) (hc : (behB b w 0 && aheB c w 0) = true) : rowsTo b c l l.length ≠ [] := by
  have hne : cutW b c w (l.getD w ([], [])).1 ≠ [] := by
    unfold cutW
    obtain ⟨n, hn⟩ : ∃ n, (l.getD w ([], [])).1.length = n + 1 := ⟨_, (Nat.succ_pred_eq_of_pos h0).symm⟩
    rw [hn]
    clear hn h0
    induction n with
    | zero => rw [cutTo_succ, hc]; simp
    | succ n ih => rw [cutTo_succ]; intro e; exact ih (List.append_eq_nil_iff.1 e).1
  unfold rowsTo
  intro e
  have := List.flatMap_eq_nil_iff.1 e w (List.mem_range.2 hw)
  rw [if_neg hne] at this
  exact absurd this (by simp)
theorem bef_trans17 {a b c : Brk} (h1 : befB a b = true) (h2 : befB b c = true) : befB a c = true := by
  rw [bef_iff] at *
  omega
/-- Two lines parted at a space: one. -/
theorem join_pieces {l : List TW} {a b c : Brk} {x y : List (List Int)} (hb : b.1 = 1) (h1 : piA l a b = (x, 0)) (h2 : piA l b c = (y, 0)) : piA l a c = (x ++ y, 0) := by
  unfold piA at *
  split at h1
  · rename_i hc
    rw [if_pos hc] at h2 ⊢
    split at h1
    · rename_i g1
      split at h2
      · rename_i g2
        have g1 := g1
        obtain ⟨sa, sb, a5, ab⟩ := g1
        obtain ⟨_, sc, b5, bc⟩ := g2
        rw [if_pos ⟨sa, sc, a5, bef_trans17 ab bc⟩]
        have hs := sb
        unfold stB placeB at hs
        simp only [hb, Bool.and_eq_true, decide_eq_true_eq, hc, true_and, if_neg (by decide : ¬ (1 : Int) = 0), if_true] at hs
        obtain ⟨w0, w1, w2, w3⟩ := hs
        have m : Mid l b := ⟨hb, w0, fun w hw => by rw [show w = b.2.1.toNat by omega]; exact w3⟩
        obtain ⟨e1, _⟩ := rows_join m ab bc l.length
        have hh : hyB b = false := by simp [hyB, hb]
        unfold cutL at h1 h2 ⊢
        rw [if_neg (by rw [hh]; simp)] at h1
        simp only [Prod.mk.injEq, and_true] at h1 h2 ⊢
        rw [e1, h1]
        cases hy : hyB c with
        | false =>
          rw [hy] at h2
          rw [if_neg (by simp)] at h2 ⊢
          rw [h2]
        | true =>
          have hc2 : c.1 = 2 ∨ c.1 = 3 := by simpa [hyB] using hy
          have hs := sc
          unfold stB placeB at hs
          simp only [Bool.and_eq_true, decide_eq_true_eq, hc, true_and, if_neg (by omega : ¬ c.1 = 0), if_neg (by omega : ¬ c.1 = 1), if_neg (by omega : ¬ c.1 = 5)] at hs
          obtain ⟨v0, v1, _, _, v2, v3⟩ := hs
          have hbc := bef_iff.1 bc
          have hlen := m.a c.2.1.toNat
          have ne : rowsTo b c l l.length ≠ [] := rows_some (w := c.2.1.toNat) (by omega) (by omega) (by
            rw [Bool.and_eq_true, beh_iff, ahe_iff]
            omega)
          rw [hy] at h2
          rw [if_pos ⟨ne, rfl⟩] at h2
          rw [if_pos ⟨by simp [ne], rfl⟩]
          generalize rowsTo b c l l.length = o at *
          obtain ⟨i, z, rfl⟩ : ∃ i z, o = i ++ [z] := ⟨o.dropLast, o.getLast ne, (List.dropLast_concat_getLast ne).symm⟩
          rw [← List.append_assoc, putH_snoc, ← h2, putH_snoc, List.append_assoc]
      · simp at h2
    · simp at h1
  · simp at h1
end L17
end Go.Proofs.Ytmmgmcfhlhghoaa

