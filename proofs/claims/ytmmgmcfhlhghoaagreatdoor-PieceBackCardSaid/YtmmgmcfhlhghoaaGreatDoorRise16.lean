/- Layer 16, plain: breaks stand each before the next one; those but the parted ones. -/
import Derived.Test.YtmmgmcfhlhghoaaGreatDoorCount16
import Derived.Test.YtmmgmcfhlhghoaaGreatDoorRef16
namespace Go.Proofs.YtmmgmcfhlhghoaaGreatDoor
open Go.RowKit
namespace L16
open L10 (TN risesB)
open L12 (pointsL)
open L13 (TW tw checkB wordB)
open L14 (LayD mayL)

theorem rise_of_mem {w : TW} {ps : List Int} {q n : Nat} {b : Brk} (h : b ∈ ofTo w ps q n) : ∃ i, 0 < i ∧ i < n ∧ b = (kindA w ps i, (q : Int), (i : Int)) ∧ (b.1 = 2 ∨ b.1 = 3 ∨ b.1 = 4) := by
  unfold ofTo at h
  obtain ⟨i, hi, hb⟩ := List.mem_flatMap.1 h
  split at hb
  · rename_i hk
    rw [List.mem_singleton] at hb
    subst hb
    refine ⟨i, hk.1, List.mem_range.1 hi, rfl, ?_⟩
    show kindA w ps i = 2 ∨ kindA w ps i = 3 ∨ kindA w ps i = 4
    rcases kind_cases w ps i with ⟨e, _⟩ | ⟨e | ⟨e, _⟩ | e, _⟩
    · exact .inr (.inl e)
    · exact .inr (.inr e)
    · exact .inl e
    · exact absurd e hk.2
  · simp at hb
theorem rise_of_rises (w : TW) (ps : List Int) (q : Nat) : ∀ n, (ofTo w ps q n).Pairwise fun a b => befB a b = true
  | 0 => List.Pairwise.nil
  | n + 1 => by
    rw [ofTo_succ, List.pairwise_append]
    refine ⟨rise_of_rises w ps q n, ?_, fun a ha b hb => ?_⟩
    · split
      · exact List.pairwise_singleton _ _
      · exact List.Pairwise.nil
    · obtain ⟨i, _, hi, ea, ka⟩ := rise_of_mem ha
      split at hb
      · rename_i hk
        rw [List.mem_singleton] at hb
        rw [bef_iff]
        refine .inr ⟨by omega, by rw [hb]; exact hk.2, .inr ?_⟩
        rw [ea, hb]
        exact ⟨rfl, by dsimp only; omega⟩
      · simp at hb
theorem endK_ne (n i : Nat) : endK n i ≠ 0 := by unfold endK; split <;> decide
theorem rise_word_rises (p but : List TN) (lf rg : Int) (parted : Bool) (n i : Nat) (w : TW) : (wordA p but lf rg parted n i w).Pairwise fun a b => befB a b = true := by
  unfold wordA
  rw [List.pairwise_append]
  refine ⟨rise_of_rises _ _ _ _, List.pairwise_singleton _ _, fun a ha b hb => ?_⟩
  obtain ⟨j, _, hj, ea, ka⟩ := rise_of_mem ha
  rw [List.mem_singleton] at hb
  rw [bef_iff]
  refine .inr ⟨by omega, by rw [hb]; exact endK_ne _ _, .inr ?_⟩
  rw [ea, hb]
  exact ⟨rfl, by dsimp only; omega⟩
theorem rise_mem {p but : List TN} {lf rg : Int} {parted : Bool} {n i : Nat} {w : TW} {b : Brk} (h : b ∈ wordA p but lf rg parted n i w) : b.1 ≠ 0 ∧ b.2.1 = (i : Int) ∧ 0 ≤ b.2.2 ∧ b.2.2 ≤ (w.1.length : Int) ∧ (b.1 = 5 → i + 1 = n) := by
  unfold wordA at h
  rcases List.mem_append.1 h with h | h
  · obtain ⟨j, _, hj, e, k⟩ := rise_of_mem h
    refine ⟨by omega, by rw [e], by rw [e]; dsimp only; omega, by rw [e]; dsimp only; omega, fun h5 => by omega⟩
  · rw [List.mem_singleton] at h
    subst h
    refine ⟨endK_ne _ _, rfl, by dsimp only; omega, Int.le_refl _, fun h5 => ?_⟩
    dsimp only [endK] at h5
    split at h5
    · assumption
    · exact absurd h5 (by decide)
theorem flat_rises (p but : List TN) (lf rg : Int) (parted : Bool) (l : List TW) (n : Nat) : ∀ k, ((List.range k).flatMap fun i => wordA p but lf rg parted n i (l.getD i ([], []))).Pairwise fun a b => befB a b = true
  | 0 => List.Pairwise.nil
  | k + 1 => by
    rw [List.range_succ, List.flatMap_append, List.pairwise_append]
    refine ⟨flat_rises p but lf rg parted l n k, ?_, fun a ha b hb => ?_⟩
    · simpa using rise_word_rises p but lf rg parted n k (l.getD k ([], []))
    · obtain ⟨i, hi, ha⟩ := List.mem_flatMap.1 ha
      have hb : b ∈ wordA p but lf rg parted n k (l.getD k ([], [])) := by simpa using hb
      have h1 := rise_mem ha
      have h2 := rise_mem hb
      have hik := List.mem_range.1 hi
      rw [bef_iff]
      exact .inr ⟨h1.1, h2.1, .inl (by omega)⟩
/-- Each stands before all behind it. -/
theorem all_rises (p but : List TN) (lf rg : Int) (parted : Bool) (l : List TW) : (allL p but lf rg parted l).Pairwise fun a b => befB a b = true := by
  unfold allL allTo
  refine List.pairwise_cons.2 ⟨fun b hb => ?_, flat_rises p but lf rg parted l _ _⟩
  obtain ⟨i, _, hb⟩ := List.mem_flatMap.1 hb
  rw [bef_iff]
  exact .inl ⟨rfl, (rise_mem hb).1⟩
/-- Where each stands. -/
theorem all_where {p but : List TN} {lf rg : Int} {parted : Bool} {l : List TW} {b : Brk} (h : b ∈ allL p but lf rg parted l) (h1 : 1 ≤ l.length) : ∃ j, j < l.length ∧ b.2.1 = (j : Int) ∧ 0 ≤ b.2.2 ∧ b.2.2 ≤ ((l.getD j ([], [])).1.length : Int) := by
  unfold allL allTo at h
  rcases List.mem_cons.1 h with rfl | h
  · exact ⟨0, h1, rfl, Int.le_refl _, by dsimp only; omega⟩
  · obtain ⟨j, hj, hb⟩ := List.mem_flatMap.1 h
    have := rise_mem hb
    exact ⟨j, List.mem_range.1 hj, this.2.1, this.2.2.1, this.2.2.2.1⟩
/-- The last one, and those ahead of it. -/
theorem all_last (p but : List TN) (lf rg : Int) (parted : Bool) {l : List TW} (h1 : 1 ≤ l.length) : ∃ pre e, allL p but lf rg parted l = pre ++ [e] ∧ e.1 = 5 ∧ ∀ b ∈ pre, b.1 ≠ 5 := by
  obtain ⟨k, hk⟩ : ∃ k, l.length = k + 1 := ⟨l.length - 1, by omega⟩
  refine ⟨_, _, by unfold allL; rw [hk, allTo_succ], by dsimp only [endK]; rw [hk, if_pos rfl], fun b hb => ?_⟩
  rcases List.mem_append.1 hb with hb | hb
  · unfold allTo at hb
    rcases List.mem_cons.1 hb with rfl | hb
    · decide
    · obtain ⟨j, hj, hb⟩ := List.mem_flatMap.1 hb
      intro h5
      have := (rise_mem hb).2.2.2.2 h5
      have := List.mem_range.1 hj
      omega
  · obtain ⟨i, _, _, _, k3⟩ := rise_of_mem hb
    omega
/-- No parted word. -/
def plainK (l : List Brk) : List Brk := l.filter fun b => decide (b.1 ≠ 2)
theorem plain_append (l m : List Brk) : plainK (l ++ m) = plainK l ++ plainK m := List.filter_append _ _
theorem of_plain (w : TW) (ps : List Int) (q : Nat) : ∀ n, plainK (ofTo w ps q n) = ofTo w [] q n
  | 0 => rfl
  | n + 1 => by
    rw [ofTo_succ, ofTo_succ, plain_append, of_plain w ps q n]
    congr 1
    have hk : kindA w ps n = kindA w [] n ∨ (kindA w ps n = 2 ∧ kindA w [] n = 0) := by
      unfold kindA
      split
      · exact .inl rfl
      · split
        · exact .inl rfl
        · split
          · exact .inr ⟨rfl, by simp⟩
          · exact .inl (by simp)
    have hn : kindA w [] n ≠ 2 := by
      rcases kind_cases w [] n with ⟨e, _⟩ | ⟨e | ⟨e, hm⟩ | e, _⟩
      · rw [e]; decide
      · rw [e]; decide
      · simp at hm
      · rw [e]; decide
    by_cases h0 : 0 < n
    · rcases hk with e | ⟨e1, e2⟩
      · rw [e]
        by_cases hz : kindA w [] n = 0
        · rw [if_neg (fun h => h.2 hz)]; rfl
        · rw [if_pos ⟨h0, hz⟩]; simp [plainK, hn]
      · rw [e1, e2, if_pos ⟨h0, by decide⟩, if_neg (fun h => h.2 rfl)]; rfl
    · rw [if_neg (fun h => h0 h.1), if_neg (fun h => h0 h.1)]; rfl
theorem all_plain (p but : List TN) (lf rg : Int) (l : List TW) : ∀ k, plainK (allTo p but lf rg true l k) = allTo p but lf rg false l k
  | 0 => rfl
  | k + 1 => by
    have e1 : pointsW p but lf rg (l.getD k ([], [])) false = [] := by unfold pointsW; rw [if_neg (fun h => by simp at h)]
    rw [allTo_succ, allTo_succ, plain_append, plain_append, all_plain p but lf rg l k, ofW, ofW, of_plain, e1]
    congr 1
    have : endK l.length k ≠ 2 := by unfold endK; split <;> decide
    simp [plainK, this]
theorem all_more (p but : List TN) (lf rg : Int) (parted : Bool) (l : List TW) : ∀ k, k < (allTo p but lf rg parted l k).length
  | 0 => by simp [allTo]
  | k + 1 => by
    have := all_more p but lf rg parted l k
    rw [allTo_succ, List.length_append, List.length_append, List.length_singleton]
    omega
/-- What is answered without parted words, where with them it is no error. -/
theorem brks_plain {p but : List TN} {L : LayD} {l : List TW} (h1 : checkB l = true) (h2 : mayL L = true) (h3 : (allL p but (L.v 7) (L.v 8) true l).length ≤ 200) : brksA p but L l false = (plainK (allL p but (L.v 7) (L.v 8) true l), 0) := by
  have e := all_plain p but (L.v 7) (L.v 8) l l.length
  have hl : (allL p but (L.v 7) (L.v 8) false l).length ≤ 200 := by
    unfold allL
    rw [← e]
    exact Nat.le_trans (List.length_filter_le _ _) h3
  rcases brks_cases p but L l false with ⟨h, _⟩ | ⟨_, h, _⟩ | ⟨_, _, h, _⟩ | ⟨_, _, _, h⟩
  · rw [h1] at h; cases h
  · rw [h2] at h; cases h
  · omega
  · rw [h]
    unfold allL
    rw [e]
end L16
end Go.Proofs.YtmmgmcfhlhghoaaGreatDoor

