/- Layer 16, plain: how many breaks there are of a kind, and which words are parted. -/
import Derived.Test.YtmmgmcfhlhghoaaGreatDoorPara16
import Derived.Test.YtmmgmcfhlhghoaaGreatDoorGC16
namespace Go.Proofs.YtmmgmcfhlhghoaaGreatDoor
open Go.RowKit
namespace L16
open L10 (TN risesB)
open L12 (pointsL)
open L13 (TW tw checkB wordB)
open L14 (LayD mayL)

theorem kind_cases (w : TW) (ps : List Int) (i : Nat) : (kindA w ps i = 3 ∧ (i : Int) ∈ w.2) ∨ ((kindA w ps i = 4 ∨ (kindA w ps i = 2 ∧ (i : Int) ∈ ps) ∨ kindA w ps i = 0) ∧ (i : Int) ∉ w.2) := by
  unfold kindA
  split
  · rename_i h; exact .inl ⟨rfl, h⟩
  · rename_i h
    refine .inr ⟨?_, h⟩
    split
    · exact .inl rfl
    · split
      · rename_i h2; exact .inr (.inl ⟨rfl, h2⟩)
      · exact .inr (.inr rfl)
/-- So many are of a kind. -/
def cntK (k : Int) (l : List Brk) : Nat := l.countP fun b => decide (b.1 = k)
theorem cntK_append (k : Int) (l m : List Brk) : cntK k (l ++ m) = cntK k l + cntK k m := List.countP_append
theorem cntK_one (k : Int) (b : Brk) : cntK k [b] = if b.1 = k then 1 else 0 := by simp [cntK, List.countP_cons]
theorem cntK_nil (k : Int) : cntK k [] = 0 := rfl
theorem cntK_le (k : Int) (l : List Brk) : cntK k l ≤ l.length := List.countP_le_length
theorem cnt_space (w : TW) (ps : List Int) (q n : Nat) : cntK 1 (ofTo w ps q n) = 0 := by
  induction n with
  | zero => rfl
  | succ n ih =>
    rw [ofTo_succ, cntK_append, ih]
    split
    · rw [cntK_one, if_neg]
      dsimp only
      rcases kind_cases w ps n with ⟨e, _⟩ | ⟨e | ⟨e, _⟩ | e, _⟩ <;> rw [e] <;> decide
    · rfl
theorem rises_nodup {n : Int} : ∀ (l : List Int) (least : Int), risesB n least l = true → l.Nodup
  | [], _, _ => List.nodup_nil
  | a :: r, least, h => by
    simp only [risesB, Bool.and_eq_true, decide_eq_true_eq] at h
    refine List.nodup_cons.2 ⟨fun hm => ?_, rises_nodup r (a + 1) h.2⟩
    have := (L10.rises_mem r (a + 1) h.2 a hm).1
    omega
theorem cnt_filter (w : TW) (ps : List Int) (q n : Nat) : cntK 3 (ofTo w ps q n) = ((List.range n).filter fun (i : Nat) => decide (0 < i) && decide ((i : Int) ∈ w.2)).length := by
  induction n with
  | zero => rfl
  | succ n ih =>
    rw [ofTo_succ, cntK_append, ih, List.range_succ, List.filter_append, List.length_append]
    congr 1
    rcases kind_cases w ps n with ⟨e, hm⟩ | ⟨e, hm⟩
    · by_cases h0 : 0 < n
      · rw [if_pos ⟨h0, by rw [e]; decide⟩, cntK_one, if_pos e]
        simp [h0, hm]
      · rw [if_neg (fun h => h0 h.1), cntK_nil]
        simp [h0]
    · have e2 : cntK 3 (if 0 < n ∧ kindA w ps n ≠ 0 then [(kindA w ps n, (q : Int), (n : Int))] else []) = 0 := by
        split
        · rw [cntK_one, if_neg]
          dsimp only
          rcases e with e | ⟨e, _⟩ | e <;> rw [e] <;> decide
        · rfl
      rw [e2]
      simp [hm]
theorem cnt_soft {w : TW} {n : Nat} (ps : List Int) (q : Nat) (h : risesB n 1 w.2 = true) : cntK 3 (ofTo w ps q n) = w.2.length := by
  rw [cnt_filter]
  have hp : (((List.range n).filter fun (i : Nat) => decide (0 < i) && decide ((i : Int) ∈ w.2)).map fun (i : Nat) => (i : Int)).Perm w.2 := by
    refine (List.perm_ext_iff_of_nodup ?_ (rises_nodup _ _ h)).2 fun x => ?_
    · exact List.Pairwise.map _ (fun a b hab => by omega) ((List.nodup_range (n := n)).filter _)
    · simp only [List.mem_map, List.mem_filter, List.mem_range, Bool.and_eq_true, decide_eq_true_eq]
      constructor
      · rintro ⟨i, ⟨_, _, hm⟩, rfl⟩; exact hm
      · intro hm
        have := L10.rises_mem _ _ h x hm
        exact ⟨x.toNat, ⟨by omega, by omega, by rw [Int.toNat_of_nonneg (by omega)]; exact hm⟩, Int.toNat_of_nonneg (by omega)⟩
  have := hp.length_eq
  rwa [List.length_map] at this
/-- So many places say the first words. -/
def sumS (l : List TW) (k : Nat) : Nat := ((l.take k).map fun w => w.2.length).sum
theorem sumS_zero (l : List TW) : sumS l 0 = 0 := rfl
theorem sumS_succ {l : List TW} {k : Nat} (h : k < l.length) : sumS l (k + 1) = sumS l k + (l.getD k ([], [])).2.length := by
  unfold sumS
  rw [List.take_succ_eq_append_getElem h, List.map_append, List.sum_append]
  simp [List.getD, h]
theorem getD_mem {l : List TW} {k : Nat} (h : k < l.length) : l.getD k ([], []) ∈ l := by
  rw [List.getD, List.getElem?_eq_getElem h]; exact List.getElem_mem h
theorem sumS_le {l : List TW} (hw : ∀ w ∈ l, wordB w = true) : ∀ k, k ≤ l.length → sumS l k ≤ k * 60
  | 0, _ => by simp [sumS_zero]
  | k + 1, hk => by
    rw [sumS_succ (by omega)]
    have h1 := hw _ (getD_mem (l := l) (k := k) (by omega))
    simp only [wordB, Bool.and_eq_true, decide_eq_true_eq] at h1
    have h2 := L10.rises_length _ _ h1.2.2 (by omega)
    have h3 := sumS_le hw k (by omega)
    omega
theorem all_spaces (p but : List TN) (lf rg : Int) (parted : Bool) (l : List TW) : ∀ k, k ≤ l.length → cntK 1 (allTo p but lf rg parted l k) = if k = l.length then k - 1 else k
  | 0, _ => by
    rw [allTo_zero, cntK_one, if_neg (by decide)]
    split <;> rfl
  | k + 1, hk => by
    have ih := all_spaces p but lf rg parted l k (by omega)
    rw [if_neg (by omega)] at ih
    rw [allTo_succ, cntK_append, cntK_append, ih, ofW, cnt_space, cntK_one]
    unfold endK
    by_cases h : k + 1 = l.length
    · rw [if_pos h, if_pos h]; simp
    · rw [if_neg h, if_neg h]; simp
theorem all_softs (p but : List TN) (lf rg : Int) (parted : Bool) {l : List TW} (hw : ∀ w ∈ l, wordB w = true) : ∀ k, k ≤ l.length → cntK 3 (allTo p but lf rg parted l k) = sumS l k
  | 0, _ => rfl
  | k + 1, hk => by
    have ih := all_softs p but lf rg parted hw k (by omega)
    have h1 := hw _ (getD_mem (l := l) (k := k) (by omega))
    simp only [wordB, Bool.and_eq_true, decide_eq_true_eq] at h1
    rw [allTo_succ, cntK_append, cntK_append, ih, ofW, cnt_soft _ _ h1.2.2, cntK_one, sumS_succ (by omega), if_neg]
    · rfl
    · unfold endK; dsimp only; split <;> decide
/-- A parted word says no places. -/
theorem of_parted {p but : List TN} {lf rg : Int} {w : TW} {parted : Bool} {q : Nat} {n : Nat} {b : Brk} (h : b ∈ ofTo w (pointsW p but lf rg w parted) q n) (hk : b.1 = 2) : b.2.1 = (q : Int) ∧ w.2 = [] ∧ parted = true := by
  unfold ofTo at h
  obtain ⟨i, _, hi⟩ := List.mem_flatMap.1 h
  split at hi
  · rw [List.mem_singleton] at hi
    subst hi
    refine ⟨rfl, ?_⟩
    have hk : kindA w (pointsW p but lf rg w parted) i = 2 := hk
    rcases kind_cases w (pointsW p but lf rg w parted) i with ⟨e, _⟩ | ⟨e | ⟨e, hm⟩ | e, _⟩
    · rw [e] at hk; exact absurd hk (by decide)
    · rw [e] at hk; exact absurd hk (by decide)
    · unfold pointsW at hm
      split at hm
      · rename_i h2; exact ⟨h2.2, h2.1⟩
      · simp at hm
    · rw [e] at hk; exact absurd hk (by decide)
  · simp at hi
theorem all_mem {p but : List TN} {lf rg : Int} {parted : Bool} {l : List TW} {k : Nat} {b : Brk} (h : b ∈ allTo p but lf rg parted l k) : b = (0, 0, 0) ∨ ∃ j, j < k ∧ (b ∈ ofW p but lf rg (l.getD j ([], [])) parted j ∨ b = (endK l.length j, (j : Int), ((l.getD j ([], [])).1.length : Int))) := by
  unfold allTo at h
  rcases List.mem_cons.1 h with h | h
  · exact .inl h
  · obtain ⟨j, hj, hb⟩ := List.mem_flatMap.1 h
    refine .inr ⟨j, List.mem_range.1 hj, ?_⟩
    unfold wordA at hb
    rcases List.mem_append.1 hb with hb | hb
    · exact .inl hb
    · exact .inr (List.mem_singleton.1 hb)
theorem all_parted {p but : List TN} {lf rg : Int} {parted : Bool} {l : List TW} {b : Brk} (h : b ∈ allL p but lf rg parted l) (hk : b.1 = 2) : ∃ j, j < l.length ∧ b.2.1 = (j : Int) ∧ (l.getD j ([], [])).2 = [] ∧ parted = true := by
  rcases all_mem h with rfl | ⟨j, hj, hb | rfl⟩
  · exact absurd hk (by decide)
  · have := of_parted hb hk
    exact ⟨j, hj, this.1, this.2.1, this.2.2⟩
  · dsimp only [endK] at hk
    split at hk <;> exact absurd hk (by decide)
end L16
end Go.Proofs.YtmmgmcfhlhghoaaGreatDoor

