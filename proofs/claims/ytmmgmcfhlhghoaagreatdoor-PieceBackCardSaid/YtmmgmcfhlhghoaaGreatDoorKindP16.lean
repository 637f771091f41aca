/- Layer 16, plain: a word's places as a function of the place, step by step; a list sorted by the place. -/
import Derived.Test.YtmmgmcfhlhghoaaGreatDoorPara16
namespace Go.Proofs.YtmmgmcfhlhghoaaGreatDoor
open Go.RowKit
namespace L16
open L10 (TN)
open L12 (pointsL mayB placesL coreL coreN)
open L13 (TW)
open L14 (LayD mayL)

theorem may_left {L : LayD} (h : mayL L = true) : 0 ≤ L.v 7 := by
  simp only [mayL, Bool.and_eq_true, List.all_eq_true] at h
  have h4 := h.2 (4, 0) (by simp [L14.seqN])
  simp only [L14.okL, List.all_eq_true] at h4
  have h5 := h4 0 (List.mem_range.2 (L14.cntK_small 4).1)
  simp only [L14.okN, Bool.and_eq_true, decide_eq_true_eq] at h5
  have h6 : (0 : Int) ≤ L14.loK (L.v 0) 4 0 := by simp [L14.loK]
  exact Int.le_trans h6 h5.1
theorem pts_in {p but : List TN} {u : List Int} {L : LayD} (h : mayL L = true) {v : Int} (hv : v ∈ pointsL p but u (L.v 7) (L.v 8)) : 0 ≤ v ∧ v ≤ u.length := by
  have h7 := may_left h
  have hc := L12.core_in u
  unfold pointsL at hv
  split at hv
  · obtain ⟨x, hx, rfl⟩ := List.mem_map.1 hv
    have hm := (List.mem_filter.1 hx).2
    simp only [mayB, Bool.and_eq_true, decide_eq_true_eq] at hm
    omega
  · simp at hv

theorem pts_len {p but : List TN} {u : List Int} {lf rg : Int} (h : ∀ x ∈ but, x.2.length ≤ 900000) : (pointsL p but u lf rg).length ≤ 900100 := by
  unfold pointsL
  split
  · rw [List.length_map]
    refine Nat.le_trans (List.length_filter_le _ _) ?_
    unfold placesL
    split
    · rename_i x hx
      have := h x (List.mem_of_find?_eq_some hx)
      omega
    · have h1 := L12.core_most u
      unfold L12.oddL
      rw [List.length_map]
      refine Nat.le_trans (List.length_filter_le _ _) ?_
      rw [List.length_range]
      omega
  · simp
theorem rises_most {n : Int} : ∀ (l : List Int) (least : Int), L10.risesB n least l = true → least ≤ n → (l.length : Int) ≤ n - least
  | [], least, _, h => by simp; omega
  | a :: r, least, h, hl => by
    simp only [L10.risesB, Bool.and_eq_true, decide_eq_true_eq] at h
    have := rises_most r (a + 1) h.2 (by omega)
    simp only [List.length_cons]
    omega
theorem word_parts {x : TW} (h : L13.wordB x = true) : 1 ≤ x.1.length ∧ x.1.length ≤ 60 ∧ (∀ s ∈ x.2, 1 ≤ s ∧ s < x.1.length) ∧ x.2.length ≤ 60 := by
  simp only [L13.wordB, Bool.and_eq_true, decide_eq_true_eq] at h
  have := rises_most x.2 1 h.2.2 (by omega)
  exact ⟨h.1.1, h.1.2, L10.rises_mem x.2 1 h.2.2, by omega⟩

def fP (ps : List Int) (k : Nat) (y : Int) : Option Int := if y ∈ ps.take k then some 2 else none
def fD (cs : List Int) (f : Int → Option Int) (k : Nat) (y : Int) : Option Int := if 0 < y ∧ y ≤ k ∧ cs.getD (y.toNat - 1) 0 = 45 then some 4 else f y
def fS (ss : List Int) (f : Int → Option Int) (k : Nat) (y : Int) : Option Int := if y ∈ ss.take k then some 3 else f y
theorem fP_succ {ps : List Int} {k : Nat} (hk : k < ps.length) (y : Int) : fP ps (k + 1) y = if y = ps[k] then some 2 else fP ps k y := by
  unfold fP
  rw [List.take_succ_eq_append_getElem hk]
  simp only [List.mem_append, List.mem_singleton]
  by_cases e : y = ps[k]
  · rw [if_pos (.inr e), if_pos e]
  · simp only [e, or_false, if_false]
theorem fS_succ {ss : List Int} {f : Int → Option Int} {k : Nat} (hk : k < ss.length) (y : Int) : fS ss f (k + 1) y = if y = ss[k] then some 3 else fS ss f k y := by
  unfold fS
  rw [List.take_succ_eq_append_getElem hk]
  simp only [List.mem_append, List.mem_singleton]
  by_cases e : y = ss[k]
  · rw [if_pos (.inr e), if_pos e]
  · simp only [e, or_false, if_false]
theorem getD_at {cs : List Int} {k : Nat} (hk : k < cs.length) : cs.getD k 0 = cs[k] := by simp [List.getD, hk]
theorem fP_zero (ps : List Int) (y : Int) : fP ps 0 y = none := by simp [fP]
theorem fS_zero (ss : List Int) (f : Int → Option Int) (y : Int) : fS ss f 0 y = f y := by simp [fS]
theorem fD_zero (cs : List Int) (f : Int → Option Int) (y : Int) : fD cs f 0 y = f y := by
  unfold fD
  rw [if_neg (by omega)]
theorem fD_dash {cs : List Int} {f : Int → Option Int} {k : Nat} (hk : k < cs.length) (h : cs[k] = 45) (y : Int) : fD cs f (k + 1) y = if y = (k : Int) + 1 then some 4 else fD cs f k y := by
  unfold fD
  by_cases e : y = (k : Int) + 1
  · rw [if_pos e, if_pos ⟨by omega, by omega, by rw [show y.toNat - 1 = k by omega, getD_at hk]; exact h⟩]
  · rw [if_neg e]
    by_cases e2 : 0 < y ∧ y ≤ k ∧ cs.getD (y.toNat - 1) 0 = 45
    · rw [if_pos e2, if_pos ⟨e2.1, by omega, e2.2.2⟩]
    · rw [if_neg e2, if_neg fun h2 => e2 ⟨h2.1, by omega, h2.2.2⟩]
theorem fD_not {cs : List Int} {f : Int → Option Int} {k : Nat} (hk : k < cs.length) (h : cs[k] ≠ 45) (y : Int) : fD cs f (k + 1) y = fD cs f k y := by
  unfold fD
  by_cases e2 : 0 < y ∧ y ≤ k ∧ cs.getD (y.toNat - 1) 0 = 45
  · rw [if_pos e2, if_pos ⟨e2.1, by omega, e2.2.2⟩]
  · rw [if_neg e2, if_neg fun h2 => e2 ⟨h2.1, by
      by_cases e : y = (k : Int) + 1
      · exact absurd (by rw [← h2.2.2, show y.toNat - 1 = k by omega, getD_at hk]) h
      · omega, h2.2.2⟩]
/-- The kinds of a word's places: e behind the last code. -/
def tgtF (w : TW) (ps : List Int) (e : Int) (y : Int) : Option Int := if y = w.1.length then some e else if 0 < y ∧ y < w.1.length ∧ kindA w ps y.toNat ≠ 0 then some (kindA w ps y.toNat) else none
def allF (w : TW) (ps : List Int) (y : Int) : Option Int := fS w.2 (fD w.1 (fP ps ps.length) w.1.length) w.2.length y
theorem tgt_eq {w : TW} {ps : List Int} (e : Int) (hs : ∀ s ∈ w.2, 1 ≤ s ∧ s < w.1.length) (hp : ∀ v ∈ ps, 0 ≤ v ∧ v ≤ w.1.length) (y : Int) :
    tgtF w ps e y = if y = w.1.length then some e else if y = 0 then none else allF w ps y := by
  unfold tgtF
  by_cases h1 : y = w.1.length
  · rw [if_pos h1, if_pos h1]
  · rw [if_neg h1, if_neg h1]
    by_cases h0 : y = 0
    · rw [if_pos h0, if_neg (by omega)]
    · rw [if_neg h0]
      unfold allF fS fD fP kindA
      rw [List.take_length, List.take_length]
      by_cases hy : 0 < y ∧ y < w.1.length
      · rw [show ((y.toNat : Nat) : Int) = y by omega]
        by_cases k1 : y ∈ w.2
        · simp [k1, hy]
        · by_cases k2 : w.1.getD (y.toNat - 1) 0 = 45
          · have k3 : y ≤ (w.1.length : Int) := by omega
            simp only [k1, k2, if_false, if_true, hy, k3, and_true, true_and, ne_eq]
            simp
          · by_cases k4 : y ∈ ps
            · simp only [k1, k2, k4, if_false, if_true, hy, and_false, true_and, ne_eq]
              simp
            · simp only [k1, k2, k4, if_false, hy, and_false, ne_eq, not_true_eq_false]
      · have k1 : y ∉ w.2 := fun h => hy (by have := hs y h; omega)
        have k4 : y ∉ ps := fun h => by have := hp y h; omega
        rw [if_neg (fun h => hy ⟨h.1, h.2.1⟩), if_neg k1, if_neg (fun h => by omega), if_neg k4]

/-! ### What they are, in order -/
def wordL (w : TW) (ps : List Int) (q : Nat) (e : Int) : List Brk := ofTo w ps q w.1.length ++ [(e, (q : Int), (w.1.length : Int))]
theorem of_mem {w : TW} {ps : List Int} {q n : Nat} {b : Brk} : b ∈ ofTo w ps q n ↔ ∃ i : Nat, 0 < i ∧ i < n ∧ kindA w ps i ≠ 0 ∧ b = (kindA w ps i, (q : Int), (i : Int)) := by
  unfold ofTo
  rw [List.mem_flatMap]
  constructor
  · rintro ⟨i, hi, hb⟩
    split at hb
    · rename_i h
      exact ⟨i, h.1, List.mem_range.1 hi, h.2, by simpa using hb⟩
    · simp at hb
  · rintro ⟨i, h0, hn, hk, rfl⟩
    exact ⟨i, List.mem_range.2 hn, by rw [if_pos ⟨h0, hk⟩]; simp⟩
theorem of_rises (w : TW) (ps : List Int) (q n : Nat) : (ofTo w ps q n).Pairwise fun a b => a.2.2 < b.2.2 := by
  induction n with
  | zero => exact List.Pairwise.nil
  | succ n ih =>
    rw [ofTo_succ, List.pairwise_append]
    refine ⟨ih, by split <;> simp, fun a ha b hb => ?_⟩
    obtain ⟨i, _, hi, _, rfl⟩ := of_mem.1 ha
    split at hb
    · obtain rfl := List.mem_singleton.1 hb
      show (i : Int) < (n : Int)
      omega
    · simp at hb
theorem word_rises (w : TW) (ps : List Int) (q : Nat) (e : Int) : (wordL w ps q e).Pairwise fun a b => a.2.2 < b.2.2 := by
  unfold wordL
  rw [List.pairwise_append]
  refine ⟨of_rises w ps q _, List.pairwise_singleton _ _, fun a ha b hb => ?_⟩
  obtain ⟨i, _, hi, _, rfl⟩ := of_mem.1 ha
  obtain rfl := List.mem_singleton.1 hb
  show (i : Int) < (w.1.length : Int)
  omega
theorem word_mem {w : TW} {ps : List Int} {q : Nat} {e : Int} {b : Brk} : b ∈ wordL w ps q e ↔ b.2.1 = q ∧ tgtF w ps e b.2.2 = some b.1 := by
  unfold wordL tgtF
  rw [List.mem_append, List.mem_singleton, of_mem]
  obtain ⟨k, r, y⟩ := b
  dsimp only
  constructor
  · rintro (⟨i, h0, hn, hk, h⟩ | h)
    · simp only [Prod.mk.injEq] at h
      obtain ⟨rfl, rfl, rfl⟩ := h
      refine ⟨rfl, ?_⟩
      rw [if_neg (by omega), if_pos ⟨by omega, by omega, by simpa using hk⟩]
      simp
    · simp only [Prod.mk.injEq] at h
      obtain ⟨rfl, rfl, rfl⟩ := h
      exact ⟨rfl, if_pos rfl⟩
  · rintro ⟨rfl, h⟩
    split at h
    · rename_i hy
      simp only [Option.some.injEq] at h
      exact .inr (by rw [h, hy])
    · split at h
      · rename_i hy
        simp only [Option.some.injEq] at h
        refine .inl ⟨y.toNat, by omega, by omega, hy.2.2, ?_⟩
        rw [h, show ((y.toNat : Nat) : Int) = y by omega]
      · simp at h
theorem kind_some {w : TW} {ps : List Int} {e : Int} (he : e = 1 ∨ e = 5) {y k : Int} (h : tgtF w ps e y = some k) : 1 ≤ k ∧ k ≤ 5 ∧ 0 < y + (if w.1.length = 0 then 1 else 0) ∧ y ≤ w.1.length := by
  unfold tgtF at h
  split at h
  · simp only [Option.some.injEq] at h
    split <;> omega
  · split at h
    · rename_i hy
      simp only [Option.some.injEq] at h
      have : kindA w ps y.toNat = 3 ∨ kindA w ps y.toNat = 4 ∨ kindA w ps y.toNat = 2 ∨ kindA w ps y.toNat = 0 := by unfold kindA; repeat' split <;> simp_all
      split <;> omega
    · simp at h
theorem rise_eq : ∀ {l m : List Brk}, l.Pairwise (fun a b => a.2.2 < b.2.2) → m.Pairwise (fun a b => a.2.2 < b.2.2) → (∀ b, b ∈ l ↔ b ∈ m) → l = m
  | [], [], _, _, _ => rfl
  | [], b :: m, _, _, h => by have := (h b).2 (by simp); simp at this
  | a :: l, [], _, _, h => by have := (h a).1 (by simp); simp at this
  | a :: l, b :: m, hl, hm, h => by
    rw [List.pairwise_cons] at hl hm
    have e : a = b := by
      rcases List.mem_cons.1 ((h a).1 (by simp)) with e | e
      · exact e
      · rcases List.mem_cons.1 ((h b).2 (by simp)) with e2 | e2
        · exact e2.symm
        · have h1 := hm.1 a e
          have h2 := hl.1 b e2
          omega
    subst e
    congr 1
    refine rise_eq hl.2 hm.2 fun c => ?_
    constructor
    · intro hc
      rcases List.mem_cons.1 ((h c).1 (List.mem_cons_of_mem _ hc)) with e | e
      · have := hl.1 c hc; rw [e] at this; omega
      · exact e
    · intro hc
      rcases List.mem_cons.1 ((h c).2 (List.mem_cons_of_mem _ hc)) with e | e
      · have := hm.1 c hc; rw [e] at this; omega
      · exact e
/-- Sorted, they are in order. -/
theorem sorted_word {w : TW} {ps : List Int} {q : Nat} {e : Int} (he : e = 1 ∨ e = 5) {l l' : List Brk} (hm : ∀ b, b ∈ l ↔ b ∈ wordL w ps q e) (hn : l.Pairwise fun a b => a.2.2 ≠ b.2.2) (hp : l'.Perm l) (hs : l'.Pairwise fun a b => befB b a = false) : l' = wordL w ps q e := by
  have hm' : ∀ b, b ∈ l' ↔ b ∈ wordL w ps q e := fun b => hp.mem_iff.trans (hm b)
  have hn' : l'.Pairwise fun a b => a.2.2 ≠ b.2.2 := hp.symm.pairwise hn fun h => Ne.symm h
  refine rise_eq ?_ (word_rises w ps q e) hm'
  refine List.Pairwise.imp_of_mem ?_ (hn'.and hs)
  intro a b ha hb h
  obtain ⟨h1, h2⟩ := h
  obtain ⟨a1, a2⟩ := word_mem.1 ((hm' a).1 ha)
  obtain ⟨b1, b2⟩ := word_mem.1 ((hm' b).1 hb)
  have ka := kind_some he a2
  have kb := kind_some he b2
  have h3 : ¬ befB b a = true := by rw [h2]; decide
  rw [bef_iff] at h3
  omega
end L16
end Go.Proofs.YtmmgmcfhlhghoaaGreatDoor

