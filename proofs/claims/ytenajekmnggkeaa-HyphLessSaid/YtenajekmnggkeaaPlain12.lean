/- Layer 12, plain: what its statements say. -/
import Derived.Test.YtenajekmnggkeaaHyph12
namespace Go.Proofs.Ytenajekmnggkeaa
namespace L12
open L10 (TN plainB patB letterB)

/-! ### So many of a list that pass -/
def passed (q : Int → Bool) (a : List Int) (i : Nat) : Nat := ((a.take i).filter q).length
theorem passed_zero (q : Int → Bool) (a : List Int) : passed q a 0 = 0 := by simp [passed]
theorem take_snoc {a : List Int} {i : Nat} (h : i < a.length) : a.take (i + 1) = a.take i ++ [a.getD i 0] := by
  rw [List.take_succ_eq_append_getElem h]; simp [List.getD, h]
theorem passed_yes {q : Int → Bool} {a : List Int} {i : Nat} (h : i < a.length) (hq : q (a.getD i 0) = true) : passed q a (i + 1) = passed q a i + 1 := by
  unfold passed
  rw [take_snoc h, List.filter_append, List.length_append]
  simp only [List.filter_cons, hq, List.filter_nil]
  simp
theorem passed_no {q : Int → Bool} {a : List Int} {i : Nat} (h : i < a.length) (hq : q (a.getD i 0) = false) : passed q a (i + 1) = passed q a i := by
  unfold passed
  rw [take_snoc h, List.filter_append, List.length_append]
  simp only [List.filter_cons, hq, List.filter_nil]
  simp
theorem passed_full (q : Int → Bool) (a : List Int) : passed q a a.length = (a.filter q).length := by simp [passed]
theorem passed_get {q : Int → Bool} {a : List Int} {i : Nat} (h : i < a.length) (hq : q (a.getD i 0) = true) : passed q a i < (a.filter q).length ∧ (a.filter q).getD (passed q a i) 0 = a.getD i 0 := by
  have e : a.filter q = (a.take i).filter q ++ (a.getD i 0 :: (a.drop (i + 1)).filter q) := by
    conv => lhs; rw [← List.take_append_drop (i + 1) a, take_snoc h]
    rw [List.filter_append, List.filter_append, List.append_assoc]
    simp only [List.filter_cons, hq, List.filter_nil]
    simp
  rw [e]
  unfold passed
  constructor
  · simp
  · rw [List.getD, List.getElem?_append_right (Nat.le_refl _)]
    simp

/-! ### Points -/
theorem wrap_in {n : Nat} (hn : n ≤ 40) {x : Int} (h0 : 0 ≤ x) (h1 : x ≤ n) : IntKind.i64.wrap ((n : Int) - x) = n - x := IntWalk.i64_in _ (by omega)
/-- Greater numbers at either end: those that stand so far from both. -/
def farB (cn z : Nat) (left right v : Int) : Bool := decide (left ≤ v - cn) && decide (right ≤ z - (v - cn))
theorem points_less (p but : List TN) (u : List Int) {left right m1 m2 : Int} (h1 : 0 ≤ left) (h3 : 0 ≤ m1) (h4 : 0 ≤ m2) :
    pointsL p but u (left + m1) (right + m2) = (pointsL p but u left right).filter (farB (coreN u) (coreL u).length (left + m1) (right + m2)) := by
  cases hb : coreB u with
  | false => simp [points_no hb]
  | true =>
    rw [points_yes hb, points_yes hb, List.filter_map, List.filter_filter]
    congr 1
    apply List.filter_congr
    intro x _
    have hz := core_most u
    rw [Bool.eq_iff_iff]
    simp only [mayB, farB, Function.comp, Bool.and_eq_true, decide_eq_true_eq]
    constructor
    · rintro ⟨g1, g2, g3⟩
      rw [wrap_in hz (by omega) g2] at g3
      exact ⟨⟨by omega, by omega⟩, by omega, g2, by rw [wrap_in hz (by omega) g2]; omega⟩
    · rintro ⟨⟨g1, g2⟩, g3, g4, g5⟩
      exact ⟨by omega, g4, by rw [wrap_in hz (by omega) g4]; omega⟩
theorem points_mem {p but : List TN} {u : List Int} {left right v : Int} (h : v ∈ pointsL p but u left right) : coreB u = true ∧ ∃ x ∈ placesL p but (coreL u), mayB (coreL u).length left right x = true ∧ v = coreN u + x := by
  cases hb : coreB u with
  | false => rw [points_no hb] at h; simp at h
  | true =>
    rw [points_yes hb] at h
    obtain ⟨x, hx, rfl⟩ := List.mem_map.1 h
    obtain ⟨h1, h2⟩ := List.mem_filter.1 hx
    exact ⟨rfl, x, h1, h2, rfl⟩
/-- A point by patterns alone. -/
theorem bare_mem {p : List TN} {u : List Int} {left right v : Int} (h : v ∈ pointsL p [] u left right) :
    1 ≤ v - coreN u ∧ v - coreN u < (coreL u).length ∧ left ≤ v - coreN u ∧ right ≤ (coreL u).length - (v - coreN u) := by
  obtain ⟨_, x, hx, hm, rfl⟩ := points_mem h
  have ho := odd_in (show x ∈ oddL p (coreL u) from hx)
  have hz := core_most u
  simp only [mayB, Bool.and_eq_true, decide_eq_true_eq] at hm
  rw [wrap_in hz (by omega) hm.2.1] at hm
  omega
theorem bare_rises (p : List TN) (u : List Int) (left right : Int) : (pointsL p [] u left right).Pairwise (· < ·) := by
  cases hb : coreB u with
  | false => rw [points_no hb]; exact List.Pairwise.nil
  | true =>
    rw [points_yes hb, List.pairwise_map]
    refine (List.Pairwise.filter _ (odd_rises p (coreL u))).imp ?_
    intro a b h
    omega
theorem rises_at {l : List Int} (h : l.Pairwise (· < ·)) {i : Nat} (hi : i + 1 < l.length) : l.getD i 0 < l.getD (i + 1) 0 := by
  have := List.pairwise_iff_getElem.1 h i (i + 1) (by omega) hi (by omega)
  simpa [List.getD, hi, show i < l.length by omega] using this
theorem bare_sub (p : List TN) (u : List Int) {left right : Int} (h1 : 0 ≤ left) (h2 : 0 ≤ right) : (pointsL p [] u left right).Sublist (pointsL p [] u 0 0) := by
  have := points_less p [] u (left := 0) (right := 0) (m1 := left) (m2 := right) (Int.le_refl _) h1 h2
  rw [Int.zero_add, Int.zero_add] at this
  rw [this]
  exact List.filter_sublist
theorem points_bound {p but : List TN} {u : List Int} {left right : Int} : pointsL p but u left right ≠ [] → 0 < (coreL u).length := by
  intro h
  cases hb : coreB u with
  | false => rw [points_no hb] at h; exact absurd rfl h
  | true => have := L11.plain_len (core_plain hb); omega

/-! ### A core between codes that are no letters -/
theorem isL_no {c : Int} (h : c < 65 ∨ 122 < c) : isL c = false := by
  unfold isL small
  rw [if_neg (by omega), if_neg (by omega)]
  simp
theorem frame_ahead {a m b : List Int} (ha : ∀ c ∈ a, isL c = false) (hm : ∀ c ∈ m, isL c = true) (hne : m ≠ []) : aheadN (a ++ m ++ b) = a.length := by
  have hl : 0 < m.length := List.length_pos_iff.2 hne
  refine firstF_eq (by simp) (fun i hi => ?_) (fun _ => ?_)
  · have e : (a ++ m ++ b).getD i 0 = a[i] := by
      rw [List.append_assoc, List.getD, List.getElem?_append_left hi, List.getElem?_eq_getElem hi]; rfl
    rw [e]
    exact ha _ (List.getElem_mem hi)
  · have e : (a ++ m ++ b).getD a.length 0 = m[0] := by
      rw [List.append_assoc, List.getD, List.getElem?_append_right (Nat.le_refl _), Nat.sub_self, List.getElem?_append_left hl, List.getElem?_eq_getElem hl]; rfl
    rw [e]
    exact hm _ (List.getElem_mem hl)
theorem frame_behind {a m b : List Int} (ha : ∀ c ∈ a, isL c = false) (hm : ∀ c ∈ m, isL c = true) (hne : m ≠ []) (hb : ∀ c ∈ b, isL c = false) : behindN (a ++ m ++ b) = b.length := by
  have hl : 0 < m.length := List.length_pos_iff.2 hne
  unfold behindN
  rw [frame_ahead ha hm hne]
  have hlen : (a ++ m ++ b).length = a.length + m.length + b.length := by simp only [List.length_append]
  rw [hlen]
  refine firstF_eq (by omega) (fun i hi => ?_) (fun _ => ?_)
  · have hj : b.length - 1 - i < b.length := by omega
    have e : (a ++ m ++ b).getD (a.length + m.length + b.length - 1 - i) 0 = b[b.length - 1 - i] := by
      rw [List.getD, List.getElem?_append_right (by simp; omega), List.length_append]
      rw [show a.length + m.length + b.length - 1 - i - (a.length + m.length) = b.length - 1 - i by omega, List.getElem?_eq_getElem hj]
      rfl
    rw [e]
    exact hb _ (List.getElem_mem hj)
  · have hj : m.length - 1 < m.length := by omega
    have e : (a ++ m ++ b).getD (a.length + m.length + b.length - 1 - b.length) 0 = m[m.length - 1] := by
      rw [List.append_assoc, List.getD, List.getElem?_append_right (by omega), List.getElem?_append_left (by omega)]
      rw [show a.length + m.length + b.length - 1 - b.length - a.length = m.length - 1 by omega, List.getElem?_eq_getElem hj]
      rfl
    rw [e]
    exact hm _ (List.getElem_mem hj)
theorem frame_mid {a m b : List Int} (ha : ∀ c ∈ a, isL c = false) (hm : ∀ c ∈ m, isL c = true) (hne : m ≠ []) (hb : ∀ c ∈ b, isL c = false) : midL (a ++ m ++ b) = m := by
  unfold midL
  rw [frame_behind ha hm hne hb, frame_ahead ha hm hne]
  have hlen : (a ++ m ++ b).length = a.length + m.length + b.length := by simp only [List.length_append]
  rw [hlen, show a.length + m.length + b.length - a.length - b.length = m.length by omega, List.append_assoc, List.drop_left, List.take_left]
theorem frame_core {a m b : List Int} (ha : ∀ c ∈ a, isL c = false) (hm : ∀ c ∈ m, isL c = true) (hb : ∀ c ∈ b, isL c = false) (h4 : m.length ≤ 40) (hne : m ≠ []) : coreB (a ++ m ++ b) = true ∧ coreL (a ++ m ++ b) = byteL m ∧ coreN (a ++ m ++ b) = a.length := by
  have hmid := frame_mid ha hm hne hb
  have hB : coreB (a ++ m ++ b) = true := by
    rw [coreB_iff, hmid]
    exact ⟨List.length_pos_iff.2 hne, h4, hm⟩
  exact ⟨hB, by rw [coreL_yes hB, hmid], by rw [coreN_yes hB, frame_ahead ha hm hne]⟩
theorem none_core {u : List Int} (h : ∀ c ∈ u, isL c = false) : coreB u = false := by
  have e : aheadN u = u.length := firstF_eq (Nat.le_refl _) (fun i hi => by
    rw [List.getD, List.getElem?_eq_getElem hi]; exact h _ (List.getElem_mem hi)) (fun k => absurd k (by omega))
  cases hb : coreB u with
  | false => rfl
  | true =>
    have h1 := (coreB_iff.1 hb).1
    rw [mid_length, e] at h1
    omega

/-! ### An exception that is the word -/
def asInts (l : List UInt8) : List Int := l.map fun b => (b.toNat : Int)
theorem asInts_length (l : List UInt8) : (asInts l).length = l.length := by simp [asInts]
theorem small_letter {b : UInt8} (h : letterB b = true) : small (b.toNat : Int) = b.toNat := by
  have := L10.letter_lt h
  rw [small, if_neg (by omega), if_pos (by omega)]
theorem isL_letter {b : UInt8} (h : letterB b = true) : isL (b.toNat : Int) = true := by
  have := L10.letter_lt h
  rw [isL_iff, small_letter h]
  omega
theorem asInts_isL {l : List UInt8} (h : ∀ b ∈ l, letterB b = true) : ∀ c ∈ asInts l, isL c = true := fun c hc => by
  obtain ⟨b, hb, rfl⟩ := List.mem_map.1 hc
  exact isL_letter (h b hb)
theorem byteL_asInts {l : List UInt8} (h : ∀ b ∈ l, letterB b = true) : byteL (asInts l) = l := by
  unfold byteL asInts
  rw [List.map_map]
  refine (List.map_congr_left (g := id) fun b hb => ?_).trans (List.map_id l)
  simp only [Function.comp, small_letter (h b hb), Int.toNat_natCast, id, UInt8.ofNat_toNat]
theorem word_core {l : List UInt8} (h : plainB l = true) : coreB (asInts l) = true ∧ coreL (asInts l) = l ∧ coreN (asInts l) = 0 := by
  have hl := L11.plain_len h
  have hm := L10.plain_letters h
  have hne : asInts l ≠ [] := fun e => by have := congrArg List.length e; rw [asInts_length] at this; simp at this; rw [this] at hl; simp at hl
  have := frame_core (a := []) (b := []) (m := asInts l) (by simp) (asInts_isL hm) (by simp) (by rw [asInts_length]; exact hl.2) hne
  simp only [List.nil_append, List.append_nil, List.length_nil] at this
  rw [byteL_asInts hm] at this
  exact this
/-- So far from both ends. -/
def endsB (n : Nat) (left right v : Int) : Bool := decide (left ≤ v) && decide (right ≤ n - v)
theorem exc_points {p : List TN} {x : TN} (h : L10.excB x = true) {left right : Int} : pointsL p [x] (asInts x.1) left right = x.2.filter (endsB x.1.length left right) := by
  obtain ⟨h1, _, h3⟩ := L10.exc_parts h
  obtain ⟨c1, c2, c3⟩ := word_core h1
  have hl := L11.plain_len h1
  rw [points_yes c1, c2, c3]
  have e : placesL p [x] x.1 = x.2 := by simp [placesL]
  rw [e]
  have e2 : (fun v : Int => ((0 : Nat) : Int) + v) = id := by funext v; simp
  rw [e2, List.map_id]
  apply List.filter_congr
  intro v hv
  have hr := L10.rises_mem _ _ h3 v hv
  unfold mayB endsB
  rw [wrap_in hl.2 (by omega) (by omega), decide_eq_true (show v ≤ (x.1.length : Int) by omega), Bool.true_and]
end L12
end Go.Proofs.Ytenajekmnggkeaa

