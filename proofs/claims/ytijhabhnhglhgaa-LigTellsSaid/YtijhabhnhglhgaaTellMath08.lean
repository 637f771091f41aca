/- The document's pairs, plain: what they make is what the landed program learns. -/
import Derived.Test.YtijhabhnhglhgaaLigMath08
namespace Go.Proofs.Ytijhabhnhglhgaa
open Go.RowKit
namespace L08
open L07

/-- Which codes have a rule among the first i places. -/
def seenK (D : FontD) (ks : List Nat) : Nat → RuN
  | 0 => fun _ => false
  | i + 1 => ruN D (seenK D ks i) (ks.getD i 0)
abbrev Tri := Int × Int × Int
/-- The rules that make a character, of the first i places. -/
def pairsI (D : FontD) (c : Int) (ks : List Nat) : Nat → List Tri
  | 0 => []
  | i + 1 => pairsI D c ks i ++ (if D.stp (ks.getD i 0) 2 = 0 ∧ seenK D ks i (D.stp (ks.getD i 0) 1) = false then [(c, D.stp (ks.getD i 0) 1, D.stp (ks.getD i 0) 3)] else [])
def mayT (D : FontD) (p : Tri) : Bool := decide (128 ≤ p.2.2) && (decide (p.1 < p.2.2) && (decide (p.2.1 < 128) && hasB D p.2.2))
/-- What pairs make, one by one. -/
def putsL (D : FontD) : List Tri → MapN → Option MapN
  | [], m => some m
  | p :: t, m => if (m p.2.2).isSome = true ∨ mayT D p = false then none else putsL D t (fun y => if y = p.2.2 then some (p.1, p.2.1) else m y)
theorem putsL_append (D : FontD) (b : List Tri) : ∀ (a : List Tri) (m : MapN), putsL D (a ++ b) m = (putsL D a m).bind (putsL D b)
  | [], m => by simp [putsL]
  | p :: t, m => by
    simp only [List.cons_append, putsL]
    split
    · rfl
    · exact putsL_append D b t _
/-- The places of a character's steps. -/
def placesO : List (Option Nat) → List Nat
  | [] => []
  | none :: r => placesO r
  | some k :: r => k :: placesO r
theorem placesO_some : ∀ ks : List Nat, placesO (ks.map some) = ks
  | [] => rfl
  | k :: r => by simp [placesO, placesO_some r]
theorem places_all {D : FontD} : ∀ {l : List (Option Nat)}, (∀ x ∈ l, ∃ k, x = some k ∧ opB D k = true) → l = (placesO l).map some
  | [], _ => rfl
  | none :: r, h => by obtain ⟨k, e, _⟩ := h none (by simp); cases e
  | some k :: r, h => by
    simp only [placesO, List.map_cons]
    rw [← places_all (fun x hx => h x (by simp [hx]))]
theorem take_snoc {l : List Nat} {i : Nat} (h : i < l.length) : l.take (i + 1) = l.take i ++ [l.getD i 0] := by
  rw [List.take_succ_eq_append_getElem h, List.getD, List.getElem?_eq_getElem h]; rfl

/-- What is learnt of steps that all may be is what their pairs make. -/
theorem learn_puts {D : FontD} {c : Int} {ks : List Nat} (hop : ∀ k ∈ ks, opB D k = true) (m0 : MapN) : ∀ i, i ≤ ks.length → learnL D c ((ks.take i).map some) (m0, fun _ => false) = (putsL D (pairsI D c ks i) m0).map fun m => (m, seenK D ks i)
  | 0, _ => by simp [learnL, pairsI, putsL, seenK]
  | i + 1, hi => by
    have hi' : i < ks.length := by omega
    have ho : opB D (ks.getD i 0) = true := by
      rw [List.getD, List.getElem?_eq_getElem hi']
      exact hop _ (List.getElem_mem hi')
    rw [take_snoc hi', List.map_append, List.map_cons, List.map_nil, learnL_snoc, learn_puts hop m0 i (by omega), pairsI, putsL_append]
    cases putsL D (pairsI D c ks i) m0 with
    | none => rfl
    | some m =>
      simp only [Option.map_some, Option.bind_some, learn1]
      rw [if_pos ho]
      by_cases h : D.stp (ks.getD i 0) 2 = 0 ∧ seenK D ks i (D.stp (ks.getD i 0) 1) = false
      · rw [if_pos h, if_pos h]
        simp only [putsL]
        have e : mayT D (c, D.stp (ks.getD i 0) 1, D.stp (ks.getD i 0) 3) = mayB D c (ks.getD i 0) := rfl
        rw [e]
        split
        · rfl
        · rfl
      · rw [if_neg h, if_neg h]
        rfl
def pairsC (D : FontD) (j : Nat) : List Tri := pairsI D (D.first + j) (placesO (seqC D j)) (placesO (seqC D j)).length
def pairsD (D : FontD) : Nat → List Tri
  | 0 => []
  | j + 1 => pairsD D j ++ pairsC D j
def okC (D : FontD) (j : Nat) : Prop := ∀ x ∈ seqC D j, ∃ k, x = some k ∧ opB D k = true
theorem learnC_puts {D : FontD} {j : Nat} (h : okC D j) (m : MapN) : learnC D m j = putsL D (pairsC D j) m := by
  have e := places_all h
  have hop : ∀ k ∈ placesO (seqC D j), opB D k = true := fun k hk => by
    obtain ⟨k', e', ho⟩ := h (some k) (by rw [e]; exact List.mem_map_of_mem hk)
    cases e'; exact ho
  have l := learn_puts (c := D.first + j) hop m _ (Nat.le_refl _)
  rw [List.take_length, ← e] at l
  rw [learnC, l, pairsC]
  cases putsL D (pairsI D (D.first + j) (placesO (seqC D j)) (placesO (seqC D j)).length) m <;> rfl
theorem learnC_no {D : FontD} {j : Nat} (h : ¬ okC D j) (m : MapN) : learnC D m j = none := by
  rw [learnC]
  cases hl : learnL D (D.first + j) (seqC D j) (m, fun _ => false) with
  | none => rfl
  | some s => exact absurd (learnL_all _ _ _ hl) h
theorem makeL_puts {D : FontD} : ∀ n, (∀ j, j < n → okC D j) → makeL D n = putsL D (pairsD D n) (fun _ => none)
  | 0, _ => rfl
  | n + 1, h => by
    rw [makeL, makeL_puts n (fun j hj => h j (by omega)), pairsD, putsL_append]
    cases putsL D (pairsD D n) (fun _ => none) with
    | none => rfl
    | some m => exact learnC_puts (h n (by omega)) m
theorem makeL_no {D : FontD} {j : Nat} (h : ¬ okC D j) : ∀ n, j < n → makeL D n = none
  | 0, hj => by omega
  | n + 1, hj => by
    rw [makeL]
    cases hm : makeL D n with
    | none => rfl
    | some m =>
      by_cases e : j = n
      · subst e; exact learnC_no h m
      · rw [makeL_no h n (by omega)] at hm; cases hm
/-- The map is the pairs. -/
theorem puts_keep {D : FontD} {c : Int} {p : Int × Int} : ∀ (ps : List Tri) (m0 m : MapN), putsL D ps m0 = some m → m0 c = some p → m c = some p ∧ ∀ q ∈ ps, q.2.2 ≠ c
  | [], m0, m, h, hc => by cases h; exact ⟨hc, fun q hq => by simp at hq⟩
  | q :: t, m0, m, h, hc => by
    simp only [putsL] at h
    split at h
    · cases h
    · rename_i hn
      have hq : q.2.2 ≠ c := fun e => hn (.inl (by rw [e, hc]; rfl))
      obtain ⟨h1, h2⟩ := puts_keep t _ m h (show (if c = q.2.2 then some (q.1, q.2.1) else m0 c) = some p by rw [if_neg (fun e => hq e.symm)]; exact hc)
      exact ⟨h1, fun r hr => by rcases List.mem_cons.1 hr with rfl | hr; exact hq; exact h2 r hr⟩
/-- The first pair that makes a code. -/
def findP (c : Int) : List Tri → Option (Int × Int)
  | [] => none
  | p :: t => if p.2.2 = c then some (p.1, p.2.1) else findP c t
theorem puts_find {D : FontD} {c : Int} : ∀ (ps : List Tri) (m0 m : MapN), putsL D ps m0 = some m → m0 c = none → m c = findP c ps
  | [], m0, m, h, hc => by cases h; exact hc
  | q :: t, m0, m, h, hc => by
    simp only [putsL] at h
    split at h
    · cases h
    · by_cases e : q.2.2 = c
      · subst e
        rw [findP, if_pos rfl]
        exact (puts_keep t _ m h (by simp)).1
      · rw [findP, if_neg e]
        exact puts_find t _ m h (by show (if c = q.2.2 then some (q.1, q.2.1) else m0 c) = none; rw [if_neg (fun e' => e e'.symm)]; exact hc)
theorem make_find {D : FontD} {m : MapN} (h : makeD D = some m) (c : Int) : m c = findP c (pairsD D D.nc) := by
  have G := make_good h
  rw [makeD, if_pos G.check, makeL_puts _ (fun j hj => G.all j hj)] at h
  exact puts_find _ _ _ h rfl
end L08
end Go.Proofs.Ytijhabhnhglhgaa

