/- Layer 10: what the landed functions answer, in the form that the laws use. -/
import Derived.Test.YtijhabhnhglhgaaDoorMath10
import Derived.Test.YtijhabhnhglhgaaDoorSame10
namespace Go.Proofs.YtijhabhnhglhgaaDoor
open Go.RowKit
namespace L10

/-- Patterns that may be, as a value in memory. -/
structure Good (w : World) (D : PatsD) (P : PatsP) : Prop where
  sn : SeenPats w D P
  ok : ∀ x ∈ D.l ++ D.m, x.Ok
  may : patsB (rd D) = true
  capL : D.l.length ≤ P.c ∧ P.c ≤ maxLen
  capM : D.m.length ≤ P.d ∧ P.d ≤ maxLen
theorem Good.ext {w w' : World} {D : PatsD} {P : PatsP} (h : Good w D P) (x : Ext w w') : Good w' D P := ⟨h.sn.ext x, h.ok, h.may, h.capL, h.capM⟩
theorem Good.len {w : World} {D : PatsD} {P : PatsP} (h : Good w D P) : D.l.length + D.m.length ≤ 300 := (patsB_parts h.may).1
theorem Good.inn {w : World} {D : PatsD} {P : PatsP} (h : Good w D P) : ∀ x ∈ D.l ++ D.m, x.ns.length ≤ 1000000 := fun x hx => by
  obtain ⟨_, h1, h2⟩ := patsB_parts h.may
  rcases List.mem_append.1 hx with hx | hx
  · have e1 := (pat_vals (h1 x hx)).1
    have e2 := (pat_len (h1 x hx)).2
    have e3 : (tn x).2.length = x.ns.length := rfl
    omega
  · obtain ⟨g1, g2, g3⟩ := exc_parts (h2 x hx)
    have g4 : (tn x).1.length ≤ 40 := by
      simp only [plainB, Bool.and_eq_true, decide_eq_true_eq] at g1; omega
    have key : ∀ (l : List Int) (m n : Int), risesB n m l = true → m + l.length ≤ max m n := by
      intro l
      induction l with
      | nil => intro m n _; simp; omega
      | cons a r ih =>
        intro m n h
        simp only [risesB, Bool.and_eq_true, decide_eq_true_eq] at h
        have := ih (a + 1) n h.2
        simp only [List.length_cons]
        omega
    have := key (tn x).2 1 _ g3
    have e3 : (tn x).2.length = x.ns.length := rfl
    omega
theorem tabs_two {w : World} (h : Tabs w) : 2 ≤ w.heap.size := by
  have h1 := (h.2 0 (by decide)).1
  have h2 := h.1 0 (by decide)
  have b1 := block_lt_of_cell h1
  have b2 := block_lt_of_cell h2
  simp only at b1 b2
  omega
def ParseA (w : World) (t : List UInt8) (e : Ending) (w' : World) : Prop :=
  Ext w w' ∧ ∃ D P, e = .returned (.tuple #[patsV D P, .int .i64 (parseE t)]) ∧ rd D = parseD t ∧ Good w' D P
theorem parse_all (A : Option Addr) (t : List UInt8) (c : Nat) (w : World) (ht : SeenB w A t) (hn : t.length ≤ 1000000) (hT : Tabs w) :
    Calls Tryd.prog 10 #[.slice A t.length c] w (ParseA w t) := by
  refine (parse_any A t c w ht hn hT (tabs_two hT)).mono ?_
  rintro e w' ⟨hx, (⟨D, P, rfl, sn, l1, l2, m1, m2, hin, h⟩ | ⟨rfl, h⟩)⟩
  · obtain ⟨e1, e2⟩ := parseE_zero h
    have hd : rd D = parseD t := e2.symm
    have hb : patsB (rd D) = true := (parseV_ok h).1
    refine ⟨hx, D, P, by rw [e1], hd, sn, fun x hx' => ?_, hb, ⟨l1, l2⟩, ⟨m1, m2⟩⟩
    obtain ⟨r1, r2⟩ := hin x hx'
    obtain ⟨_, h1, h2⟩ := patsB_parts hb
    have e3 : x.s.data.toList = (tn x).1 := rfl
    have e4 := list_len x.s
    have hm : 1000000 ≤ maxLen := by decide
    rcases List.mem_append.1 hx' with hx' | hx'
    · have g1 := (pat_len (h1 x hx')).2
      exact ⟨r1, r2, by rw [← e4, e3]; omega, fun n hn => by have := (pat_vals (h1 x hx')).2 n hn; omega⟩
    · obtain ⟨g1, g2, g3⟩ := exc_parts (h2 x hx')
      have g4 : (tn x).1.length ≤ 40 := by
        simp only [plainB, Bool.and_eq_true, decide_eq_true_eq] at g1; omega
      exact ⟨r1, r2, by rw [← e4, e3]; omega, fun n hn => by have := rises_mem _ _ g3 n hn; omega⟩
  · obtain ⟨e1, e2⟩ := parseE_no h
    exact ⟨hx, ⟨[], []⟩, ⟨none, 0, none, 0⟩, by rw [e1]; rfl, e2.symm, ⟨SeenW.nil, SeenW.nil⟩, fun x hx' => by simp at hx', rfl, by simp, by simp⟩
theorem check_all {D : PatsD} {P : PatsP} {w : World} (h : Good w D P) : Calls Tryd.prog 16 #[patsV D P] w (Ret w (.bool true)) := by
  have := h.len
  have := check_any D P (fun x hx => h.ok x (List.mem_append.2 (.inl hx))) (fun x hx => h.ok x (List.mem_append.2 (.inr hx))) w h.sn (by omega) (by omega)
  rwa [h.may] at this
theorem write_all {D : PatsD} {P : PatsP} {w : World} (h : Good w D P) : Calls Tryd.prog 14 #[patsV D P] w (WrQ w (writeL (rd D), 0)) := by
  have := h.len
  have := write_any D P (fun x hx => h.ok x (List.mem_append.2 (.inl hx))) (fun x hx => h.ok x (List.mem_append.2 (.inr hx))) w h.sn (by omega) (by omega)
  rwa [writeR, if_pos h.may] at this
theorem same_all {D E : PatsD} {P Q : PatsP} {w : World} (h : Good w D P) (se : SeenPats w E Q) : Calls Tryd.prog 12 #[patsV D P, patsV E Q] w (Ret w (.bool (decide (rd D = rd E)))) := by
  have := h.len
  exact samep_any D E P Q w h.sn se h.inn (by omega) (by omega)
/-- An argument that is Few. -/
theorem few_len {D : PatsD} (h : fewD D = true) : D.l.length ≤ 310 ∧ D.m.length ≤ 310 ∧ ∀ x ∈ D.l ++ D.m, x.s.size ≤ 60 ∧ x.ns.length ≤ 60 := by
  simp only [fewD, few1, Bool.and_eq_true, decide_eq_true_eq, List.all_eq_true] at h
  refine ⟨h.1.1, h.1.2, fun x hx => ?_⟩
  rcases List.mem_append.1 hx with hx | hx
  · exact h.2.1 x hx
  · exact h.2.2 x hx
/-- The length of what is written. -/
theorem linesP_length : ∀ (l : List TN), l.all patB = true → (linesP l).length ≤ 86 * l.length
  | [], _ => by simp [linesP]
  | p :: l, h => by
    simp only [List.all_cons, Bool.and_eq_true] at h
    have := wordL_length h.1
    have := linesP_length l h.2
    have e : linesP (p :: l) = wordL p ++ 10 :: linesP l := by simp [linesP]
    rw [e, List.length_append, List.length_cons, List.length_cons]
    omega
theorem linesE_length : ∀ (l : List TN), l.all excB = true → (linesE l).length ≤ 86 * l.length
  | [], _ => by simp [linesE]
  | p :: l, h => by
    simp only [List.all_cons, Bool.and_eq_true] at h
    have := partL_length h.1
    have := linesE_length l h.2
    have e : linesE (p :: l) = partL p ++ 10 :: linesE l := by simp [linesE]
    rw [e, List.length_append, List.length_cons, List.length_cons]
    omega
theorem write_length {q : LL} (h : patsB q = true) : (writeL q).length ≤ 25800 := by
  obtain ⟨h1, h2, h3⟩ := patsB_split h
  have := linesP_length _ h2
  have := linesE_length _ h3
  rw [writeL, List.length_append]
  omega
end L10
end Go.Proofs.YtijhabhnhglhgaaDoor

