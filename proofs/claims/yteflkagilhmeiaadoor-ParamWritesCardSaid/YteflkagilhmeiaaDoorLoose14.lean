/- A region that draws its order, each of its operations proved once: over a condition that says what those that have come up have left. -/
import Derived.OrdersHeld
import Derived.Deep.RegionHeld
namespace Go.Proofs.YteflkagilhmeiaaDoor
open Go
namespace Loose
section
variable {P : Program} {ops : Array Oper} {Q : Exit → Act → World → Prop} {md : Region.Mode} {S : World → Prop}

/-- Which have come up: one more. -/
def upd (F : Nat → Bool) (i : Nat) : Nat → Bool := fun j => if j = i then true else F j
theorem upd_self (F : Nat → Bool) (i : Nat) : upd F i i = true := if_pos rfl
theorem upd_other {F : Nat → Bool} {i j : Nat} (h : upd F i j = true) (n : j ≠ i) : F j = true := by rw [upd, if_neg n] at h; exact h
def flags (listed : Array Bool) : Nat → Bool := fun i => listed.getD i true
/-- Each waits for earlier ones alone. -/
def backB (md : Region.Mode) (ops : Array Oper) : Bool := (List.range ops.size).all fun i => ((ops[i]?).map (·.after.all fun e => !Region.binds md e || decide (e.on < i))).getD true
/-- Each of E waits for those that E says. -/
def waitB (md : Region.Mode) (ops : Array Oper) (E : List (Nat × List Nat)) : Bool := E.all fun x => x.2.all fun d => ((ops[x.1]?).map (·.after.any fun e => Region.binds md e && e.on == d)).getD false
/-- All others have come up. -/
def restB (ops : Array Oper) (listed : Array Bool) (E : List (Nat × List Nat)) : Bool := listed.size == ops.size && (List.range ops.size).all fun i => listed.getD i true || E.any (fun x => x.1 == i)

theorem ready_nil {listed : Array Bool} (hb : backB md ops = true) (hs : listed.size = ops.size) (h : Region.ready md ops listed = []) : ∀ i, listed.getD i true = true := by
  intro i
  induction i using Nat.strongRecOn with
  | _ i ih =>
    cases hi : listed.getD i true with
    | true => rfl
    | false =>
      exfalso
      have hlt : i < ops.size := by
        rcases Nat.lt_or_ge i listed.size with h' | h'
        · omega
        · simp [Array.getElem?_eq_none h'] at hi
      obtain ⟨o, ho⟩ : ∃ o, ops[i]? = some o := ⟨_, Array.getElem?_eq_getElem hlt⟩
      have hb := List.all_eq_true.1 hb i (List.mem_range.2 hlt)
      rw [ho] at hb
      simp only [Option.map_some, Option.getD_some, Array.all_eq_true_iff_forall_mem, Bool.or_eq_true, Bool.not_eq_true', decide_eq_true_eq] at hb
      have : i ∈ Region.ready md ops listed := mem_ready.2 ⟨hi, o, ho, fun e he hbd => by
        have hlt' := (hb e he).resolve_left (by simp [hbd])
        have := ih e.on hlt'
        have hsz : e.on < listed.size := by omega
        simp [Array.getD_eq_getD_getElem?, hsz] at this ⊢
        exact this⟩
      rw [h] at this
      cases this

theorem count_set : ∀ (l : List Bool) (i : Nat), l[i]? = some false → (l.set i true).count false + 1 = l.count false
  | [], _, h => by simp at h
  | b :: l, 0, h => by
    simp at h
    simp [h]
  | b :: l, i + 1, h => by
    have := count_set l i (by simpa using h)
    simp only [List.set_cons_succ, List.count_cons]
    omega

/-- The condition I goes with those that have come up; each of E, coming up, keeps it. -/
theorem go_on (E : List (Nat × List Nat)) (I : (Nat → Bool) → Act → World → Prop) (hb : backB md ops = true) (hd : waitB md ops E = true)
    (hS : ∀ F a w, I F a w → S w)
    (step : ∀ x ∈ E, ∀ F a w, I F a w → F x.1 = false → (∀ d ∈ x.2, F d = true) → ∀ o, ops[x.1]? = some o → ∀ K : Act → World → Prop, Shut (∀ a' w', I (upd F x.1) a' w' → K a' w') → if Region.wanted o (yielded ops a.tmps) = true then Oper.wp P o a w K Q else K (a.put o.dst undef) w)
    (fin : ∀ F a w, I F a w → (∀ i, F i = true) → Q .normal a w) :
    ∀ (fuel : Nat) (listed : Array Bool) (a : Act) (w : World), restB ops listed E = true → listed.toList.count false ≤ fuel → I (flags listed) a w → wpAnyH P md ops Q S fuel listed a w := by
  intro fuel
  induction fuel with
  | zero =>
    intro listed a w hE hf hI
    have hall : ∀ i, listed.getD i true = true := by
      intro i
      cases hi : listed.getD i true with
      | true => rfl
      | false =>
        have : false ∈ listed.toList := by
          rcases Nat.lt_or_ge i listed.size with h' | h'
          · simp [Array.getD_eq_getD_getElem?, h'] at hi
            rw [← hi]
            simp
          · simp [Array.getElem?_eq_none h'] at hi
        have := List.count_pos_iff.2 this
        omega
    refine ⟨?_, fin _ _ _ hI hall⟩
    rw [List.eq_nil_iff_forall_not_mem]
    intro i hi
    have := (mem_ready.1 hi).1
    rw [hall i] at this
    cases this
  | succ fuel ih =>
    intro listed a w hE hf hI
    have hE' := hE
    rw [restB, Bool.and_eq_true, beq_iff_eq, List.all_eq_true] at hE'
    obtain ⟨hs, hE'⟩ := hE'
    refine ⟨fun h => fin _ _ _ hI (ready_nil hb hs h), fun i hi => ?_⟩
    obtain ⟨h0, o, ho, hall⟩ := mem_ready.1 hi
    have hlt : i < ops.size := (Array.getElem?_eq_some_iff.1 ho).1
    have hx := hE' i (List.mem_range.2 hlt)
    rw [h0, Bool.false_or, List.any_eq_true] at hx
    obtain ⟨x, hxE, hxi⟩ := hx
    rw [beq_iff_eq] at hxi
    subst hxi
    have hl : listed.toList[x.1]? = some false := by
      have : x.1 < listed.size := by omega
      simp [Array.getD_eq_getD_getElem?, this] at h0 ⊢
      exact h0
    refine wpOp_step ho fun K hK => step x hxE _ _ _ hI h0 ?_ o ho K fun a' w' h' => hK _ _ ⟨hS _ _ _ h', ih _ _ _ ?_ ?_ ?_⟩
    · intro d hdm
      have hd := List.all_eq_true.1 (List.all_eq_true.1 hd x hxE) d hdm
      rw [ho] at hd
      simp only [Option.map_some, Option.getD_some] at hd
      rw [← Array.any_toList, List.any_eq_true] at hd
      obtain ⟨e, he, hd⟩ := hd
      have he : e ∈ o.after := by simpa using he
      rw [Bool.and_eq_true, beq_iff_eq] at hd
      have := hall e he hd.1
      rw [hd.2] at this
      show listed.getD d true = true
      rcases Nat.lt_or_ge d listed.size with h' | h'
      · simp [Array.getD_eq_getD_getElem?, h'] at this ⊢
        exact this
      · simp [Array.getElem?_eq_none h'] at this
    · rw [restB, Bool.and_eq_true, beq_iff_eq, List.all_eq_true]
      refine ⟨by simpa using hs, fun j hj => ?_⟩
      have := hE' j hj
      by_cases hji : x.1 = j
      · subst hji
        simp only [List.any_eq_true, Bool.or_eq_true]
        exact .inr ⟨x, hxE, by simp⟩
      · rw [getD_set_ne true hji]; exact this
    · have := count_set _ _ hl
      rw [Array.toList_setIfInBounds]
      omega
    · have e : flags (listed.setIfInBounds x.1 true) = upd (flags listed) x.1 := by
        funext j
        unfold flags upd
        by_cases hji : j = x.1
        · rw [if_pos hji, hji]
          have : x.1 < listed.size := by omega
          simp [Array.getD_eq_getD_getElem?, this]
        · rw [if_neg hji, getD_set_ne true (Ne.symm hji)]
      rw [e]
      exact h'

/-- From a state on: I may name the frame at hand. -/
theorem go (E : List (Nat × List Nat)) (I : Act → (Nat → Bool) → Act → World → Prop) {fuel : Nat} {listed : Array Bool} {a : Act} {w : World} (hb : backB md ops = true) (hd : waitB md ops E = true) (hr : restB ops listed E = true) (hf : decide (listed.toList.count false ≤ fuel) = true)
    (h0 : I a (flags listed) a w) (hS : ∀ F a' w', I a F a' w' → S w')
    (step : ∀ x ∈ E, ∀ F a' w', I a F a' w' → F x.1 = false → (∀ d ∈ x.2, F d = true) → ∀ o, ops[x.1]? = some o → ∀ K : Act → World → Prop, Shut (∀ a'' w'', I a (upd F x.1) a'' w'' → K a'' w'') → if Region.wanted o (yielded ops a'.tmps) = true then Oper.wp P o a' w' K Q else K (a'.put o.dst undef) w')
    (fin : ∀ F a' w', I a F a' w' → (∀ i, F i = true) → Q .normal a' w') : wpAnyH P md ops Q S fuel listed a w :=
  go_on E (I a) hb hd hS step fin fuel listed a w hr (of_decide_eq_true hf) h0
end
end Loose
end Go.Proofs.YteflkagilhmeiaaDoor

