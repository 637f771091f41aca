/- What is set is expanded again; expanding goes code by code: plain. -/
import Derived.Test.YtijhabhnhglhgaaLig08
namespace Go.Proofs.Ytijhabhnhglhgaa
open Go.RowKit
namespace L08
open L07

theorem exp1_fuel {m : MapN} (hf : ∀ c p, m c = some p → 128 ≤ c ∧ c < 256 ∧ 0 ≤ p.1 ∧ p.1 < c) : ∀ (f : Nat) (c : Int), (∀ p, m c = some p → c < f) → exp1 m (f + 1) c = exp1 m f c
  | 0, c, h => by
    cases hm : m c with
    | none => simp [exp1, hm]
    | some p => have := h p hm; have := hf c p hm; omega
  | f + 1, c, h => by
    rw [exp1, exp1]
    cases hm : m c with
    | none => rfl
    | some p =>
      have h1 := h p hm
      have h2 := hf c p hm
      simp only [exp1_fuel hf f p.1 (fun q hq => by omega)]
theorem Fine.lt {D : FontD} {m : MapN} (F : Fine D m) : ∀ c p, m c = some p → 128 ≤ c ∧ c < 256 ∧ 0 ≤ p.1 ∧ p.1 < c := fun c p h => by
  obtain ⟨a, b, c', d, _⟩ := F.key c p h
  exact ⟨a, b, c', d⟩
theorem expC_none {m : MapN} {c : Int} (h : m c = none) : expC m c = [c] := by simp [expC, exp1, h]
theorem expC_some {D : FontD} {m : MapN} (F : Fine D m) {c : Int} {p : Int × Int} (h : m c = some p) : expC m c = expC m p.1 ++ [p.2] := by
  have e : expC m c = exp1 m 299 p.1 ++ [p.2] := by
    show exp1 m (299 + 1) c = _
    rw [exp1]
    simp only [h]
  rw [e, expC, exp1_fuel F.lt 299 p.1 (fun q hq => by have := F.lt p.1 q hq; omega)]
theorem Fine.low {D : FontD} {m : MapN} (F : Fine D m) {c : Int} (h : c < 128) : m c = none := by
  cases hm : m c with
  | none => rfl
  | some p => have := F.lt c p hm; omega
theorem expL_cons (m : MapN) (c : Int) (l : List Int) : expL m (c :: l) = expC m c ++ expL m l := by simp [expL]
theorem expL_append (m : MapN) (a b : List Int) : expL m (a ++ b) = expL m a ++ expL m b := by simp [expL]

/-- What is set is expanded again. -/
theorem back {D : FontD} {m : MapN} (G : Good D m) : ∀ (r : List Int) (so : Int), hasB D so = true → (∀ x ∈ r, oneB D x = true) → expL m ((glyL D so r).map (·.1)) = expC m so ++ r
  | [], so, _, _ => by simp [glyL, expL]
  | n :: r, so, hs, hr => by
    have hn := hr n (by simp)
    have hr' := fun x hx => hr x (List.mem_cons_of_mem n hx)
    simp only [oneB, Bool.and_eq_true, decide_eq_true_eq] at hn
    have en : expC m n = [n] := expC_none (G.fine.low (by omega))
    cases hq : ruleD D so n with
    | none =>
      simp only [glyL, hq, List.map_cons, expL_cons, back G r n hn.2 hr', en]
      simp
    | some q =>
      obtain ⟨_, _, _, h4, _⟩ := G.step hs hq
      by_cases h2 : D.stp q 2 = 0
      · obtain ⟨h5, h6⟩ := h4 h2
        simp only [glyL, hq, h2, if_true, back G r _ h6 hr', expC_some G.fine h5]
        simp
      · simp only [glyL, hq, h2, if_false, List.map_cons, expL_cons, back G r n hn.2 hr', en]
        simp
theorem glyL_has {D : FontD} {m : MapN} (G : Good D m) : ∀ (r : List Int) (so : Int), hasB D so = true → (∀ x ∈ r, oneB D x = true) → ∀ p ∈ glyL D so r, hasB D p.1 = true
  | [], so, hs, _, p, hp => by simp [glyL] at hp; subst hp; exact hs
  | n :: r, so, hs, hr, p, hp => by
    have hn := hr n (by simp)
    have hr' := fun x hx => hr x (List.mem_cons_of_mem n hx)
    simp only [oneB, Bool.and_eq_true, decide_eq_true_eq] at hn
    cases hq : ruleD D so n with
    | none =>
      simp only [glyL, hq, List.mem_cons] at hp
      rcases hp with rfl | hp
      · exact hs
      · exact glyL_has G r n hn.2 hr' p hp
    | some q =>
      obtain ⟨_, _, _, h4, _⟩ := G.step hs hq
      by_cases h2 : D.stp q 2 = 0
      · simp only [glyL, hq, h2, if_true] at hp
        exact glyL_has G r _ (h4 h2).2 hr' p hp
      · simp only [glyL, hq, h2, if_false, List.mem_cons] at hp
        rcases hp with rfl | hp
        · exact hs
        · exact glyL_has G r n hn.2 hr' p hp
theorem glyL_pos (D : FontD) : ∀ (r : List Int) (so : Int), 0 < (glyL D so r).length
  | [], _ => by simp [glyL]
  | n :: r, so => by
    simp only [glyL]
    split
    · split
      · exact glyL_pos D r _
      · simp
    · simp
theorem setB_iff {D : FontD} {l : List Int} : setB D l = true ↔ ∀ x ∈ l, oneB D x = true := by simp [setB]
theorem backD {D : FontD} {m : MapN} (G : Good D m) {l : List Int} (h : setB D l = true) : expL m ((glyD D l).map (·.1)) = l := by
  rw [setB_iff] at h
  cases l with
  | nil => simp [glyD, expL]
  | cons a r =>
    have ha := h a (by simp)
    simp only [oneB, Bool.and_eq_true, decide_eq_true_eq] at ha
    rw [glyD, back G r a ha.2 (fun x hx => h x (by simp [hx])), expC_none (G.fine.low (by omega))]
    rfl
theorem glyD_has {D : FontD} {m : MapN} (G : Good D m) {l : List Int} (h : setB D l = true) : ∀ p ∈ glyD D l, hasB D p.1 = true := by
  rw [setB_iff] at h
  cases l with
  | nil => simp [glyD]
  | cons a r =>
    have ha := h a (by simp)
    simp only [oneB, Bool.and_eq_true, decide_eq_true_eq] at ha
    exact glyL_has G r a ha.2 (fun x hx => h x (by simp [hx]))

/-- What is expanded stays. -/
theorem exp1_out {D : FontD} {m : MapN} (F : Fine D m) : ∀ (f : Nat) (c : Int), (∀ p, m c = some p → c < f) → ∀ y ∈ exp1 m f c, m y = none
  | 0, c, h, y, hy => by
    simp [exp1] at hy
    subst hy
    cases hm : m y with
    | none => rfl
    | some p => have := h p hm; have := F.lt y p hm; omega
  | f + 1, c, h, y, hy => by
    rw [exp1] at hy
    cases hm : m c with
    | none => simp [hm] at hy; subst hy; exact hm
    | some p =>
      simp only [hm, List.mem_append, List.mem_singleton] at hy
      have h1 := h p hm
      have h2 := F.key c p hm
      rcases hy with hy | rfl
      · exact exp1_out F f p.1 (fun q hq => by omega) y hy
      · exact F.low h2.2.2.2.2.2.1
theorem expL_out {D : FontD} {m : MapN} (F : Fine D m) {l : List Int} : ∀ y ∈ expL m l, m y = none := by
  intro y hy
  obtain ⟨c, _, hc⟩ := List.mem_flatMap.1 hy
  exact exp1_out F 300 c (fun p hp => by have := F.lt c p hp; omega) y hc
theorem expL_stays {m : MapN} : ∀ {l : List Int}, (∀ y ∈ l, m y = none) → expL m l = l
  | [], _ => rfl
  | c :: r, h => by rw [expL_cons, expC_none (h c (by simp)), expL_stays (fun y hy => h y (by simp [hy]))]; rfl
theorem expL_twice {D : FontD} {m : MapN} (F : Fine D m) (l : List Int) : expL m (expL m l) = expL m l := expL_stays (expL_out F)
end L08
end Go.Proofs.Ytijhabhnhglhgaa

