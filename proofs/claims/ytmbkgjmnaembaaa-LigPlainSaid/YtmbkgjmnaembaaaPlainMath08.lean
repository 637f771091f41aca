/- A font without its steps; the kerns of what is set: plain. -/
import Derived.Test.YtmbkgjmnaembaaaLigMath08
import Derived.Test.YtmbkgjmnaembaaaSet08
namespace Go.Proofs.Ytmbkgjmnaembaaa
open Go.RowKit
namespace L08
open L07

/-- A font without its steps and its characters' tags. -/
def plainD (D : FontD) : FontD := { D with chr := fun i j => match j with | 0 => D.chr i 0 | 1 => D.chr i 1 | 2 => D.chr i 2 | 3 => D.chr i 3 | _ => 0, ns := 0 }
def plainP (P : FontP) (A : Option Addr) (c : Nat) : FontP := { P with xc := A, zc := c, xs := none, zs := 0 }
theorem plain_check {D : FontD} (h : checkB D = true) : checkB (plainD D) = true := by
  simp only [checkB, headB, tabsB, Bool.and_eq_true, decide_eq_true_eq] at h ⊢
  obtain ⟨⟨a1, a2, a3, a4, a5⟩, ⟨b1, b2, b3, b4, b5, b6⟩, c1, c2⟩ := h
  refine ⟨⟨a1, a2, a3, a4, by show 0 ≤ 256; omega⟩, ⟨b1, b2, b3, b4, b5, b6⟩, ?_, rfl⟩
  rw [allB_iff] at c1 ⊢
  intro j hj
  have := c1 j hj
  simp only [chrB, Bool.and_eq_true] at this ⊢
  obtain ⟨d1, d2, d3, d4, _⟩ := this
  exact ⟨d1, d2, d3, d4, rfl⟩
theorem plain_has {D : FontD} {n : Int} (h : checkB D = true) : hasB (plainD D) n = hasB D n := by
  unfold hasB
  rw [h, plain_check h]
  rfl
theorem plain_ok {D : FontD} {P : FontP} (ok : FontOk D P) (A : Option Addr) (c : Nat) (h : D.nc ≤ c ∧ c ≤ maxLen) : FontOk (plainD D) (plainP P A c) := by
  have w0 : Wide 0 := by simp [Wide]
  refine ⟨ok.sum, ok.design, ok.first, fun i j hi hj => ?_, ok.bw, ok.bh, ok.bd, ok.bi, fun i j hi _ => absurd hi (Nat.not_lt_zero i), ok.bk, ok.bp, h, ok.rw, ok.rh, ok.rd, ok.ri, ⟨Nat.le_refl _, Nat.zero_le _⟩, ok.rk, ok.rp⟩
  match j, hj with
  | 0, _ => exact ok.bc i 0 hi (by omega)
  | 1, _ => exact ok.bc i 1 hi (by omega)
  | 2, _ => exact ok.bc i 2 hi (by omega)
  | 3, _ => exact ok.bc i 3 hi (by omega)
  | 4, _ => exact w0
  | 5, _ => exact w0
theorem plain_seen {D : FontD} {P : FontP} {w : World} (sn : SeenFont w D P) {A : Option Addr} (c : Nat) (h : SeenN 6 w A D.nc (plainD D).chr) : SeenFont w (plainD D) (plainP P A c) := by
  obtain ⟨_, s2, s3, s4, s5, _, s7, s8⟩ := sn
  exact ⟨h, s2, s3, s4, s5, SeenN.nil, s7, s8⟩
theorem plain_seq (D : FontD) (j : Nat) : seqC (plainD D) j = [] := rfl
theorem plain_makeL (D : FontD) : ∀ n, makeL (plainD D) n = some (fun _ => none)
  | 0 => rfl
  | n + 1 => by
    rw [makeL, plain_makeL D n]
    show learnC (plainD D) _ n = _
    rw [learnC, plain_seq]
    rfl
theorem plain_lig {D : FontD} (h : checkB (plainD D) = true) : ligB (plainD D) = true := by
  rw [ligB, makeD, if_pos h, plain_makeL]; rfl
theorem plain_gly (D : FontD) : ∀ (r : List Int) (so : Int), glyL (plainD D) so r = (so, 0) :: r.map (fun x => (x, 0))
  | [], _ => rfl
  | n :: r, so => by
    have e : ruleD (plainD D) so n = none := by rw [ruleD, plain_seq]; rfl
    simp only [glyL, e, List.map_cons]
    rw [plain_gly D r n]
theorem plain_glyD (D : FontD) (l : List Int) : glyD (plainD D) l = l.map (fun x => (x, 0)) := by
  cases l with
  | nil => rfl
  | cons a r => exact plain_gly D r a
/-- What the font without steps sets: all its codes, or nothing, and then the font itself sets nothing. -/
theorem plain_set (D : FontD) (l : List Int) : (setR (plainD D) l = (l.map (fun x => (x, 0)), 0)) ∨ (∃ e, e ≠ 0 ∧ setR (plainD D) l = ([], e) ∧ (setR D l).2 ≠ 0) := by
  cases h1 : ligB (plainD D) with
  | true =>
    cases h2 : setB (plainD D) l with
    | true => exact .inl (by rw [setR, h1, h2, plain_glyD]; rfl)
    | false =>
      refine .inr ⟨80, by decide, by rw [setR, h1, h2]; rfl, ?_⟩
      rw [setR]
      cases h3 : ligB D with
      | false => simp
      | true =>
        cases h4 : setB D l with
        | false => simp
        | true =>
          obtain ⟨m, hm⟩ := Option.isSome_iff_exists.1 (show (makeD D).isSome = true from h3)
          have hD := (make_good hm).check
          have : setB (plainD D) l = true := by
            rw [setB_iff] at h4 ⊢
            intro x hx
            have := h4 x hx
            simp only [oneB] at this ⊢
            rw [plain_has hD]
            exact this
          rw [h2] at this; cases this
  | false =>
    refine .inr ⟨70, by decide, by rw [setR, h1]; rfl, ?_⟩
    rw [setR]
    cases h3 : ligB D with
    | false => simp
    | true =>
      obtain ⟨m, hm⟩ := Option.isSome_iff_exists.1 (show (makeD D).isSome = true from h3)
      have := plain_lig (plain_check (make_good hm).check)
      rw [h1] at this; cases this

/-- A kern of the font, or none. -/
def KernOf (D : FontD) (x : Int) : Prop := x = 0 ∨ ∃ q, q < D.nk ∧ D.kd q = x
theorem glyL_kern {D : FontD} {m : MapN} (G : Good D m) : ∀ (r : List Int) (so : Int), hasB D so = true → (∀ x ∈ r, oneB D x = true) → (∀ p ∈ glyL D so r, KernOf D p.2) ∧ ∀ h, ((glyL D so r).getLast h).2 = 0
  | [], so, _, _ => by simp [glyL, KernOf]
  | n :: r, so, hs, hr => by
    have hn := hr n (by simp)
    have hr' := fun x hx => hr x (List.mem_cons_of_mem n hx)
    simp only [oneB, Bool.and_eq_true, decide_eq_true_eq] at hn
    have ih := glyL_kern G r n hn.2 hr'
    have hpos := glyL_pos D r n
    have hne : glyL D n r ≠ [] := fun e => by rw [e] at hpos; simp at hpos
    cases hq : ruleD D so n with
    | none =>
      simp only [glyL, hq]
      refine ⟨fun p hp => ?_, fun h => ?_⟩
      · rcases List.mem_cons.1 hp with rfl | hp
        · exact .inl rfl
        · exact ih.1 p hp
      · rw [List.getLast_cons hne]; exact ih.2 hne
    | some q =>
      obtain ⟨_, _, _, h4, h5⟩ := G.step hs hq
      by_cases h2 : D.stp q 2 = 0
      · simp only [glyL, hq, h2, if_true]
        exact glyL_kern G r _ (h4 h2).2 hr'
      · simp only [glyL, hq, h2, if_false]
        obtain ⟨k1, k2, k3⟩ := h5 h2
        refine ⟨fun p hp => ?_, fun h => ?_⟩
        · rcases List.mem_cons.1 hp with rfl | hp
          · exact .inr ⟨_, by omega, rfl⟩
          · exact ih.1 p hp
        · rw [List.getLast_cons hne]; exact ih.2 hne
theorem set_kern (D : FontD) (l : List Int) : (∀ j, j < (setR D l).1.length → KernOf D ((setR D l).1.getD j (0, 0)).2) ∧ (∀ j, j + 1 = (setR D l).1.length → ((setR D l).1.getD j (0, 0)).2 = 0) := by
  rw [setR]
  cases h1 : ligB D with
  | false => simp
  | true =>
    cases h2 : setB D l with
    | false => simp
    | true =>
      obtain ⟨m, hm⟩ := Option.isSome_iff_exists.1 (show (makeD D).isSome = true from h1)
      have G := make_good hm
      rw [setB_iff] at h2
      cases l with
      | nil => simp [glyD]
      | cons a r =>
        have ha := h2 a (by simp)
        simp only [oneB, Bool.and_eq_true, decide_eq_true_eq] at ha
        obtain ⟨k1, k2⟩ := glyL_kern G r a ha.2 (fun x hx => h2 x (by simp [hx]))
        simp only [if_true, glyD]
        refine ⟨fun j hj => ?_, fun j hj => ?_⟩
        · rw [List.getD, List.getElem?_eq_getElem hj]
          exact k1 _ (List.getElem_mem hj)
        · have hne : glyL D a r ≠ [] := fun e => by rw [e] at hj; simp at hj
          have := k2 hne
          rw [List.getLast_eq_getElem] at this
          rw [List.getD, List.getElem?_eq_getElem (by omega), Option.getD_some]
          rw [← this]
          congr 2
          omega
end L08
end Go.Proofs.Ytmbkgjmnaembaaa

