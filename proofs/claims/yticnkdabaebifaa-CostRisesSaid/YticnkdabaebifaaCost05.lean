/- Contracts of layer 5's calls on one and two costs: whether a cost may be, which of two is less, their sum; and of the document's own. -/
import Derived.Test.YticnkdabaebifaaRowF
namespace Go.Proofs.Yticnkdabaebifaa
open Go.RowKit Go.Lib
namespace L05

/-- A cost that may be. -/
def mayB (u d : Int) : Bool := decide (0 ≤ u ∧ u ≤ 300 ∧ -1152921504606846975 ≤ d ∧ d ≤ 1152921504606846975)
def lessB (u d u' d' : Int) : Bool := decide (u < u' ∨ u = u' ∧ d < d')
theorem mayB_iff {u d : Int} : mayB u d = true ↔ 0 ≤ u ∧ u ≤ 300 ∧ -1152921504606846975 ≤ d ∧ d ≤ 1152921504606846975 := by simp [mayB]
theorem lessB_iff {u d u' d' : Int} : lessB u d u' d' = true ↔ u < u' ∨ u = u' ∧ d < d' := by simp [lessB]

theorem less_self (u d : Int) : lessB u d u d = false := decide_eq_false (by omega)
theorem less_not {u d u' d' : Int} (h : lessB u d u' d' = true) : lessB u' d' u d = false := by rw [lessB_iff] at h; exact decide_eq_false (by omega)
theorem less_trans {u d u' d' p q : Int} (h : lessB u d u' d' = true) (k : lessB u' d' p q = true) : lessB u d p q = true := by rw [lessB_iff] at *; omega
theorem less_other {u d u' d' : Int} (h : lessB u d u' d' = false) (k : ¬ u = u' ∨ ¬ d = d') : lessB u' d' u d = true := by
  rw [← Bool.not_eq_true, lessB_iff] at h; rw [lessB_iff]; omega
theorem less_plus (u d u' d' p q : Int) : lessB (u + p) (d + q) (u' + p) (d' + q) = lessB u d u' d' := by
  rw [Bool.eq_iff_iff, lessB_iff, lessB_iff]; omega

theorem check_any (u d : Int) (w : World) : Calls Try.prog 12 #[.agg #[.int .i64 u, .int .i64 d]] w (Ret w (.bool (mayB u d))) := by
  by_cases h1 : 0 ≤ u
  · by_cases h2 : u ≤ 300
    · by_cases h3 : -1152921504606846975 ≤ d
      · by_cases h4 : d ≤ 1152921504606846975
        · rw [show mayB u d = true from mayB_iff.2 ⟨h1, h2, h3, h4⟩]
          go_enter Try.func12, Try.ntmps12
          go_wp2_with fail
          go_ret
          exact ⟨rfl, (Ext.refl _).alloc _⟩
        · rw [show mayB u d = false by simp [mayB, h4]]
          go_enter Try.func12, Try.ntmps12
          go_wp2_with fail
          go_ret
          exact ⟨rfl, (Ext.refl _).alloc _⟩
      · rw [show mayB u d = false by simp [mayB, h3]]
        go_enter Try.func12, Try.ntmps12
        go_wp2_with fail
        go_ret
        exact ⟨rfl, (Ext.refl _).alloc _⟩
    · rw [show mayB u d = false by simp [mayB, h2]]
      go_enter Try.func12, Try.ntmps12
      go_wp2_with fail
      go_ret
      exact ⟨rfl, (Ext.refl _).alloc _⟩
  · rw [show mayB u d = false by simp [mayB, h1]]
    go_enter Try.func12, Try.ntmps12
    go_wp2_with fail
    go_ret
    exact ⟨rfl, (Ext.refl _).alloc _⟩

theorem less_any (u d u' d' : Int) (w : World) : Calls Try.prog 14 #[.agg #[.int .i64 u, .int .i64 d], .agg #[.int .i64 u', .int .i64 d']] w (Ret w (.bool (lessB u d u' d'))) := by
  by_cases h1 : u = u'
  · subst h1
    rw [show lessB u d u d' = decide (d < d') by simp [lessB]]
    go_enter Try.func14, Try.ntmps14
    go_wp2_with fail
    go_ret
    exact ⟨rfl, ((Ext.refl _).alloc _).alloc _⟩
  · rw [show lessB u d u' d' = decide (u < u') by simp [lessB, h1]]
    go_enter Try.func14, Try.ntmps14
    go_wp2_with fail
    go_ret
    exact ⟨rfl, ((Ext.refl _).alloc _).alloc _⟩

theorem rcheck_any (u d : Int) (w : World) : Calls Try.prog 13 #[.agg #[.int .i64 u, .int .i64 d]] w (Ret w (.bool (mayB u d))) := by
  by_cases h1 : 0 ≤ u
  · by_cases h2 : u ≤ 300
    · by_cases h3 : -1152921504606846975 ≤ d
      · by_cases h4 : d ≤ 1152921504606846975
        · rw [show mayB u d = true from mayB_iff.2 ⟨h1, h2, h3, h4⟩]
          go_enter Try.func13, Try.ntmps13
          go_wp2_with fail
          go_ret
          exact ⟨rfl, (Ext.refl _).alloc _⟩
        · rw [show mayB u d = false by simp [mayB, h4]]
          go_enter Try.func13, Try.ntmps13
          go_wp2_with fail
          go_ret
          exact ⟨rfl, (Ext.refl _).alloc _⟩
      · rw [show mayB u d = false by simp [mayB, h3]]
        go_enter Try.func13, Try.ntmps13
        go_wp2_with fail
        go_ret
        exact ⟨rfl, (Ext.refl _).alloc _⟩
    · rw [show mayB u d = false by simp [mayB, h2]]
      go_enter Try.func13, Try.ntmps13
      go_wp2_with fail
      go_ret
      exact ⟨rfl, (Ext.refl _).alloc _⟩
  · rw [show mayB u d = false by simp [mayB, h1]]
    go_enter Try.func13, Try.ntmps13
    go_wp2_with fail
    go_ret
    exact ⟨rfl, (Ext.refl _).alloc _⟩

theorem rless_any (u d u' d' : Int) (w : World) : Calls Try.prog 15 #[.agg #[.int .i64 u, .int .i64 d], .agg #[.int .i64 u', .int .i64 d']] w (Ret w (.bool (lessB u d u' d'))) := by
  by_cases h0 : u < u'
  · rw [show lessB u d u' d' = true by simp [lessB, h0]]
    go_enter Try.func15, Try.ntmps15
    go_wp2_with fail
    go_ret
    exact ⟨rfl, ((Ext.refl _).alloc _).alloc _⟩
  · by_cases h1 : u = u'
    · subst h1
      rw [show lessB u d u d' = decide (d < d') by simp [lessB]]
      go_enter Try.func15, Try.ntmps15
      go_wp2_with fail
      go_ret
      exact ⟨rfl, ((Ext.refl _).alloc _).alloc _⟩
    · rw [show lessB u d u' d' = false by simp [lessB, h0, h1]]
      go_enter Try.func15, Try.ntmps15
      go_wp2_with fail
      go_ret
      exact ⟨rfl, ((Ext.refl _).alloc _).alloc _⟩

theorem check_is {u d : Int} {b : Bool} (h : mayB u d = b) (w : World) : Calls Try.prog 12 #[.agg #[.int .i64 u, .int .i64 d]] w (Ret w (.bool b)) := h ▸ check_any u d w
theorem rcheck_is {u d : Int} {b : Bool} (h : mayB u d = b) (w : World) : Calls Try.prog 13 #[.agg #[.int .i64 u, .int .i64 d]] w (Ret w (.bool b)) := h ▸ rcheck_any u d w
theorem less_is {u d u' d' : Int} {b : Bool} (h : lessB u d u' d' = b) (w : World) : Calls Try.prog 14 #[.agg #[.int .i64 u, .int .i64 d], .agg #[.int .i64 u', .int .i64 d']] w (Ret w (.bool b)) := h ▸ less_any u d u' d' w

/-- Whether two costs have a sum; it; the error. -/
def addB (u d u' d' : Int) : Bool := mayB u d && mayB u' d' && mayB (u + u') (d + d')
def addU (u d u' d' : Int) : Int := if addB u d u' d' then u + u' else 0
def addD (u d u' d' : Int) : Int := if addB u d u' d' then d + d' else 0
def addE (u d u' d' : Int) : Int := if addB u d u' d' then 0 else 50
/-- What an addition answers. -/
def sumV (u d u' d' : Int) : Value := .tuple #[.agg #[.int .i64 (addU u d u' d'), .int .i64 (addD u d u' d')], .int .i64 (addE u d u' d')]
theorem sumV_no {u d u' d' : Int} (h : addB u d u' d' = false) : sumV u d u' d' = .tuple #[.agg #[.int .i64 0, .int .i64 0], .int .i64 50] := by simp [sumV, addU, addD, addE, h]
theorem sumV_yes {u d u' d' : Int} (h : addB u d u' d' = true) : sumV u d u' d' = .tuple #[.agg #[.int .i64 (u + u'), .int .i64 (d + d')], .int .i64 0] := by simp [sumV, addU, addD, addE, h]

/-- The cells that an addition works on. -/
theorem cells3 {W w1 : World} {a b c d : Int} {t : TypeId} (x : Ext (((W.alloc (.cells #[.int .i64 a, .int .i64 b] t)).alloc (.cells #[.int .i64 c, .int .i64 d] t)).alloc (.cells #[.int .i64 0, .int .i64 0] t)) w1) :
    (w1.cell? ⟨W.heap.size, 0, none⟩ = some (.int .i64 a) ∧ w1.cell? ⟨W.heap.size, 1, none⟩ = some (.int .i64 b) ∧ w1.cell? ⟨W.heap.size + 1, 0, none⟩ = some (.int .i64 c) ∧ w1.cell? ⟨W.heap.size + 1, 1, none⟩ = some (.int .i64 d)) ∧
    (w1.cell? ⟨W.heap.size + 1 + 1, 0, none⟩ = some (.int .i64 0) ∧ w1.cell? ⟨W.heap.size + 1 + 1, 1, none⟩ = some (.int .i64 0) ∧ w1.frozen? ⟨W.heap.size + 1 + 1, 0, none⟩ = false ∧ w1.frozen? ⟨W.heap.size + 1 + 1, 1, none⟩ = false) := by
  refine ⟨⟨x.at ?_, x.at ?_, x.at ?_, x.at ?_⟩, x.at ?_, x.at ?_, x.fz (v := .int .i64 0) ?_ ?_, x.fz (v := .int .i64 0) ?_ ?_⟩ <;> simp [go_sem]

theorem add_any (u d u' d' : Int) (w : World) : Calls Try.prog 10 #[.agg #[.int .i64 u, .int .i64 d], .agg #[.int .i64 u', .int .i64 d']] w (Ret w (sumV u d u' d')) := by
  cases h1 : mayB u d with
  | false =>
    rw [sumV_no (by simp [addB, h1])]
    go_enter Try.func10, Try.ntmps10
    go_wp2_with fail
    refine (check_is h1 _).mono ?_; rintro e w1 ⟨rfl, x1⟩
    obtain ⟨_, k0, k1, f0, f1⟩ := cells3 x1
    have X := (((Ext.refl w).alloc _).alloc _).alloc _ |>.trans x1
    go_wp2_with fail
    refine bodyPost_ret (v := .tuple #[.agg #[.int .i64 0, .int .i64 0], .int .i64 50]) (by simp [results, Try.results10, go_sem, k0, k1]) rfl ⟨rfl, ?_⟩
    refine Ext.setCell (Ext.setCell X ?_ _) ?_ _ <;> (show w.heap.size ≤ _; simp; omega)
  | true =>
    cases h2 : mayB u' d' with
    | false =>
      rw [sumV_no (by simp [addB, h1, h2])]
      go_enter Try.func10, Try.ntmps10
      go_wp2_with fail
      refine (check_is h1 _).mono ?_; rintro e w1 ⟨rfl, x1⟩
      have a0 := (cells3 x1).1
      obtain ⟨a0, a1, b0, b1⟩ := a0
      go_wp2_with fail
      refine (check_is h2 _).mono ?_; rintro e w2 ⟨rfl, x2⟩
      obtain ⟨_, k0, k1, f0, f1⟩ := cells3 (x1.trans x2)
      have X := ((((Ext.refl w).alloc _).alloc _).alloc _).trans (x1.trans x2)
      go_wp2_with fail
      refine bodyPost_ret (v := .tuple #[.agg #[.int .i64 0, .int .i64 0], .int .i64 50]) (by simp [results, Try.results10, go_sem, k0, k1]) rfl ⟨rfl, ?_⟩
      refine Ext.setCell (Ext.setCell X ?_ _) ?_ _ <;> (show w.heap.size ≤ _; simp; omega)
    | true =>
      have m1 := mayB_iff.1 h1
      have m2 := mayB_iff.1 h2
      have b1 : -9223372036854775808 ≤ u + u' := by omega
      have b2 : u + u' ≤ 9223372036854775807 := by omega
      have b3 : -9223372036854775808 ≤ d + d' := by omega
      have b4 : d + d' ≤ 9223372036854775807 := by omega
      clear m1 m2
      go_enter Try.func10, Try.ntmps10
      go_wp2_with fail
      refine (check_is h1 _).mono ?_; rintro e w1 ⟨rfl, x1⟩
      obtain ⟨a0, a1, c0, c1⟩ := (cells3 x1).1
      go_wp2_with fail
      refine (check_is h2 _).mono ?_; rintro e w2 ⟨rfl, x2⟩
      obtain ⟨⟨a0, a1, c0, c1⟩, _⟩ := cells3 (x1.trans x2)
      go_wp2_with fail
      cases h3 : mayB (u + u') (d + d') with
      | false =>
        have SV := sumV_no (u := u) (d := d) (u' := u') (d' := d') (by simp [addB, h3])
        refine (check_is h3 _).mono ?_; rintro e w3 ⟨rfl, x3⟩
        have x23 := ((Ext.refl w2).alloc _).trans x3
        obtain ⟨_, k0, k1, f0, f1⟩ := cells3 ((x1.trans x2).trans x23)
        have X := ((((Ext.refl w).alloc _).alloc _).alloc _).trans ((x1.trans x2).trans x23)
        go_wp2_with fail
        refine bodyPost_ret (v := .tuple #[.agg #[.int .i64 0, .int .i64 0], .int .i64 50]) (by simp [results, Try.results10, go_sem, k0, k1]) rfl ⟨by rw [SV], ?_⟩
        refine Ext.setCell (Ext.setCell X ?_ _) ?_ _ <;> (show w.heap.size ≤ _; simp; omega)
      | true =>
        have SV := sumV_yes (u := u) (d := d) (u' := u') (d' := d') (by simp [addB, h1, h2, h3])
        refine (check_is h3 _).mono ?_; rintro e w3 ⟨rfl, x3⟩
        obtain ⟨s0, s1, _, _⟩ := ext_new x3
        have x23 := ((Ext.refl w2).alloc _).trans x3
        obtain ⟨_, k0, k1, f0, f1⟩ := cells3 ((x1.trans x2).trans x23)
        have X := ((((Ext.refl w).alloc _).alloc _).alloc _).trans ((x1.trans x2).trans x23)
        go_wp2_with fail
        refine bodyPost_ret (v := .tuple #[.agg #[.int .i64 (u + u'), .int .i64 (d + d')], .int .i64 0]) (by simp [results, Try.results10, go_sem, k0, k1]) rfl ⟨by rw [SV], ?_⟩
        refine Ext.setCell (Ext.setCell X ?_ _) ?_ _ <;> (show w.heap.size ≤ _; simp; omega)

theorem radd_any (u d u' d' : Int) (w : World) : Calls Try.prog 11 #[.agg #[.int .i64 u, .int .i64 d], .agg #[.int .i64 u', .int .i64 d']] w (Ret w (sumV u d u' d')) := by
  cases h1 : mayB u d with
  | false =>
    rw [sumV_no (by simp [addB, h1])]
    go_enter Try.func11, Try.ntmps11
    go_wp2_with fail
    refine (rcheck_is h1 _).mono ?_; rintro e w1 ⟨rfl, x1⟩
    obtain ⟨a0, a1, b0, b1⟩ := (cells3 x1).1
    go_wp2_with fail
    refine (rcheck_any _ _ _).mono ?_; rintro e w2 ⟨rfl, x2⟩
    obtain ⟨_, k0, k1, f0, f1⟩ := cells3 (x1.trans x2)
    have X := ((((Ext.refl w).alloc _).alloc _).alloc _).trans (x1.trans x2)
    go_wp2_with fail
    refine bodyPost_ret (v := .tuple #[.agg #[.int .i64 0, .int .i64 0], .int .i64 50]) (by simp [results, Try.results11, go_sem, k0, k1]) rfl ⟨rfl, ?_⟩
    refine Ext.setCell (Ext.setCell X ?_ _) ?_ _ <;> (show w.heap.size ≤ _; simp; omega)
  | true =>
    cases h2 : mayB u' d' with
    | false =>
      rw [sumV_no (by simp [addB, h1, h2])]
      go_enter Try.func11, Try.ntmps11
      go_wp2_with fail
      refine (rcheck_is h1 _).mono ?_; rintro e w1 ⟨rfl, x1⟩
      have a0 := (cells3 x1).1
      obtain ⟨a0, a1, b0, b1⟩ := a0
      go_wp2_with fail
      refine (rcheck_is h2 _).mono ?_; rintro e w2 ⟨rfl, x2⟩
      obtain ⟨_, k0, k1, f0, f1⟩ := cells3 (x1.trans x2)
      have X := ((((Ext.refl w).alloc _).alloc _).alloc _).trans (x1.trans x2)
      go_wp2_with fail
      refine bodyPost_ret (v := .tuple #[.agg #[.int .i64 0, .int .i64 0], .int .i64 50]) (by simp [results, Try.results11, go_sem, k0, k1]) rfl ⟨rfl, ?_⟩
      refine Ext.setCell (Ext.setCell X ?_ _) ?_ _ <;> (show w.heap.size ≤ _; simp; omega)
    | true =>
      have m1 := mayB_iff.1 h1
      have m2 := mayB_iff.1 h2
      have b1 : -9223372036854775808 ≤ u + u' := by omega
      have b2 : u + u' ≤ 9223372036854775807 := by omega
      have b3 : -9223372036854775808 ≤ d + d' := by omega
      have b4 : d + d' ≤ 9223372036854775807 := by omega
      clear m1 m2
      go_enter Try.func11, Try.ntmps11
      go_wp2_with fail
      refine (rcheck_is h1 _).mono ?_; rintro e w1 ⟨rfl, x1⟩
      obtain ⟨a0, a1, c0, c1⟩ := (cells3 x1).1
      go_wp2_with fail
      refine (rcheck_is h2 _).mono ?_; rintro e w2 ⟨rfl, x2⟩
      obtain ⟨⟨a0, a1, c0, c1⟩, _⟩ := cells3 (x1.trans x2)
      go_wp2_with fail
      cases h3 : mayB (u + u') (d + d') with
      | false =>
        have SV := sumV_no (u := u) (d := d) (u' := u') (d' := d') (by simp [addB, h3])
        refine (rcheck_is h3 _).mono ?_; rintro e w3 ⟨rfl, x3⟩
        have x23 := ((Ext.refl w2).alloc _).trans x3
        obtain ⟨_, k0, k1, f0, f1⟩ := cells3 ((x1.trans x2).trans x23)
        have X := ((((Ext.refl w).alloc _).alloc _).alloc _).trans ((x1.trans x2).trans x23)
        go_wp2_with fail
        refine bodyPost_ret (v := .tuple #[.agg #[.int .i64 0, .int .i64 0], .int .i64 50]) (by simp [results, Try.results11, go_sem, k0, k1]) rfl ⟨by rw [SV], ?_⟩
        refine Ext.setCell (Ext.setCell X ?_ _) ?_ _ <;> (show w.heap.size ≤ _; simp; omega)
      | true =>
        have SV := sumV_yes (u := u) (d := d) (u' := u') (d' := d') (by simp [addB, h1, h2, h3])
        refine (rcheck_is h3 _).mono ?_; rintro e w3 ⟨rfl, x3⟩
        obtain ⟨s0, s1, _, _⟩ := ext_new x3
        have x23 := ((Ext.refl w2).alloc _).trans x3
        obtain ⟨_, k0, k1, f0, f1⟩ := cells3 ((x1.trans x2).trans x23)
        have X := ((((Ext.refl w).alloc _).alloc _).alloc _).trans ((x1.trans x2).trans x23)
        go_wp2_with fail
        refine bodyPost_ret (v := .tuple #[.agg #[.int .i64 (u + u'), .int .i64 (d + d')], .int .i64 0]) (by simp [results, Try.results11, go_sem, k0, k1]) rfl ⟨by rw [SV], ?_⟩
        refine Ext.setCell (Ext.setCell X ?_ _) ?_ _ <;> (show w.heap.size ≤ _; simp; omega)

end L05
end Go.Proofs.Yticnkdabaebifaa

