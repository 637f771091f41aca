/- Contracts of the document's three calls of layer 2. -/
import Derived.Test.YtllajmggopgimaaRefB02
import Derived.Deep.DeepCutAuto
namespace Go.Proofs.Ytllajmggopgimaa
open Go.RowKit
namespace L02

theorem size_any (n : Int) (h : -9223372036854775807 ≤ n ∧ n ≤ 9223372036854775807) (w : World) :
    Calls Try.prog 27 #[.int .i64 n] w fun e w' => e = .returned (.int .i64 (mag n)) ∧ w = w' := by
  obtain ⟨h1, h2⟩ := h
  by_cases k : n < 0
  · rw [mag_neg k]
    go_enter Try.func27, Try.ntmps27
    go_wp2
    go_ret
    exact ⟨rfl, rfl⟩
  · rw [mag_pos k]
    go_enter Try.func27, Try.ntmps27
    go_wp2
    go_ret
    exact ⟨rfl, rfl⟩

theorem may_ref (a b c : Int) (w : World) :
    Calls Try.prog 19 #[.int .i64 a, .int .i64 b, .int .i64 c] w fun e w' => e = .returned (.bool (mayB a b c)) ∧ w = w' := by
  have em : mayB a b c = (decide (-4611686018427387903 ≤ a) && decide (a ≤ 4611686018427387903) && decide (-4611686018427387903 ≤ b) && decide (b ≤ 4611686018427387903) && decide (1 ≤ c) && decide (c ≤ 4611686018427387903)) := by
    rw [Bool.eq_iff_iff, mayB_iff]; simp; omega
  rw [em]
  clear em
  by_cases h1 : -4611686018427387903 ≤ a <;> by_cases h2 : a ≤ 4611686018427387903 <;> by_cases h3 : -4611686018427387903 ≤ b <;> by_cases h4 : b ≤ 4611686018427387903 <;> by_cases h5 : 1 ≤ c <;> first | omega | skip
  all_goals
    go_enter Try.func19, Try.ntmps19
    go_wp2
    go_ret
    exact ⟨ret_bool (by first | (simp [*]; done) | (simp [*]; omega)), rfl⟩

theorem kept_ref (q : Int) (t : Bool) (w : World) :
    Calls Try.prog 21 #[.int .i64 q, .bool t] w fun e w' => e = .returned (.tuple #[.int .i64 (if t = true ∧ fitB q = true then q else 0), .int .i64 (if t = true ∧ fitB q = true then 0 else 20)]) ∧ w = w' := by
  cases t with
  | false =>
    simp only [Bool.false_eq_true, false_and, if_false]
    go_enter Try.func21, Try.ntmps21
    go_wp2
    go_ret2
    exact ⟨rfl, rfl⟩
  | true =>
    by_cases h1 : 4611686018427387903 < q
    · have hf : fitB q = false := fitB_not.2 (.inr h1)
      simp only [hf, Bool.false_eq_true, and_false, if_false]
      clear hf
      go_enter Try.func21, Try.ntmps21
      go_wp2
      go_ret2
      exact ⟨rfl, rfl⟩
    · by_cases h2 : q < -4611686018427387903
      · have hf : fitB q = false := fitB_not.2 (.inl h2)
        simp only [hf, Bool.false_eq_true, and_false, if_false, and_true, if_true]
        clear hf
        go_enter Try.func21, Try.ntmps21
        go_wp2
        go_ret2
        exact ⟨rfl, rfl⟩
      · have hf : fitB q = true := fitB_iff.2 ⟨by omega, by omega⟩
        simp only [hf, Bool.false_eq_true, and_false, if_false, and_true, if_true]
        clear hf
        go_enter Try.func21, Try.ntmps21
        go_wp2
        go_ret2
        exact ⟨rfl, rfl⟩

/-- The product is below 0. -/
def minusB (a b : Int) : Bool := (decide (a < 0) && decide (0 < b)) || (decide (0 < a) && decide (b < 0))
theorem minus_yes {a b : Int} (h : minusB a b = true) : a * b = -(mag a * mag b) := by
  unfold minusB at h
  refine mag_mul_other ?_
  unfold belowB
  simp only [Bool.or_eq_true, Bool.and_eq_true, decide_eq_true_eq] at h
  rcases h with ⟨h1, h2⟩ | ⟨h1, h2⟩
  · have : ¬ b < 0 := by omega
    simp [h1, this]
  · have : ¬ a < 0 := by omega
    simp [h2, this]
theorem minus_no {a b : Int} (h : minusB a b = false) : a * b = mag a * mag b := by
  by_cases ha : a = 0
  · subst ha; simp [mag]
  · by_cases hb : b = 0
    · subst hb; simp [mag]
    · refine mag_mul_same ?_
      unfold minusB at h
      unfold belowB
      by_cases ka : a < 0 <;> by_cases kb : b < 0
      · simp [ka, kb]
      · have : 0 < b := by omega
        simp [ka, this] at h
      · have : 0 < a := by omega
        simp [kb, this] at h
      · simp [ka, kb]

def BothRet (a b c : Int) (w : World) (e : Ending) (w' : World) : Prop :=
  ∃ (q : Int) (t : Bool), e = .returned (.tuple #[.int .i64 q, .bool t, .int .i64 (a * b % c)]) ∧
    ((t = true ∧ q = a * b / c ∧ -4611686018427387904 ≤ q ∧ q ≤ 4611686018427387904) ∨ (t = false ∧ q = 0 ∧ (a * b / c < -4611686018427387904 ∨ 4611686018427387904 < a * b / c))) ∧ Ext w w'

theorem both_ref (a b c : Int) (h : mayB a b c = true) (w : World) :
    Calls Try.prog 20 #[.int .i64 a, .int .i64 b, .int .i64 c] w (BothRet a b c w) := by
  obtain ⟨ha, hb, hc, hc'⟩ := mayB_iff.1 h
  have hma := mag_le ha
  have hmb := mag_le hb
  have hp := mul_le hma hmb
  have HP1 := Lib.hid hp.1
  have HP2 := Lib.hid hp.2
  have HMA := Lib.hid hma
  have HMB := Lib.hid hmb
  have HA := Lib.hid ha
  have HB := Lib.hid hb
  clear h hma hmb hp ha hb
  go_enter Try.func20, Try.ntmps20
  go_wp2_with fail
  refine (size_any a (by have := HA.out; omega) _).mono ?_; rintro e w0 ⟨rfl, rfl⟩
  go_wp2_with fail
  refine (size_any b (by have := HB.out; omega) _).mono ?_; rintro e w0 ⟨rfl, rfl⟩
  go_wp2_with fail
  refine (product_some _ _ HMA.out.1 (by have := HMA.out; omega) HMB.out.1 (by have := HMB.out; omega) _).mono ?_
  rintro e w1 ⟨o0, o1, o2, o3, o4, o5, o6, o7, h8, rfl, x1⟩
  have H8 := Lib.hid h8
  clear h8
  go_wp2_with fail
  refine (divide_ref _ _ _ _ _ _ _ _ _ _ H8.out HP1.out HP2.out hc hc' _).mono ?_
  rintro e w2 ⟨n, m, t, hat, rfl, x2⟩
  have hn0 := hat.n0
  have hn1 := hat.n1
  have hm0 : 0 ≤ m := by rw [hat.rest]; exact Int.emod_nonneg _ (by omega)
  have hm1 : m < c := by rw [hat.rest]; exact Int.emod_lt_of_pos _ (by omega)
  have AT := Lib.hid hat
  clear hat
  go_upto_region 2 with (fail)
  go_cut [12] (fun s wx => s = .bool (minusB a b) ∧ wx = w2)
  case first =>
    rcases Int.lt_trichotomy a 0 with ka | ka | ka <;> rcases Int.lt_trichotomy b 0 with kb | kb | kb
    all_goals
      try subst ka
      try subst kb
      try (have ka' : ¬ 0 < a := by omega)
      try (have ka' : ¬ a < 0 := by omega)
      try (have kb' : ¬ 0 < b := by omega)
      try (have kb' : ¬ b < 0 := by omega)
      go_wp2_with fail
      go_meet
      exact ⟨congrArg _ (by unfold minusB; simp [*]), rfl⟩
  case rest =>
    obtain ⟨rfl, rfl⟩ := hcut
    cases km : minusB a b with
    | false =>
      have e1 := Lib.hid (minus_no km)
      clear km
      cases t with
      | false =>
        go_wp2_with fail
        go_ret3
        exact ⟨0, false, by rw [e1.out, ← AT.out.rest]; rfl, .inr ⟨rfl, rfl, by rw [e1.out]; rcases AT.out.quo with ⟨k, _⟩ | ⟨_, k⟩; (cases k); omega⟩, x1.trans x2⟩
      | true =>
        by_cases k1 : 4611686018427387904 < n
        · go_wp2_with fail
          go_ret3
          exact ⟨0, false, by rw [e1.out, ← AT.out.rest]; rfl, .inr ⟨rfl, rfl, by rw [e1.out]; rcases AT.out.quo with ⟨_, k⟩ | ⟨k, _⟩; omega; cases k⟩, x1.trans x2⟩
        · go_wp2_with fail
          go_ret3
          exact ⟨n, true, by rw [e1.out, ← AT.out.rest]; rfl, .inl ⟨rfl, by rw [e1.out]; (rcases AT.out.quo with ⟨_, k⟩ | ⟨k, _⟩; exact k; cases k), by omega, by omega⟩, x1.trans x2⟩
    | true =>
      have e1 := Lib.hid (minus_yes km)
      have e2 := Lib.hid (neg_div (p := mag a * mag b) (c := c) (by omega))
      clear km
      by_cases km : m = 0
      · subst km
        cases t with
        | false =>
          go_wp2_with fail
          go_ret3
          refine ⟨0, false, by rw [e1.out, e2.out.2, ← AT.out.rest]; rfl, .inr ⟨rfl, rfl, ?_⟩, x1.trans x2⟩
          rw [e1.out, e2.out.1, ← AT.out.rest, if_pos rfl]
          rcases AT.out.quo with ⟨k, _⟩ | ⟨_, k⟩
          · cases k
          · omega
        | true =>
          have hq : n = mag a * mag b / c := by
            rcases AT.out.quo with ⟨_, k⟩ | ⟨k, _⟩
            · exact k
            · cases k
          have HQ := Lib.hid hq
          clear hq
          by_cases k1 : 4611686018427387904 < n
          · go_wp2_with fail
            go_ret3
            refine ⟨0, false, by rw [e1.out, e2.out.2, ← AT.out.rest]; rfl, .inr ⟨rfl, rfl, ?_⟩, x1.trans x2⟩
            rw [e1.out, e2.out.1, ← AT.out.rest, if_pos rfl, ← HQ.out]
            omega
          · go_wp2_with fail
            go_ret3
            refine ⟨-n, true, by rw [e1.out, e2.out.2, ← AT.out.rest]; rfl, .inl ⟨rfl, ?_, by omega, by omega⟩, x1.trans x2⟩
            rw [e1.out, e2.out.1, ← AT.out.rest, if_pos rfl, ← HQ.out]
      · have km' : 0 < m := by omega
        have er : a * b % c = c - m := by rw [e1.out, e2.out.2, ← AT.out.rest, if_neg km]
        have eq : a * b / c = -(mag a * mag b / c) - 1 := by rw [e1.out, e2.out.1, ← AT.out.rest, if_neg km]
        have ER := Lib.hid er
        have EQ := Lib.hid eq
        clear er eq
        cases t with
        | false =>
          go_wp2_with fail
          go_ret3
          refine ⟨0, false, by rw [ER.out]; rfl, .inr ⟨rfl, rfl, ?_⟩, x1.trans x2⟩
          rw [EQ.out]
          rcases AT.out.quo with ⟨k, _⟩ | ⟨_, k⟩
          · cases k
          · omega
        | true =>
          have hq : n = mag a * mag b / c := by
            rcases AT.out.quo with ⟨_, k⟩ | ⟨k, _⟩
            · exact k
            · cases k
          have HQ := Lib.hid hq
          clear hq
          rcases Int.lt_trichotomy n 4611686018427387904 with k1 | k1 | k1
          · have k2 : (n == 4611686018427387904) = false := by simp; omega
            have k3 : ¬ 4611686018427387904 < n := by omega
            go_wp2_with fail
            go_ret3
            refine ⟨-(n + 1), true, by rw [ER.out]; rfl, .inl ⟨rfl, ?_, by omega, by omega⟩, x1.trans x2⟩
            rw [EQ.out, ← HQ.out]; omega
          · subst k1
            go_wp2_with fail
            go_ret3
            refine ⟨0, false, by rw [ER.out]; rfl, .inr ⟨rfl, rfl, ?_⟩, x1.trans x2⟩
            rw [EQ.out, ← HQ.out]; omega
          · go_wp2_with fail
            go_ret3
            refine ⟨0, false, by rw [ER.out]; rfl, .inr ⟨rfl, rfl, ?_⟩, x1.trans x2⟩
            rw [EQ.out, ← HQ.out]; omega

theorem floor_ref (a b c : Int) (w : World) :
    Calls Try.prog 12 #[.int .i64 a, .int .i64 b, .int .i64 c] w (Ret w (.tuple #[.int .i64 (keptV (mayB a b c) (a * b / c)), .int .i64 (keptE (mayB a b c) (a * b / c))])) := by
  cases h : mayB a b c with
  | false =>
    rw [(kept_no _ rfl).1, (kept_no _ rfl).2]
    go_enter Try.func12, Try.ntmps12
    go_wp2_with fail
    refine (may_ref _ _ _ _).mono ?_; rintro e w1 ⟨rfl, rfl⟩
    go_wp2_with fail
    go_ret2
    exact ⟨rfl, Ext.refl _⟩
  | true =>
    have H := Lib.hid h
    go_enter Try.func12, Try.ntmps12
    go_wp2_with fail
    refine (may_ref _ _ _ _).mono ?_; rintro e w1 ⟨rfl, rfl⟩
    go_wp2_with fail
    refine (both_ref _ _ _ H.out _).mono ?_; rintro e w2 ⟨q, t, rfl, hq, x2⟩
    have HQ := Lib.hid hq
    clear hq
    go_wp2_with fail
    refine (kept_ref _ _ _).mono ?_; rintro e w3 ⟨rfl, rfl⟩
    have hr : (if t = true ∧ fitB q = true then q else 0) = keptV true (a * b / c) ∧ (if t = true ∧ fitB q = true then (0 : Int) else 20) = keptE true (a * b / c) := by
      unfold keptV keptE
      rcases HQ.out with ⟨rfl, rfl, _⟩ | ⟨rfl, rfl, k⟩
      · exact ⟨rfl, by simp⟩
      · have hf : fitB (a * b / c) = false := fitB_not.2 (by omega)
        rw [hf]; exact ⟨rfl, rfl⟩
    rw [hr.1, hr.2]
    clear hr
    go_wp2_with fail
    go_ret2
    exact ⟨rfl, x2⟩

theorem rest_ref (a b c : Int) (w : World) :
    Calls Try.prog 16 #[.int .i64 a, .int .i64 b, .int .i64 c] w (Ret w (.tuple #[.int .i64 (restV a b c), .int .i64 (restE a b c)])) := by
  cases h : mayB a b c with
  | false =>
    rw [(rest_no h).1, (rest_no h).2]
    go_enter Try.func16, Try.ntmps16
    go_wp2_with fail
    refine (may_ref _ _ _ _).mono ?_; rintro e w1 ⟨rfl, rfl⟩
    go_wp2_with fail
    go_ret2
    exact ⟨rfl, Ext.refl _⟩
  | true =>
    rw [(rest_yes h).1, (rest_yes h).2]
    have H := Lib.hid h
    go_enter Try.func16, Try.ntmps16
    go_wp2_with fail
    refine (may_ref _ _ _ _).mono ?_; rintro e w1 ⟨rfl, rfl⟩
    go_wp2_with fail
    refine (both_ref _ _ _ H.out _).mono ?_; rintro e w2 ⟨q, t, rfl, hq, x2⟩
    clear hq
    go_wp2_with fail
    go_ret2
    exact ⟨rfl, x2⟩

theorem nearest_ref (a b c : Int) (w : World) :
    Calls Try.prog 14 #[.int .i64 a, .int .i64 b, .int .i64 c] w (Ret w (.tuple #[.int .i64 (keptV (mayB a b c) (a * b / c + up a b c)), .int .i64 (keptE (mayB a b c) (a * b / c + up a b c))])) := by
  cases h : mayB a b c with
  | false =>
    rw [(kept_no _ rfl).1, (kept_no _ rfl).2]
    go_enter Try.func14, Try.ntmps14
    go_wp2_with fail
    refine (may_ref _ _ _ _).mono ?_; rintro e w1 ⟨rfl, rfl⟩
    go_wp2_with fail
    go_ret2
    exact ⟨rfl, Ext.refl _⟩
  | true =>
    have hm := mayB_iff.1 h
    have hr0 := Int.emod_nonneg (a * b) (show c ≠ 0 by omega)
    have hr1 := Int.emod_lt_of_pos (a * b) (show 0 < c by omega)
    have hc' := hm.2.2.2
    have hc := hm.2.2.1
    clear hm
    have CB := Lib.hid (fun w => both_ref a b c h w)
    have hfin : ∀ (q : Int) (t : Bool) (u : Int), ((t = true ∧ q = a * b / c ∧ -4611686018427387904 ≤ q ∧ q ≤ 4611686018427387904) ∨ (t = false ∧ q = 0 ∧ (a * b / c < -4611686018427387904 ∨ 4611686018427387904 < a * b / c))) → (u = 0 ∨ u = 1) → up a b c = u →
        (if t = true ∧ fitB (q + u) = true then q + u else 0) = keptV true (a * b / c + up a b c) ∧ (if t = true ∧ fitB (q + u) = true then (0 : Int) else 20) = keptE true (a * b / c + up a b c) := by
      intro q t u hq hu hup
      rw [hup]
      unfold keptV keptE
      rcases hq with ⟨rfl, rfl, _⟩ | ⟨rfl, rfl, k⟩
      · exact ⟨rfl, by simp⟩
      · have hf : fitB (a * b / c + u) = false := fitB_not.2 (by omega)
        rw [hf]; exact ⟨rfl, rfl⟩
    have hup : up a b c = if c ≤ 2 * (a * b % c) then 1 else 0 := rfl
    have FIN := Lib.hid hfin
    have UP := Lib.hid hup
    have HM := Lib.hid h
    clear hfin hup
    generalize gr : a * b % c = r at *
    generalize gV : keptV true (a * b / c + up a b c) = V at *
    generalize gE : keptE true (a * b / c + up a b c) = E at *
    by_cases k : c ≤ 2 * r
    · have U1 : Hid (up a b c = 1) := Lib.hid (by rw [UP.out, if_pos k])
      go_enter Try.func14, Try.ntmps14
      go_wp2_with fail
      refine (may_ref _ _ _ _).mono ?_; rintro e w1 ⟨rfl, rfl⟩
      go_wp2_with fail
      refine (CB.out _).mono ?_; rintro e w2 ⟨q, t, rfl, hq, x2⟩
      rw [gr]
      have hq1 : -4611686018427387904 ≤ q ∧ q ≤ 4611686018427387904 := by omega
      obtain ⟨hq1, hq2⟩ := hq1
      have HQ := Lib.hid hq
      clear hq
      go_wp2_with fail
      refine (kept_ref _ _ _).mono ?_; rintro e w3 ⟨rfl, rfl⟩
      have hr := FIN.out q t 1 HQ.out (.inr rfl) U1.out
      rw [hr.1, hr.2]
      clear hr
      go_wp2_with fail
      go_ret2
      exact ⟨rfl, x2⟩
    · have U1 : Hid (up a b c = 0) := Lib.hid (by rw [UP.out, if_neg k])
      go_enter Try.func14, Try.ntmps14
      go_wp2_with fail
      refine (may_ref _ _ _ _).mono ?_; rintro e w1 ⟨rfl, rfl⟩
      go_wp2_with fail
      refine (CB.out _).mono ?_; rintro e w2 ⟨q, t, rfl, hq, x2⟩
      rw [gr]
      have hq1 : -4611686018427387904 ≤ q ∧ q ≤ 4611686018427387904 := by omega
      obtain ⟨hq1, hq2⟩ := hq1
      have HQ := Lib.hid hq
      clear hq
      go_wp2_with fail
      refine (kept_ref _ _ _).mono ?_; rintro e w3 ⟨rfl, rfl⟩
      have hr := FIN.out q t 0 HQ.out (.inl rfl) U1.out
      rw [Int.add_zero] at hr
      rw [hr.1, hr.2]
      clear hr
      go_wp2_with fail
      go_ret2
      exact ⟨rfl, x2⟩
end L02
end Go.Proofs.Ytllajmggopgimaa

