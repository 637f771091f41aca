/- Contracts of layer 2's calls: Floor, Nearest, Rest. -/
import Derived.Test.YtllajmggopgimaaMul02
namespace Go.Proofs.Ytllajmggopgimaa
open Go.RowKit
namespace L02

/-- A number that was made, if the call may be, and it is not too great; and the error. -/
def keptV (m : Bool) (n : Int) : Int := if m = true ∧ fitB n = true then n else 0
def keptE (m : Bool) (n : Int) : Int := if m = true then (if fitB n = true then 0 else 20) else 1
theorem kept_yes {m : Bool} {n : Int} (h : m = true) (k : fitB n = true) : keptV m n = n ∧ keptE m n = 0 := by simp [keptV, keptE, h, k]
theorem kept_wide {m : Bool} {n : Int} (h : m = true) (k : fitB n = false) : keptV m n = 0 ∧ keptE m n = 20 := by simp [keptV, keptE, h, k]
theorem kept_no {m : Bool} (n : Int) (h : m = false) : keptV m n = 0 ∧ keptE m n = 1 := by simp [keptV, keptE, h]
def restV (a b c : Int) : Int := if mayB a b c = true then a * b % c else 0
def restE (a b c : Int) : Int := if mayB a b c = true then 0 else 1

theorem ifs_two (p : Prop) [Decidable p] (n m : Int) (h : p) : (if p then n else m) = n := if_pos h

theorem floor_any (a b c : Int) (w : World) :
    Calls Try.prog 11 #[.int .i64 a, .int .i64 b, .int .i64 c] w (Ret w (.tuple #[.int .i64 (keptV (mayB a b c) (a * b / c)), .int .i64 (keptE (mayB a b c) (a * b / c))])) := by
  cases h : mayB a b c with
  | false =>
    rw [(kept_no _ rfl).1, (kept_no _ rfl).2]
    have H := Lib.hid h
    clear h
    go_enter Try.func11, Try.ntmps11
    go_wp2_with fail
    refine (divide_no _ _ _ H.out _).mono ?_; rintro e w1 ⟨rfl, x1⟩
    go_wp2_with fail
    go_ret2
    exact ⟨rfl, x1⟩
  | true =>
    have hf := divN_fit h 0 (.inl rfl)
    rw [Int.add_zero, Int.add_zero] at hf
    have H := Lib.hid h
    clear h
    cases k : fitB (a * b / c) with
    | false =>
      rw [(kept_wide rfl k).1, (kept_wide rfl k).2]
      have e := hf.1.trans k
      clear hf k
      go_enter Try.func11, Try.ntmps11
      go_wp2_with fail
      refine (divide_yes _ _ _ H.out _).mono ?_; rintro e w1 ⟨rfl, x1⟩
      go_wp2_with fail
      refine (wide_any _ _).mono ?_; rintro e w2 ⟨rfl, rfl⟩
      go_wp2_with fail
      go_ret2
      exact ⟨rfl, x1⟩
    | true =>
      rw [(kept_yes rfl k).1, (kept_yes rfl k).2]
      have e := hf.1.trans k
      have e2 := hf.2 k
      rw [e2] at e
      have E2 := Lib.hid e2
      clear hf k e2
      go_enter Try.func11, Try.ntmps11
      go_wp2_with fail
      refine (divide_yes _ _ _ H.out _).mono ?_; rintro e w1 ⟨rfl, x1⟩
      rw [E2.out]
      go_wp2_with fail
      refine (wide_any _ _).mono ?_; rintro e w2 ⟨rfl, rfl⟩
      go_wp2_with fail
      go_ret2
      exact ⟨rfl, x1⟩

theorem rest_any (a b c : Int) (w : World) :
    Calls Try.prog 15 #[.int .i64 a, .int .i64 b, .int .i64 c] w (Ret w (.tuple #[.int .i64 (restV a b c), .int .i64 (restE a b c)])) := by
  cases h : mayB a b c with
  | false =>
    rw [show restV a b c = 0 from if_neg (by simp [h]), show restE a b c = 1 from if_neg (by simp [h])]
    have H := Lib.hid h
    clear h
    go_enter Try.func15, Try.ntmps15
    go_wp2_with fail
    refine (divide_no _ _ _ H.out _).mono ?_; rintro e w1 ⟨rfl, x1⟩
    go_wp2_with fail
    go_ret2
    exact ⟨rfl, x1⟩
  | true =>
    rw [show restV a b c = a * b % c from if_pos h, show restE a b c = 0 from if_pos h]
    have H := Lib.hid h
    clear h
    go_enter Try.func15, Try.ntmps15
    go_wp2_with fail
    refine (divide_yes _ _ _ H.out _).mono ?_; rintro e w1 ⟨rfl, x1⟩
    go_wp2_with fail
    go_ret2
    exact ⟨rfl, x1⟩

theorem divN_in {a b c : Int} : -4611686018427387905 ≤ divN a b c ∧ divN a b c ≤ 4611686018427387904 ∨ ¬ mayB a b c = true := by
  cases h : mayB a b c with
  | false => exact .inr (by simp)
  | true =>
    have h' := mayB_iff.1 h
    obtain ⟨ha, hb, hc, hc'⟩ := h'
    have hp := mul_le (mag_le ha) (mag_le hb)
    have hq0 : 0 ≤ mag a * mag b / c := Int.ediv_nonneg hp.1 (by omega)
    refine .inl ?_
    unfold divN
    clear hp
    generalize mag a * mag b / c = q at *
    split
    · split <;> omega
    · omega

theorem nearest_any (a b c : Int) (w : World) :
    Calls Try.prog 13 #[.int .i64 a, .int .i64 b, .int .i64 c] w (Ret w (.tuple #[.int .i64 (keptV (mayB a b c) (a * b / c + up a b c)), .int .i64 (keptE (mayB a b c) (a * b / c + up a b c))])) := by
  cases h : mayB a b c with
  | false =>
    rw [(kept_no _ rfl).1, (kept_no _ rfl).2]
    have H := Lib.hid h
    clear h
    go_enter Try.func13, Try.ntmps13
    go_wp2_with fail
    refine (divide_no _ _ _ H.out _).mono ?_; rintro e w1 ⟨rfl, x1⟩
    go_wp2_with fail
    go_ret2
    exact ⟨rfl, x1⟩
  | true =>
    have hin := (divN_in (a := a) (b := b) (c := c)).resolve_right (by simp [h])
    obtain ⟨hin1, hin2⟩ := hin
    have hm := mayB_iff.1 h
    have hr0 := Int.emod_nonneg (a * b) (show c ≠ 0 by omega)
    have hr1 := Int.emod_lt_of_pos (a * b) (show 0 < c by omega)
    have hc' := hm.2.2.2
    clear hm
    have cD := Lib.hid (fun w => divide_yes a b c h w)
    by_cases hu : c ≤ 2 * (a * b % c)
    · have hf := divN_fit h 1 (.inr ⟨rfl, hu⟩)
      rw [show up a b c = 1 from if_pos hu]
      clear h
      generalize gN : divN a b c = N at *
      generalize gr : a * b % c = r at *
      generalize gq : a * b / c = q at *
      clear gN gr gq
      cases k : fitB (q + 1) with
      | false =>
        rw [(kept_wide rfl k).1, (kept_wide rfl k).2]
        have e := hf.1.trans k
        clear hf k
        go_enter Try.func13, Try.ntmps13
        go_wp2_with fail
        refine (cD.out _).mono ?_; rintro e w1 ⟨rfl, x1⟩
        go_wp2_with fail
        refine (wide_any _ _).mono ?_; rintro e w2 ⟨rfl, rfl⟩
        go_wp2_with fail
        go_ret2
        exact ⟨rfl, x1⟩
      | true =>
        rw [(kept_yes rfl k).1, (kept_yes rfl k).2]
        have e := hf.1.trans k
        have e2 := hf.2 k
        obtain rfl : N = q := by omega
        clear hf k e2
        go_enter Try.func13, Try.ntmps13
        go_wp2_with fail
        refine (cD.out _).mono ?_; rintro e w1 ⟨rfl, x1⟩
        go_wp2_with fail
        refine (wide_any _ _).mono ?_; rintro e w2 ⟨rfl, rfl⟩
        go_wp2_with fail
        go_ret2
        exact ⟨rfl, x1⟩
    · have hf := divN_fit h 0 (.inl rfl)
      rw [show up a b c = 0 from if_neg hu]
      clear h
      generalize gN : divN a b c = N at *
      generalize gr : a * b % c = r at *
      generalize gq : a * b / c = q at *
      clear gN gr gq
      simp only [Int.add_zero] at hf ⊢
      cases k : fitB q with
      | false =>
        rw [(kept_wide rfl k).1, (kept_wide rfl k).2]
        have e := hf.1.trans k
        clear hf k
        go_enter Try.func13, Try.ntmps13
        go_wp2_with fail
        refine (cD.out _).mono ?_; rintro e w1 ⟨rfl, x1⟩
        go_wp2_with fail
        refine (wide_any _ _).mono ?_; rintro e w2 ⟨rfl, rfl⟩
        go_wp2_with fail
        go_ret2
        exact ⟨rfl, x1⟩
      | true =>
        rw [(kept_yes rfl k).1, (kept_yes rfl k).2]
        have e := hf.1.trans k
        have e2 := hf.2 k
        obtain rfl : N = q := by omega
        clear hf k e2
        go_enter Try.func13, Try.ntmps13
        go_wp2_with fail
        refine (cD.out _).mono ?_; rintro e w1 ⟨rfl, x1⟩
        go_wp2_with fail
        refine (wide_any _ _).mono ?_; rintro e w2 ⟨rfl, rfl⟩
        go_wp2_with fail
        go_ret2
        exact ⟨rfl, x1⟩

theorem kept_cases (m : Bool) (n : Int) : (m = true ∧ fitB n = true ∧ keptV m n = n ∧ keptE m n = 0) ∨ (keptV m n = 0 ∧ (keptE m n = 1 ∨ keptE m n = 20) ∧ (m = false ∨ fitB n = false)) := by
  cases h : m with
  | false => exact .inr ⟨(kept_no n rfl).1, .inl (kept_no n rfl).2, .inl rfl⟩
  | true =>
    cases k : fitB n with
    | false => exact .inr ⟨(kept_wide rfl k).1, .inr (kept_wide rfl k).2, .inr rfl⟩
    | true => exact .inl ⟨rfl, rfl, (kept_yes rfl k).1, (kept_yes rfl k).2⟩
theorem rest_yes {a b c : Int} (h : mayB a b c = true) : restV a b c = a * b % c ∧ restE a b c = 0 := ⟨if_pos h, if_pos h⟩
theorem rest_no {a b c : Int} (h : mayB a b c = false) : restV a b c = 0 ∧ restE a b c = 1 := ⟨if_neg (by simp [h]), if_neg (by simp [h])⟩
/-- An error that there is, in the walk's words. -/
theorem err_ne {e : Int} (h : e = 1 ∨ e = 20) : (e == 0) = false ∧ (e != 0) = true := by
  rcases h with rfl | rfl <;> exact ⟨rfl, rfl⟩

/-- The calls at numbers. -/
theorem floor_at {a b c v x : Int} {w : World} (hv : keptV (mayB a b c) (a * b / c) = v) (hx : keptE (mayB a b c) (a * b / c) = x) :
    Calls Try.prog 11 #[.int .i64 a, .int .i64 b, .int .i64 c] w (Ret w (.tuple #[.int .i64 v, .int .i64 x])) := by
  have h := floor_any a b c w; rw [hv, hx] at h; exact h
theorem nearest_at {a b c v x : Int} {w : World} (hv : keptV (mayB a b c) (a * b / c + up a b c) = v) (hx : keptE (mayB a b c) (a * b / c + up a b c) = x) :
    Calls Try.prog 13 #[.int .i64 a, .int .i64 b, .int .i64 c] w (Ret w (.tuple #[.int .i64 v, .int .i64 x])) := by
  have h := nearest_any a b c w; rw [hv, hx] at h; exact h
theorem rest_at {a b c v x : Int} {w : World} (hv : restV a b c = v) (hx : restE a b c = x) :
    Calls Try.prog 15 #[.int .i64 a, .int .i64 b, .int .i64 c] w (Ret w (.tuple #[.int .i64 v, .int .i64 x])) := by
  have h := rest_any a b c w; rw [hv, hx] at h; exact h
theorem floor_ok {a b c q : Int} (hm : mayB a b c = true) (hq : a * b / c = q) (hf : fitB q = true) (w : World) : Calls Try.prog 11 #[.int .i64 a, .int .i64 b, .int .i64 c] w (Ret w (.tuple #[.int .i64 q, .int .i64 0])) := by
  have h := floor_any a b c w
  rw [hm, hq, (kept_yes rfl hf).1, (kept_yes rfl hf).2] at h; exact h
theorem rest_ok {a b c r : Int} (hm : mayB a b c = true) (hr : a * b % c = r) (w : World) : Calls Try.prog 15 #[.int .i64 a, .int .i64 b, .int .i64 c] w (Ret w (.tuple #[.int .i64 r, .int .i64 0])) := by
  have h := rest_any a b c w
  rw [(rest_yes hm).1, (rest_yes hm).2, hr] at h; exact h
theorem nearest_ok {a b c q : Int} (hm : mayB a b c = true) (hq : a * b / c + up a b c = q) (hf : fitB q = true) (w : World) : Calls Try.prog 13 #[.int .i64 a, .int .i64 b, .int .i64 c] w (Ret w (.tuple #[.int .i64 q, .int .i64 0])) := by
  have h := nearest_any a b c w
  rw [hm, hq, (kept_yes rfl hf).1, (kept_yes rfl hf).2] at h; exact h

theorem awake_any (w : World) : Calls Try.prog 10 #[] w (Ret w (.bool true)) := by
  go_enter Try.func10, Try.ntmps10
  go_wp2_with fail
  refine (floor_at (v := -4) (x := 0) (by decide) (by decide)).mono ?_; rintro e w1 ⟨rfl, x1⟩
  go_wp2_with fail
  refine (nearest_at (v := -3) (x := 0) (by decide) (by decide)).mono ?_; rintro e w2 ⟨rfl, x2⟩
  go_wp2_with fail
  refine (rest_at (v := 1) (x := 0) (by decide) (by decide)).mono ?_; rintro e w3 ⟨rfl, x3⟩
  go_wp2_with fail
  refine (floor_at (v := 4611686018427387903) (x := 0) (by decide) (by decide)).mono ?_; rintro e w4 ⟨rfl, x4⟩
  go_wp2_with fail
  refine (floor_at (v := 0) (x := 20) (by decide) (by decide)).mono ?_; rintro e w5 ⟨rfl, x5⟩
  go_wp2_with fail
  refine (floor_at (v := 0) (x := 1) (by decide) (by decide)).mono ?_; rintro e w6 ⟨rfl, x6⟩
  go_wp2_with fail
  go_ret
  exact ⟨rfl, ((((x1.trans x2).trans x3).trans x4).trans x5).trans x6⟩
end L02
end Go.Proofs.Ytllajmggopgimaa

