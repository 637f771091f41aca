/- Contracts of layer 2's calls: Floor, Nearest, Rest. -/
import Derived.Test.YtpkmpbpifbpomaaMul02
namespace Go.Proofs.Ytpkmpbpifbpomaa
open Go.RowKit
namespace L02

/-- A number that was made, if the call may be, and it is not too great; and the error. -/
def keptV (m : Bool) (n : Int) : Int := if m = true ∧ fitB n = true then n else 0
def keptE (m : Bool) (n : Int) : Int := if m = true then (if fitB n = true then 0 else 20) else 1
theorem kept_yes {m : Bool} {n : Int} (h : m = true) (k : fitB n = true) : keptV m n = n ∧ keptE m n = 0 := by simp [keptV, keptE, h, k]
theorem kept_wide {m : Bool} {n : Int} (h : m = true) (k : fitB n = false) : keptV m n = 0 ∧ keptE m n = 20 := by simp [keptV, keptE, h, k]
theorem kept_no {m : Bool} (n : Int) (h : m = false) : keptV m n = 0 ∧ keptE m n = 1 := by simp [keptV, keptE, h]
def restV (a b c : Int) : Int := if mayB a b c = true then a * b % c else 0
def restE (a b c : Int) : Int := if mayB a b c = true then 0 else 1

theorem ifs_two (p : Prop) [Decidable p] (n m : Int) (h : p) : (if p then n else m) = n := if_pos h

theorem floor_any (a b c : Int) (w : World) :
    Calls Try.prog 98 #[.int .i64 a, .int .i64 b, .int .i64 c] w (Ret w (.tuple #[.int .i64 (keptV (mayB a b c) (a * b / c)), .int .i64 (keptE (mayB a b c) (a * b / c))])) := by
  cases h : mayB a b c with
  | false =>
    rw [(kept_no _ rfl).1, (kept_no _ rfl).2]
    have H := Lib.hid h
    clear h
    go_enter Try.func98, Try.ntmps98
    go_wp2_with fail
    refine (divide_no _ _ _ H.out _).mono ?_; rintro e w1 ⟨rfl, x1⟩
    go_wp2_with fail
    go_ret2
    exact ⟨rfl, x1⟩
  | true =>
    have hf := divN_fit h 0 (.inl rfl)
    rw [Int.add_zero, Int.add_zero] at hf
    have H := Lib.hid h
    clear h
    cases k : fitB (a * b / c) with
    | false =>
      rw [(kept_wide rfl k).1, (kept_wide rfl k).2]
      have e := hf.1.trans k
      clear hf k
      go_enter Try.func98, Try.ntmps98
      go_wp2_with fail
      refine (divide_yes _ _ _ H.out _).mono ?_; rintro e w1 ⟨rfl, x1⟩
      go_wp2_with fail
      refine (wide_any _ _).mono ?_; rintro e w2 ⟨rfl, rfl⟩
      go_wp2_with fail
      go_ret2
      exact ⟨rfl, x1⟩
    | true =>
      rw [(kept_yes rfl k).1, (kept_yes rfl k).2]
      have e := hf.1.trans k
      have e2 := hf.2 k
      rw [e2] at e
      have E2 := Lib.hid e2
      clear hf k e2
      go_enter Try.func98, Try.ntmps98
      go_wp2_with fail
      refine (divide_yes _ _ _ H.out _).mono ?_; rintro e w1 ⟨rfl, x1⟩
      rw [E2.out]
      go_wp2_with fail
      refine (wide_any _ _).mono ?_; rintro e w2 ⟨rfl, rfl⟩
      go_wp2_with fail
      go_ret2
      exact ⟨rfl, x1⟩

theorem divN_in {a b c : Int} : -4611686018427387905 ≤ divN a b c ∧ divN a b c ≤ 4611686018427387904 ∨ ¬ mayB a b c = true := by
  cases h : mayB a b c with
  | false => exact .inr (by simp)
  | true =>
    have h' := mayB_iff.1 h
    obtain ⟨ha, hb, hc, hc'⟩ := h'
    have hp := mul_le (mag_le ha) (mag_le hb)
    have hq0 : 0 ≤ mag a * mag b / c := Int.ediv_nonneg hp.1 (by omega)
    refine .inl ?_
    unfold divN
    clear hp
    generalize mag a * mag b / c = q at *
    split
    · split <;> omega
    · omega

theorem kept_cases (m : Bool) (n : Int) : (m = true ∧ fitB n = true ∧ keptV m n = n ∧ keptE m n = 0) ∨ (keptV m n = 0 ∧ (keptE m n = 1 ∨ keptE m n = 20) ∧ (m = false ∨ fitB n = false)) := by
  cases h : m with
  | false => exact .inr ⟨(kept_no n rfl).1, .inl (kept_no n rfl).2, .inl rfl⟩
  | true =>
    cases k : fitB n with
    | false => exact .inr ⟨(kept_wide rfl k).1, .inr (kept_wide rfl k).2, .inr rfl⟩
    | true => exact .inl ⟨rfl, rfl, (kept_yes rfl k).1, (kept_yes rfl k).2⟩
theorem rest_yes {a b c : Int} (h : mayB a b c = true) : restV a b c = a * b % c ∧ restE a b c = 0 := ⟨if_pos h, if_pos h⟩
theorem rest_no {a b c : Int} (h : mayB a b c = false) : restV a b c = 0 ∧ restE a b c = 1 := ⟨if_neg (by simp [h]), if_neg (by simp [h])⟩
/-- An error that there is, in the walk's words. -/
theorem err_ne {e : Int} (h : e = 1 ∨ e = 20) : (e == 0) = false ∧ (e != 0) = true := by
  rcases h with rfl | rfl <;> exact ⟨rfl, rfl⟩

/-- The calls at numbers. -/
theorem floor_at {a b c v x : Int} {w : World} (hv : keptV (mayB a b c) (a * b / c) = v) (hx : keptE (mayB a b c) (a * b / c) = x) :
    Calls Try.prog 98 #[.int .i64 a, .int .i64 b, .int .i64 c] w (Ret w (.tuple #[.int .i64 v, .int .i64 x])) := by
  have h := floor_any a b c w; rw [hv, hx] at h; exact h
theorem floor_ok {a b c q : Int} (hm : mayB a b c = true) (hq : a * b / c = q) (hf : fitB q = true) (w : World) : Calls Try.prog 98 #[.int .i64 a, .int .i64 b, .int .i64 c] w (Ret w (.tuple #[.int .i64 q, .int .i64 0])) := by
  have h := floor_any a b c w
  rw [hm, hq, (kept_yes rfl hf).1, (kept_yes rfl hf).2] at h; exact h
end L02
end Go.Proofs.Ytpkmpbpifbpomaa

