/- Layer 3: a line's class, and the calls whose answers the document fixes. -/
import Derived.Test.YtfooocfkfchihaaBad03
namespace Go.Proofs.Ytfooocfkfchihaa
open Go.RowKit
namespace L03

/-- P3.2. -/
def fitI (b : Int) (s : Bool) : Int := if b ≤ 12 then 1 else if s = true then 0 else if b ≤ 99 then 2 else 3
theorem fit_any (b : Int) (s : Bool) (w : World) : Calls Try.prog 12 #[.int .i64 b, .bool s] w fun e w' => e = .returned (.int .i64 (fitI b s)) ∧ w = w' := by
  by_cases h1 : b ≤ 12
  · rw [show fitI b s = 1 from if_pos h1]
    go_enter Try.func12, Try.ntmps12
    go_wp2_with fail
    go_ret
    exact ⟨rfl, rfl⟩
  · cases s with
    | true =>
      rw [show fitI b true = 0 from by simp [fitI, h1]]
      go_enter Try.func12, Try.ntmps12
      go_wp2_with fail
      go_ret
      exact ⟨rfl, rfl⟩
    | false =>
      by_cases h2 : b ≤ 99
      · rw [show fitI b false = 2 from by simp [fitI, h1, h2]]
        go_enter Try.func12, Try.ntmps12
        go_wp2_with fail
        go_ret
        exact ⟨rfl, rfl⟩
      · rw [show fitI b false = 3 from by simp [fitI, h1, h2]]
        go_enter Try.func12, Try.ntmps12
        go_wp2_with fail
        go_ret
        exact ⟨rfl, rfl⟩
theorem bad_at (t s v : Int) (h : badI t s = v) (w : World) : Calls Try.prog 10 #[.int .i64 t, .int .i64 s] w (Ret w (.int .i64 v)) := h ▸ bad_any t s w
theorem fit_at (b : Int) (s : Bool) (v : Int) (h : fitI b s = v) (w : World) : Calls Try.prog 12 #[.int .i64 b, .bool s] w fun e w' => e = .returned (.int .i64 v) ∧ w = w' := h ▸ fit_any b s w

theorem awake_any (w : World) : Calls Try.prog 9 #[] w (Ret w (.bool true)) := by
  go_enter Try.func9, Try.ntmps9
  go_wp2_with fail
  refine (bad_at 1 2 13 (by decide) _).mono ?_; rintro e w1 ⟨rfl, x1⟩
  go_wp2_with fail
  refine (bad_at 5 5 100 (by decide) _).mono ?_; rintro e w2 ⟨rfl, x2⟩
  go_wp2_with fail
  refine (bad_at 0 0 0 (by decide) _).mono ?_; rintro e w3 ⟨rfl, x3⟩
  go_wp2_with fail
  refine (bad_at 1 0 10000 (by decide) _).mono ?_; rintro e w4 ⟨rfl, x4⟩
  go_wp2_with fail
  refine (bad_at (-3) 1 0 (by decide) _).mono ?_; rintro e w5 ⟨rfl, x5⟩
  go_wp2_with fail
  refine (bad_at 1099511627776 2199023255552 100 (by decide) _).mono ?_; rintro e w6 ⟨rfl, x6⟩
  go_wp2_with fail
  refine (fit_at 12 true 1 (by decide) _).mono ?_; rintro e w7 ⟨rfl, rfl⟩
  go_wp2_with fail
  refine (fit_at 13 true 0 (by decide) _).mono ?_; rintro e w7 ⟨rfl, rfl⟩
  go_wp2_with fail
  refine (fit_at 99 false 2 (by decide) _).mono ?_; rintro e w7 ⟨rfl, rfl⟩
  go_wp2_with fail
  refine (fit_at 100 false 3 (by decide) _).mono ?_; rintro e w7 ⟨rfl, rfl⟩
  go_wp2_with fail
  go_ret
  exact ⟨rfl, (((((x1.trans x2).trans x3).trans x4).trans x5).trans x6)⟩
end L03
end Go.Proofs.Ytfooocfkfchihaa

