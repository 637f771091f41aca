/- BadTells: how bad any line is, and its class, are what the document says: for every input. -/
import Derived.Test.YtfooocfkfchihaaFit03
import Derived.Test.YtfooocfkfchihaaRefB03
import Derived.OpenShut
namespace Go.Proofs.Ytfooocfkfchihaa
open Go.ChangeShapes Go.WideShapes Go.ChangeAt Go.RowKit
namespace BadTells
open L03

theorem rfit_any (b : Int) (s : Bool) (w : World) : Calls Try.prog 13 #[.int .i64 b, .bool s] w fun e w' => e = .returned (.int .i64 (fitI b s)) ∧ w = w' := by
  by_cases h1 : b ≤ 12
  · rw [show fitI b s = 1 from if_pos h1]
    go_enter Try.func13, Try.ntmps13
    go_wp2_with fail
    go_ret
    exact ⟨rfl, rfl⟩
  · cases s with
    | true =>
      rw [show fitI b true = 0 from by simp [fitI, h1]]
      go_enter Try.func13, Try.ntmps13
      go_wp2_with fail
      go_ret
      exact ⟨rfl, rfl⟩
    | false =>
      by_cases h2 : b ≤ 99
      · rw [show fitI b false = 2 from by simp [fitI, h1, h2]]
        go_enter Try.func13, Try.ntmps13
        go_wp2_with fail
        go_ret
        exact ⟨rfl, rfl⟩
      · rw [show fitI b false = 3 from by simp [fitI, h1, h2]]
        go_enter Try.func13, Try.ntmps13
        go_wp2_with fail
        go_ret
        exact ⟨rfl, rfl⟩

theorem core (t s b x y : Int) (k : Bool) (c1 : ∀ w, Calls Try.prog 10 #[.int .i64 t, .int .i64 s] w (Ret w (.int .i64 b)))
    (c2 : ∀ w, Calls Try.prog 11 #[.int .i64 t, .int .i64 s] w (Ret w (.int .i64 b)))
    (c3 : ∀ w, Calls Try.prog 12 #[.int .i64 b, .bool k] w fun e w' => e = .returned (.int .i64 x) ∧ w = w')
    (c4 : ∀ w, Calls Try.prog 13 #[.int .i64 b, .bool k] w fun e w' => e = .returned (.int .i64 x) ∧ w = w')
    (c5 : ∀ w, Calls Try.prog 12 #[.int .i64 t, .bool k] w fun e w' => e = .returned (.int .i64 y) ∧ w = w')
    (c6 : ∀ w, Calls Try.prog 13 #[.int .i64 t, .bool k] w fun e w' => e = .returned (.int .i64 y) ∧ w = w') (w : World) :
    Calls Try.prog 3 #[.int .i64 t, .int .i64 s, .bool k] w (Ret w (.bool true)) := by
  have C1 := Lib.hid c1; have C2 := Lib.hid c2; have C3 := Lib.hid c3; have C4 := Lib.hid c4; have C5 := Lib.hid c5; have C6 := Lib.hid c6
  clear c1 c2 c3 c4 c5 c6
  go_enter Try.func3, Try.ntmps3
  go_wp2_with fail
  refine (awake_any _).mono ?_; rintro e w1 ⟨rfl, x1⟩
  go_wp2_with fail
  refine (C1.out _).mono ?_; rintro e w2 ⟨rfl, x2⟩
  go_wp2_with fail
  refine (C2.out _).mono ?_; rintro e w3 ⟨rfl, x3⟩
  go_wp2_with fail
  refine (C3.out _).mono ?_; rintro e w4 ⟨rfl, rfl⟩
  go_wp2_with fail
  refine (C4.out _).mono ?_; rintro e w4 ⟨rfl, rfl⟩
  go_wp2_with fail
  refine (C5.out _).mono ?_; rintro e w4 ⟨rfl, rfl⟩
  go_wp2_with fail
  refine (C6.out _).mono ?_; rintro e w4 ⟨rfl, rfl⟩
  go_wp2_with fail
  go_ret
  exact ⟨rfl, (x1.trans x2).trans x3⟩

theorem walk (t : Int) (_ : -9223372036854775808 ≤ t ∧ t ≤ 9223372036854775807) (s : Int) (_ : -9223372036854775808 ≤ s ∧ s ≤ 9223372036854775807) (k : Bool) (w : World) :
    Calls Try.prog 3 #[.int .i64 t, .int .i64 s, .bool k] w (Ret w (.bool true)) :=
  core t s _ _ _ k (bad_any t s) (rbad_any t s) (fit_any _ k) (rfit_any _ k) (fit_any t k) (rfit_any t k) w

set_option maxRecDepth 100000 in
theorem lifted (os : Os) (started : os.Started) (H : Type) (enc : TypeId × Value → H) :
    ReturnsInHanded {} Try.checked os 3 .any (Rows.badTellsSpec.pre6 enc Try.prog Try.f3 [] false) (Rows.badTellsSpec.post enc Try.prog Try.f3 false true false false) := by
  refine law_lift (C := Try.checked) own started (by kernel_rfl) Try.func3 laidOut rfl rfl Try.underlying4 (by kernel_rfl) ?_
    (ChangeSpec.witness6 (enc := enc) (C := Try.checked) false ⟨#[], #[.int .i64 0, .int .i64 0, .bool false], []⟩ 8 (by kernel_rfl) (by kernel_rfl) (by kernel_rfl) (by kernel_rfl)) ?_
  · intro H ds h
    match ds, h with
    | [_, _, _], _ => rfl
  · intro W base args ds p hval hA hlt hwt hsh
    rw [Try.params3] at hA hval
    obtain ⟨v0, vs0, d0, ds0, p0, q0, hargs, rfl, rfl, h0, r0⟩ := trodAll_cons hA
    obtain ⟨v1, vs1, d1, ds1, p1, q1, rfl, rfl, rfl, h1, r1⟩ := trodAll_cons r0
    obtain ⟨v2, vs2, d2, ds2, p2, q2, rfl, rfl, rfl, h2, r2⟩ := trodAll_cons r1
    obtain ⟨rfl, rfl, rfl⟩ := trodAll_nil r2
    obtain rfl : args = #[v0, v1, v2] := by cases args; simp_all
    obtain ⟨a0, rfl, rfl, rfl, wf0⟩ := open_int Try.underlying3 (hval 0 3 v0 rfl rfl) h0
    obtain ⟨a1, rfl, rfl, rfl, wf1⟩ := open_int Try.underlying3 (hval 1 3 v1 rfl rfl) h1
    obtain ⟨a2, rfl, rfl, rfl⟩ := open_bool Try.underlying4 (hval 2 4 v2 rfl rfl) h2
    exact walk a0 (bounds_i64 wf0) a1 (bounds_i64 wf1) a2 W 

theorem holds : Rows.BadTellsSaid :=
  OpenClaim.holds_of_wide 3 Try.f3 rfl rfl rfl rfl rfl rfl rfl ⟨rfl, rfl, rfl, rfl, rfl⟩ rfl rfl rfl rfl rfl (by kernel_rfl) Try.func3 (by kernel_rfl)
    (of_decide_eq_true (by kernel_rfl)) (by unfold Func.isWrapper; first | (rw [if_pos (by decide +kernel)]; kernel_rfl) | (rw [if_neg (by decide +kernel)]; exact ⟨rfl, rfl⟩))
    (fun os started H enc _ => lifted os started H enc)
end BadTells
end Go.Proofs.Ytfooocfkfchihaa

