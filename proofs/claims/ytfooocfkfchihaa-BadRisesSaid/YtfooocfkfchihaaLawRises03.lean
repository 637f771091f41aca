/- BadRises: a greater t is no less bad, a greater s no worse, t of s is a hundred bad, and it is 0 to MaxBad: for every input. -/
import Derived.Test.YtfooocfkfchihaaBadMath03
import Derived.OpenShut
namespace Go.Proofs.Ytfooocfkfchihaa
open Go.ChangeShapes Go.WideShapes Go.ChangeAt Go.RowKit
namespace BadRises
open L03

theorem core (t m s b p q r : Int) (ht : -9223372036854775808 ≤ t ∧ t ≤ 9223372036854775807) (hm : 0 ≤ m ∧ m ≤ 4294967295) (hs : -9223372036854775808 ≤ s ∧ s ≤ 9223372036854775807)
    (c1 : ∀ w, Calls Try.prog 10 #[.int .i64 t, .int .i64 s] w (Ret w (.int .i64 b)))
    (c2 : ∀ w, Calls Try.prog 10 #[.int .i64 (t + m), .int .i64 s] w (Ret w (.int .i64 p)))
    (c3 : ∀ w, Calls Try.prog 10 #[.int .i64 t, .int .i64 (s + m)] w (Ret w (.int .i64 q)))
    (c4 : ∀ w, Calls Try.prog 10 #[.int .i64 s, .int .i64 s] w (Ret w (.int .i64 r)))
    (hb : 0 ≤ b) (hb' : b ≤ 10000) (hp : b ≤ p) (hq : q ≤ b) (hr : 0 < s → r = 100) (w : World) :
    Calls Try.prog 4 #[.int .i64 t, .int .u32 m, .int .i64 s] w (Ret w (.bool true)) := by
  have C1 := Lib.hid c1; have C2 := Lib.hid c2; have C3 := Lib.hid c3; have C4 := Lib.hid c4
  have HR := Lib.hid hr
  obtain ⟨ht1, ht2⟩ := ht
  obtain ⟨hm1, hm2⟩ := hm
  obtain ⟨hs1, hs2⟩ := hs
  clear c1 c2 c3 c4 hr
  by_cases k1 : 1099511627776 < t
  · go_enter Try.func4, Try.ntmps4
    go_wp2_with fail
    refine (awake_any _).mono ?_; rintro e w1 ⟨rfl, x1⟩
    go_wp2_with fail
    refine (C1.out _).mono ?_; rintro e w2 ⟨rfl, x2⟩
    go_wp2_with fail
    go_ret
    exact ⟨rfl, x1.trans x2⟩
  · by_cases k2 : 1099511627776 < s
    · go_enter Try.func4, Try.ntmps4
      go_wp2_with fail
      refine (awake_any _).mono ?_; rintro e w1 ⟨rfl, x1⟩
      go_wp2_with fail
      refine (C1.out _).mono ?_; rintro e w2 ⟨rfl, x2⟩
      go_wp2_with fail
      go_ret
      exact ⟨rfl, x1.trans x2⟩
    · by_cases k3 : s ≤ 0
      · go_enter Try.func4, Try.ntmps4
        go_wp2_with fail
        refine (awake_any _).mono ?_; rintro e w1 ⟨rfl, x1⟩
        go_wp2_with fail
        refine (C1.out _).mono ?_; rintro e w2 ⟨rfl, x2⟩
        go_wp2_with fail
        refine (C2.out _).mono ?_; rintro e w3 ⟨rfl, x3⟩
        go_wp2_with fail
        refine (C3.out _).mono ?_; rintro e w4 ⟨rfl, x4⟩
        go_wp2_with fail
        go_ret
        exact ⟨rfl, ((x1.trans x2).trans x3).trans x4⟩
      · obtain rfl := HR.out (by omega)
        clear HR
        go_enter Try.func4, Try.ntmps4
        go_wp2_with fail
        refine (awake_any _).mono ?_; rintro e w1 ⟨rfl, x1⟩
        go_wp2_with fail
        refine (C1.out _).mono ?_; rintro e w2 ⟨rfl, x2⟩
        go_wp2_with fail
        refine (C2.out _).mono ?_; rintro e w3 ⟨rfl, x3⟩
        go_wp2_with fail
        refine (C3.out _).mono ?_; rintro e w4 ⟨rfl, x4⟩
        go_wp2_with fail
        refine (C4.out _).mono ?_; rintro e w5 ⟨rfl, x5⟩
        go_wp2_with fail
        go_ret
        exact ⟨rfl, (((x1.trans x2).trans x3).trans x4).trans x5⟩

theorem walk (t : Int) (ht : -9223372036854775808 ≤ t ∧ t ≤ 9223372036854775807) (m : Int) (hm : 0 ≤ m ∧ m ≤ 4294967295) (s : Int) (hs : -9223372036854775808 ≤ s ∧ s ≤ 9223372036854775807) (w : World) :
    Calls Try.prog 4 #[.int .i64 t, .int .u32 m, .int .i64 s] w (Ret w (.bool true)) :=
  core t m s _ _ _ _ ht hm hs (bad_any t s) (bad_any (t + m) s) (bad_any t (s + m)) (bad_any s s) (bad_in t s).1 (bad_in t s).2 (bad_mono_t s (by omega)) (bad_mono_s t (by omega)) bad_self w

set_option maxRecDepth 100000 in
theorem lifted (os : Os) (started : os.Started) (H : Type) (enc : TypeId × Value → H) :
    ReturnsInHanded {} Try.checked os 4 .any (Rows.badRisesSpec.pre6 enc Try.prog Try.f4 [] false) (Rows.badRisesSpec.post enc Try.prog Try.f4 false true false false) := by
  refine law_lift (C := Try.checked) own started (by kernel_rfl) Try.func4 laidOut rfl rfl Try.underlying4 (by kernel_rfl) ?_
    (ChangeSpec.witness6 (enc := enc) (C := Try.checked) false ⟨#[], #[.int .i64 0, .int .u32 0, .int .i64 0], []⟩ 8 (by kernel_rfl) (by kernel_rfl) (by kernel_rfl) (by kernel_rfl)) ?_
  · intro H ds h
    match ds, h with
    | [_, _, _], _ => rfl
  · intro W base args ds p hval hA hlt hwt hsh
    rw [Try.params4] at hA hval
    obtain ⟨v0, vs0, d0, ds0, p0, q0, hargs, rfl, rfl, h0, r0⟩ := trodAll_cons hA
    obtain ⟨v1, vs1, d1, ds1, p1, q1, rfl, rfl, rfl, h1, r1⟩ := trodAll_cons r0
    obtain ⟨v2, vs2, d2, ds2, p2, q2, rfl, rfl, rfl, h2, r2⟩ := trodAll_cons r1
    obtain ⟨rfl, rfl, rfl⟩ := trodAll_nil r2
    obtain rfl : args = #[v0, v1, v2] := by cases args; simp_all
    obtain ⟨a0, rfl, rfl, rfl, wf0⟩ := open_int Try.underlying3 (hval 0 3 v0 rfl rfl) h0
    obtain ⟨a1, rfl, rfl, rfl, wf1⟩ := open_int Try.underlying26 (hval 1 26 v1 rfl rfl) h1
    obtain ⟨a2, rfl, rfl, rfl, wf2⟩ := open_int Try.underlying3 (hval 2 3 v2 rfl rfl) h2
    exact walk a0 (bounds_i64 wf0) a1 (bounds_u32 wf1) a2 (bounds_i64 wf2) W 

theorem holds : Rows.BadRisesSaid :=
  OpenClaim.holds_of_wide 4 Try.f4 rfl rfl rfl rfl rfl rfl rfl ⟨rfl, rfl, rfl, rfl, rfl⟩ rfl rfl rfl rfl rfl (by kernel_rfl) Try.func4 (by kernel_rfl)
    (of_decide_eq_true (by kernel_rfl)) (by unfold Func.isWrapper; first | (rw [if_pos (by decide +kernel)]; kernel_rfl) | (rw [if_neg (by decide +kernel)]; exact ⟨rfl, rfl⟩))
    (fun os started H enc _ => lifted os started H enc)
end BadRises
end Go.Proofs.Ytfooocfkfchihaa

