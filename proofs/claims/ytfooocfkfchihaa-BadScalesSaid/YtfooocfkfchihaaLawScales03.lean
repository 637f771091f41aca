/- BadScales: it is as bad by twice, and four times, the dimensions, and twice as much is eight times as bad, by four at most: for every input. -/
import Derived.Test.YtfooocfkfchihaaBadMath03
import Derived.OpenShut
namespace Go.Proofs.Ytfooocfkfchihaa
open Go.ChangeShapes Go.WideShapes Go.ChangeAt Go.RowKit
namespace BadScales
open L03

theorem core (t s x y b e : Int) (ht : 0 ≤ t ∧ t ≤ 4294967295) (hs : 0 ≤ s ∧ s ≤ 4294967295) (hx : t % 268435456 = x) (hy : s % 268435456 = y)
    (c1 : ∀ w, Calls Try.prog 10 #[.int .i64 x, .int .i64 y] w (Ret w (.int .i64 b)))
    (c2 : ∀ w, Calls Try.prog 10 #[.int .i64 (2 * x), .int .i64 (2 * y)] w (Ret w (.int .i64 b)))
    (c3 : ∀ w, Calls Try.prog 10 #[.int .i64 (4 * x), .int .i64 (4 * y)] w (Ret w (.int .i64 b)))
    (c4 : ∀ w, Calls Try.prog 10 #[.int .i64 (2 * x), .int .i64 y] w (Ret w (.int .i64 e)))
    (hb : 0 ≤ b) (hb' : b ≤ 10000) (he : e = 10000 ∨ ((e == 10000) = false ∧ 8 * b - 4 ≤ e ∧ e ≤ 8 * b + 4)) (w : World) :
    Calls Try.prog 5 #[.int .u32 t, .int .u32 s] w (Ret w (.bool true)) := by
  have C1 := Lib.hid c1; have C2 := Lib.hid c2; have C3 := Lib.hid c3; have C4 := Lib.hid c4
  have hx1 : 0 ≤ x := by omega
  have hx2 : x ≤ 268435455 := by omega
  have hy1 : 0 ≤ y := by omega
  have hy2 : y ≤ 268435455 := by omega
  obtain ⟨ht1, ht2⟩ := ht
  obtain ⟨hs1, hs2⟩ := hs
  clear c1 c2 c3 c4
  rcases he with rfl | ⟨k1, k2, k3⟩
  all_goals
    go_enter Try.func5, Try.ntmps5
    go_wp2_with fail
    refine (awake_any _).mono ?_; rintro e w1 ⟨rfl, x1⟩
    go_wp2_with fail
    refine (C1.out _).mono ?_; rintro e w2 ⟨rfl, x2⟩
    go_wp2_with fail
    refine (C2.out _).mono ?_; rintro e w3 ⟨rfl, x3⟩
    go_wp2_with fail
    refine (C3.out _).mono ?_; rintro e w4 ⟨rfl, x4⟩
    go_wp2_with fail
    refine (C4.out _).mono ?_; rintro e w5 ⟨rfl, x5⟩
    go_wp2_with fail
    go_ret
    exact ⟨rfl, (((x1.trans x2).trans x3).trans x4).trans x5⟩

theorem walk (t : Int) (ht : 0 ≤ t ∧ t ≤ 4294967295) (s : Int) (hs : 0 ≤ s ∧ s ≤ 4294967295) (w : World) :
    Calls Try.prog 5 #[.int .u32 t, .int .u32 s] w (Ret w (.bool true)) := by
  have e2 := bad_twice (k := 2) (t := t % 268435456) (s := s % 268435456) (by omega) (by omega) (by omega) (by omega) (by omega)
  have e4 := bad_twice (k := 4) (t := t % 268435456) (s := s % 268435456) (by omega) (by omega) (by omega) (by omega) (by omega)
  have e8 := bad_eight (t := t % 268435456) (s := s % 268435456) (by omega) (by omega) (by omega) (by omega)
  refine core t s _ _ _ _ ht hs rfl rfl (bad_any _ _) (e2 ▸ bad_any _ _) (e4 ▸ bad_any _ _) (bad_any _ _) (bad_in _ _).1 (bad_in _ _).2 ?_ w
  by_cases h : badI (2 * (t % 268435456)) (s % 268435456) = 10000
  · exact .inl h
  · exact .inr ⟨by simpa using h, by omega, by omega⟩

set_option maxRecDepth 100000 in
theorem lifted (os : Os) (started : os.Started) (H : Type) (enc : TypeId × Value → H) :
    ReturnsInHanded {} Try.checked os 5 .any (Rows.badScalesSpec.pre6 enc Try.prog Try.f5 [] false) (Rows.badScalesSpec.post enc Try.prog Try.f5 false true false false) := by
  refine law_lift (C := Try.checked) own started (by kernel_rfl) Try.func5 laidOut rfl rfl Try.underlying4 (by kernel_rfl) ?_
    (ChangeSpec.witness6 (enc := enc) (C := Try.checked) false ⟨#[], #[.int .u32 0, .int .u32 0], []⟩ 8 (by kernel_rfl) (by kernel_rfl) (by kernel_rfl) (by kernel_rfl)) ?_
  · intro H ds h
    match ds, h with
    | [_, _], _ => rfl
  · intro W base args ds p hval hA hlt hwt hsh
    rw [Try.params5] at hA hval
    obtain ⟨v0, vs0, d0, ds0, p0, q0, hargs, rfl, rfl, h0, r0⟩ := trodAll_cons hA
    obtain ⟨v1, vs1, d1, ds1, p1, q1, rfl, rfl, rfl, h1, r1⟩ := trodAll_cons r0
    obtain ⟨rfl, rfl, rfl⟩ := trodAll_nil r1
    obtain rfl : args = #[v0, v1] := by cases args; simp_all
    obtain ⟨a0, rfl, rfl, rfl, wf0⟩ := open_int Try.underlying26 (hval 0 26 v0 rfl rfl) h0
    obtain ⟨a1, rfl, rfl, rfl, wf1⟩ := open_int Try.underlying26 (hval 1 26 v1 rfl rfl) h1
    exact walk a0 (bounds_u32 wf0) a1 (bounds_u32 wf1) W 

theorem holds : Rows.BadScalesSaid :=
  OpenClaim.holds_of_wide 5 Try.f5 rfl rfl rfl rfl rfl rfl rfl ⟨rfl, rfl, rfl, rfl, rfl⟩ rfl rfl rfl rfl rfl (by kernel_rfl) Try.func5 (by kernel_rfl)
    (of_decide_eq_true (by kernel_rfl)) (by unfold Func.isWrapper; first | (rw [if_pos (by decide +kernel)]; kernel_rfl) | (rw [if_neg (by decide +kernel)]; exact ⟨rfl, rfl⟩))
    (fun os started H enc _ => lifted os started H enc)
end BadScales
end Go.Proofs.Ytfooocfkfchihaa

