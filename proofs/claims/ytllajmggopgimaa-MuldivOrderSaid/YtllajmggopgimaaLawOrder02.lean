/- MuldivOrder: a greater factor, by one that is not below 0, has no lesser floor, and a greater number no greater one of a product that is not below 0: for every input. -/
import Derived.Test.YtllajmggopgimaaMulB02
import Derived.OpenShut
namespace Go.Proofs.Ytllajmggopgimaa
open Go.ChangeShapes Go.WideShapes Go.ChangeAt Go.RowKit
namespace MuldivOrder
open L02

theorem low (a b c d : Int) (h : b < 0 ∨ (0 ≤ b ∧ c < 1) ∨ (0 ≤ b ∧ 1 ≤ c ∧ d < 1)) (w : World) :
    Calls Try.prog 9 #[.int .i64 a, .int .i64 b, .int .i64 c, .int .i64 d] w (Ret w (.bool true)) := by
  rcases h with h | ⟨h0, h⟩ | ⟨h0, h1, h⟩
  all_goals
    go_enter Try.func9, Try.ntmps9
    go_wp2_with fail
    refine (awake_any _).mono ?_; rintro e w1 ⟨rfl, x1⟩
    go_wp2_with fail
    go_ret
    exact ⟨rfl, x1⟩

set_option maxHeartbeats 2000000 in
theorem core (a b c d x e y f p g q h : Int) (hb : 0 ≤ b) (hc : 1 ≤ c) (hd : 1 ≤ d)
    (c1 : ∀ w, Calls Try.prog 11 #[.int .i64 (min a d), .int .i64 b, .int .i64 c] w (Ret w (.tuple #[.int .i64 x, .int .i64 e])))
    (c2 : ∀ w, Calls Try.prog 11 #[.int .i64 (max a d), .int .i64 b, .int .i64 c] w (Ret w (.tuple #[.int .i64 y, .int .i64 f])))
    (c3 : ∀ w, Calls Try.prog 11 #[.int .i64 (max a 0), .int .i64 b, .int .i64 (min c d)] w (Ret w (.tuple #[.int .i64 p, .int .i64 g])))
    (c4 : ∀ w, Calls Try.prog 11 #[.int .i64 (max a 0), .int .i64 b, .int .i64 (max c d)] w (Ret w (.tuple #[.int .i64 q, .int .i64 h])))
    (o1 : ((e == 0) = false ∧ (e != 0) = true) ∨ (e = 0 ∧ (f == 0) = false ∧ (f != 0) = true) ∨ (e = 0 ∧ f = 0 ∧ x ≤ y))
    (o2 : ((g == 0) = false ∧ (g != 0) = true) ∨ (g = 0 ∧ (h == 0) = false ∧ (h != 0) = true) ∨ (g = 0 ∧ h = 0 ∧ q ≤ p)) (w : World) :
    Calls Try.prog 9 #[.int .i64 a, .int .i64 b, .int .i64 c, .int .i64 d] w (Ret w (.bool true)) := by
  have C1 := Lib.hid c1; have C2 := Lib.hid c2; have C3 := Lib.hid c3; have C4 := Lib.hid c4
  clear c1 c2 c3 c4
  rcases o1 with ⟨h1, h2⟩ | ⟨rfl, h1, h2⟩ | ⟨rfl, rfl, h1⟩ <;> rcases o2 with ⟨k1, k2⟩ | ⟨rfl, k1, k2⟩ | ⟨rfl, rfl, k1⟩
  all_goals
    go_enter Try.func9, Try.ntmps9
    go_wp2_with fail
    refine (awake_any _).mono ?_; rintro e w1 ⟨rfl, x1⟩
    go_wp2_with fail
    refine (C1.out _).mono ?_; rintro e w2 ⟨rfl, x2⟩
    go_wp2_with fail
    refine (C2.out _).mono ?_; rintro e w3 ⟨rfl, x3⟩
    go_wp2_with fail
    refine (C3.out _).mono ?_; rintro e w4 ⟨rfl, x4⟩
    go_wp2_with fail
    refine (C4.out _).mono ?_; rintro e w5 ⟨rfl, x5⟩
    go_wp2_with fail
    go_ret
    exact ⟨rfl, (((x1.trans x2).trans x3).trans x4).trans x5⟩

theorem ediv_le {p c d : Int} (hp : 0 ≤ p) (hc : 0 < c) (hd : c ≤ d) : p / d ≤ p / c := by
  rw [Int.le_ediv_iff_mul_le hc]
  have h1 := Int.mul_ediv_add_emod p d
  have h2 := Int.emod_nonneg p (show d ≠ 0 by omega)
  have h3 : 0 ≤ p / d := Int.ediv_nonneg hp (by omega)
  have h4 : p / d * c ≤ p / d * d := Int.mul_le_mul_of_nonneg_left hd h3
  rw [Int.mul_comm] at h1
  omega

theorem two (m m' : Bool) (n n' : Int) (h : n ≤ n') : ((keptE m n == 0) = false ∧ (keptE m n != 0) = true) ∨ (keptE m n = 0 ∧ (keptE m' n' == 0) = false ∧ (keptE m' n' != 0) = true) ∨ (keptE m n = 0 ∧ keptE m' n' = 0 ∧ keptV m n ≤ keptV m' n') := by
  rcases kept_cases m n with ⟨_, _, hv, he⟩ | ⟨_, he, _⟩
  · rcases kept_cases m' n' with ⟨_, _, hv', he'⟩ | ⟨_, he', _⟩
    · exact .inr (.inr ⟨he, he', by rw [hv, hv']; exact h⟩)
    · exact .inr (.inl ⟨he, err_ne he'⟩)
  · exact .inl (err_ne he)
theorem two' (m m' : Bool) (n n' : Int) (h : n' ≤ n) : ((keptE m n == 0) = false ∧ (keptE m n != 0) = true) ∨ (keptE m n = 0 ∧ (keptE m' n' == 0) = false ∧ (keptE m' n' != 0) = true) ∨ (keptE m n = 0 ∧ keptE m' n' = 0 ∧ keptV m' n' ≤ keptV m n) := by
  rcases kept_cases m n with ⟨_, _, hv, he⟩ | ⟨_, he, _⟩
  · rcases kept_cases m' n' with ⟨_, _, hv', he'⟩ | ⟨_, he', _⟩
    · exact .inr (.inr ⟨he, he', by rw [hv, hv']; exact h⟩)
    · exact .inr (.inl ⟨he, err_ne he'⟩)
  · exact .inl (err_ne he)

theorem walk (a : Int) (_ : -9223372036854775808 ≤ a ∧ a ≤ 9223372036854775807) (b : Int) (_ : -9223372036854775808 ≤ b ∧ b ≤ 9223372036854775807) (c : Int) (_ : -9223372036854775808 ≤ c ∧ c ≤ 9223372036854775807) (d : Int) (_ : -9223372036854775808 ≤ d ∧ d ≤ 9223372036854775807) (w : World) :
    Calls Try.prog 9 #[.int .i64 a, .int .i64 b, .int .i64 c, .int .i64 d] w (Ret w (.bool true)) := by
  by_cases hb : b < 0
  · exact low a b c d (.inl hb) w
  by_cases hc : c < 1
  · exact low a b c d (.inr (.inl ⟨by omega, hc⟩)) w
  by_cases hd : d < 1
  · exact low a b c d (.inr (.inr ⟨by omega, by omega, hd⟩)) w
  refine core a b c d _ _ _ _ _ _ _ _ (by omega) (by omega) (by omega) (floor_any _ _ _) (floor_any _ _ _) (floor_any _ _ _) (floor_any _ _ _) ?_ ?_ w
  · refine two _ _ _ _ (Int.ediv_le_ediv (by omega) (Int.mul_le_mul_of_nonneg_right (by omega) (by omega)))
  · refine two' _ _ _ _ (ediv_le (Int.mul_nonneg (by omega) (by omega)) (by omega) (by omega))

set_option maxRecDepth 100000 in
theorem lifted (os : Os) (started : os.Started) (H : Type) (enc : TypeId × Value → H) :
    ReturnsInHanded {} Try.checked os 9 .any (Rows.muldivOrderSpec.pre6 enc Try.prog Try.f9 [] false) (Rows.muldivOrderSpec.post enc Try.prog Try.f9 false true false false) := by
  refine law_lift (C := Try.checked) own started (by kernel_rfl) Try.func9 laidOut rfl rfl Try.underlying4 (by kernel_rfl) ?_
    (ChangeSpec.witness6 (enc := enc) (C := Try.checked) false ⟨#[], #[.int .i64 0, .int .i64 0, .int .i64 0, .int .i64 0], []⟩ 8 (by kernel_rfl) (by kernel_rfl) (by kernel_rfl) (by kernel_rfl)) ?_
  · intro H ds h
    match ds, h with
    | [_, _, _, _], _ => rfl
  · intro W base args ds p hval hA hlt hwt hsh
    rw [Try.params9] at hA hval
    obtain ⟨v0, vs0, d0, ds0, p0, q0, hargs, rfl, rfl, h0, r0⟩ := trodAll_cons hA
    obtain ⟨v1, vs1, d1, ds1, p1, q1, rfl, rfl, rfl, h1, r1⟩ := trodAll_cons r0
    obtain ⟨v2, vs2, d2, ds2, p2, q2, rfl, rfl, rfl, h2, r2⟩ := trodAll_cons r1
    obtain ⟨v3, vs3, d3, ds3, p3, q3, rfl, rfl, rfl, h3, r3⟩ := trodAll_cons r2
    obtain ⟨rfl, rfl, rfl⟩ := trodAll_nil r3
    obtain rfl : args = #[v0, v1, v2, v3] := by cases args; simp_all
    obtain ⟨a0, rfl, rfl, rfl, wf0⟩ := open_int Try.underlying3 (hval 0 3 v0 rfl rfl) h0
    obtain ⟨a1, rfl, rfl, rfl, wf1⟩ := open_int Try.underlying3 (hval 1 3 v1 rfl rfl) h1
    obtain ⟨a2, rfl, rfl, rfl, wf2⟩ := open_int Try.underlying3 (hval 2 3 v2 rfl rfl) h2
    obtain ⟨a3, rfl, rfl, rfl, wf3⟩ := open_int Try.underlying3 (hval 3 3 v3 rfl rfl) h3
    exact walk a0 (bounds_i64 wf0) a1 (bounds_i64 wf1) a2 (bounds_i64 wf2) a3 (bounds_i64 wf3) W 

theorem holds : Rows.MuldivOrderSaid :=
  OpenClaim.holds_of_wide 9 Try.f9 rfl rfl rfl rfl rfl rfl rfl ⟨rfl, rfl, rfl, rfl, rfl⟩ rfl rfl rfl rfl rfl (by kernel_rfl) Try.func9 (by kernel_rfl)
    (of_decide_eq_true (by kernel_rfl)) (by unfold Func.isWrapper; first | (rw [if_pos (by decide +kernel)]; kernel_rfl) | (rw [if_neg (by decide +kernel)]; exact ⟨rfl, rfl⟩))
    (fun os started H enc _ => lifted os started H enc)
end MuldivOrder
end Go.Proofs.Ytllajmggopgimaa

