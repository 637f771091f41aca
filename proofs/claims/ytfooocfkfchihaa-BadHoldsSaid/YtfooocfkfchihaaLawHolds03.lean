/- BadHolds: a badness is that which its two bounds say, and a line's class goes by it: for every input. -/
import Derived.Test.YtfooocfkfchihaaBadMath03
import Derived.OpenShut
namespace Go.Proofs.Ytfooocfkfchihaa
open Go.ChangeShapes Go.WideShapes Go.ChangeAt Go.RowKit
namespace BadHolds
open L03

theorem core (t s x y b f c2 c3 p1 p2 p3 m1 m2 : Int) (k : Bool) (ht : 0 ≤ t ∧ t ≤ 65535) (hs : 0 ≤ s ∧ s ≤ 65535) (hx : t % 16384 = x) (hy : s % 16384 + 1 = y)
    (c1 : ∀ w, Calls Try.prog 10 #[.int .i64 x, .int .i64 y] w (Ret w (.int .i64 b)))
    (c4 : ∀ w, Calls Try.prog 12 #[.int .i64 b, .bool k] w fun e w' => e = .returned (.int .i64 f) ∧ w = w')
    (hb : 0 ≤ b) (hb' : b ≤ 10000)
    (g1 : y * y = c2) (g2 : c2 * y = c3) (g3 : 200 * x * x = p2) (g4 : p2 * x = p3) (g5 : 2 * b * c3 = m1) (g6 : 2 * (b + 1) * c3 = m2)
    (h1 : 0 ≤ c2 ∧ c2 ≤ 268435456) (h2 : 0 ≤ c3 ∧ c3 ≤ 4398046511104) (h3 : 0 ≤ p2 ∧ p2 ≤ 53687091200) (h4 : 0 ≤ p3 ∧ p3 ≤ 879609302220800) (h5 : 0 ≤ m1 ∧ m1 ≤ 87960930222080000) (h6 : 0 ≤ m2 ∧ m2 ≤ 87969726315102208)
    (hm : m1 ≤ p3 + c3) (hn : b = 10000 ∨ ((b == 10000) = false ∧ p3 + c3 < m2))
    (hf : (f = 1 ∧ b ≤ 12) ∨ (12 < b ∧ ((k = true ∧ f = 0) ∨ (k = false ∧ ((f = 2 ∧ b ≤ 99) ∨ (f = 3 ∧ 99 < b)))))) (w : World) :
    Calls Try.prog 6 #[.int .u16 t, .int .u16 s, .bool k] w (Ret w (.bool true)) := by
  have C1 := Lib.hid c1; have C4 := Lib.hid c4
  have hx1 : 0 ≤ x := by omega
  have hx2 : x ≤ 16383 := by omega
  have hy1 : 0 ≤ s % 16384 := by omega
  have hy2 : s % 16384 ≤ 16383 := by omega
  obtain ⟨ht1, ht2⟩ := ht
  obtain ⟨hs1, hs2⟩ := hs
  clear c1 c4
  rcases hn with rfl | ⟨k1, k2⟩
  all_goals
    rcases hf with ⟨rfl, hf⟩ | ⟨hf, ⟨rfl, rfl⟩ | ⟨rfl, ⟨rfl, hg⟩ | ⟨rfl, hg⟩⟩⟩
    all_goals first
      | (exfalso; omega)
      | (go_enter Try.func6, Try.ntmps6
         go_wp2_with fail
         refine (awake_any _).mono ?_; rintro e w1 ⟨rfl, x1⟩
         go_wp2_with fail
         refine (C1.out _).mono ?_; rintro e w2 ⟨rfl, x2⟩
         go_wp2_with fail
         refine (C4.out _).mono ?_; rintro e w3 ⟨rfl, rfl⟩
         go_wp2_with fail
         go_ret
         exact ⟨by first | rfl | (refine ret_bool ?_; simp; omega), x1.trans x2⟩)

theorem walk (t : Int) (ht : 0 ≤ t ∧ t ≤ 65535) (s : Int) (hs : 0 ≤ s ∧ s ≤ 65535) (k : Bool) (w : World) :
    Calls Try.prog 6 #[.int .u16 t, .int .u16 s, .bool k] w (Ret w (.bool true)) := by
  have hb := bad_in (t % 16384) (s % 16384 + 1)
  generalize gx : t % 16384 = x at *
  generalize gy : s % 16384 + 1 = y at *
  have hx1 : 0 ≤ x := by omega
  have hx2 : x ≤ 16383 := by omega
  have hy1 : 1 ≤ y := by omega
  have hy2 : y ≤ 16384 := by omega
  have h1 : 0 ≤ y * y ∧ y * y ≤ 268435456 := ⟨Int.mul_nonneg (by omega) (by omega), Int.mul_le_mul hy2 hy2 (by omega) (by omega)⟩
  have h2 : 0 ≤ y * y * y ∧ y * y * y ≤ 4398046511104 := ⟨Int.mul_nonneg h1.1 (by omega), Int.mul_le_mul h1.2 hy2 (by omega) (by omega)⟩
  have h3 : 0 ≤ 200 * x * x ∧ 200 * x * x ≤ 53687091200 := ⟨Int.mul_nonneg (by omega) (by omega), Int.le_trans (Int.mul_le_mul (show 200 * x ≤ 3276600 by omega) hx2 hx1 (by omega)) (by omega)⟩
  have h4 : 0 ≤ 200 * x * x * x ∧ 200 * x * x * x ≤ 879609302220800 := ⟨Int.mul_nonneg h3.1 (by omega), Int.le_trans (Int.mul_le_mul h3.2 hx2 hx1 (by omega)) (by omega)⟩
  have h5 : 0 ≤ 2 * badI x y * (y * y * y) ∧ 2 * badI x y * (y * y * y) ≤ 87960930222080000 := ⟨Int.mul_nonneg (by omega) h2.1, Int.mul_le_mul (show 2 * badI x y ≤ 20000 by omega) h2.2 h2.1 (by omega)⟩
  have h6 : 0 ≤ 2 * (badI x y + 1) * (y * y * y) ∧ 2 * (badI x y + 1) * (y * y * y) ≤ 87969726315102208 := ⟨Int.mul_nonneg (by omega) h2.1, Int.mul_le_mul (show 2 * (badI x y + 1) ≤ 20002 by omega) h2.2 h2.1 (by omega)⟩
  have hp := cube_pos (show 0 < y by omega)
  have hmn : 2 * badI x y * (y * y * y) ≤ 200 * x * x * x + y * y * y ∧ (badI x y = 10000 ∨ (((badI x y) == 10000) = false ∧ 200 * x * x * x + y * y * y < 2 * (badI x y + 1) * (y * y * y))) := by
    by_cases hz : x = 0
    · subst hz
      rw [bad_zero y (Int.le_refl 0)]
      refine ⟨by omega, .inr ⟨by decide, by omega⟩⟩
    · rw [bad_plain (by omega) (by omega) (by omega) (by omega), show 200 * x * x * x = 200 * (x * x * x) from by simp only [Int.mul_assoc]]
      rw [bad_plain (by omega) (by omega) (by omega) (by omega)] at hb
      have g1 := (badN_ge (r := y * y * y) (q := 200 * (x * x * x) + y * y * y) (b := badN (y * y * y) (200 * (x * x * x) + y * y * y)) hp hb.2).1 (Int.le_refl _)
      have lem : ∀ n Y : Int, n * (2 * Y) = 2 * n * Y := fun n Y => by rw [Int.mul_left_comm, ← Int.mul_assoc]
      rw [lem] at g1
      refine ⟨g1, ?_⟩
      by_cases he : badN (y * y * y) (200 * (x * x * x) + y * y * y) = 10000
      · exact .inl he
      · have g2 := (badN_lt (r := y * y * y) (q := 200 * (x * x * x) + y * y * y) (b := badN (y * y * y) (200 * (x * x * x) + y * y * y) + 1) hp (by omega)).1 (by omega)
        rw [lem] at g2
        exact .inr ⟨by simpa using he, g2⟩
  refine core t s x y _ (fitI (badI x y) k) _ _ 0 _ _ _ _ k ht hs gx gy (bad_any _ _) (fit_any _ _) hb.1 hb.2 rfl rfl rfl rfl rfl rfl h1 h2 h3 h4 h5 h6 hmn.1 hmn.2 ?_ w
  generalize badI x y = b
  unfold fitI
  by_cases h : b ≤ 12
  · exact .inl ⟨if_pos h, h⟩
  · rw [if_neg h]
    refine .inr ⟨by omega, ?_⟩
    cases k with
    | true => exact .inl ⟨rfl, rfl⟩
    | false =>
      refine .inr ⟨rfl, ?_⟩
      by_cases h' : b ≤ 99
      · exact .inl ⟨by simp [h'], h'⟩
      · exact .inr ⟨by simp [h'], by omega⟩

set_option maxRecDepth 100000 in
theorem lifted (os : Os) (started : os.Started) (H : Type) (enc : TypeId × Value → H) :
    ReturnsInHanded {} Try.checked os 6 .any (Rows.badHoldsSpec.pre6 enc Try.prog Try.f6 [] false) (Rows.badHoldsSpec.post enc Try.prog Try.f6 false true false false) := by
  refine law_lift (C := Try.checked) own started (by kernel_rfl) Try.func6 laidOut rfl rfl Try.underlying4 (by kernel_rfl) ?_
    (ChangeSpec.witness6 (enc := enc) (C := Try.checked) false ⟨#[], #[.int .u16 0, .int .u16 0, .bool false], []⟩ 8 (by kernel_rfl) (by kernel_rfl) (by kernel_rfl) (by kernel_rfl)) ?_
  · intro H ds h
    match ds, h with
    | [_, _, _], _ => rfl
  · intro W base args ds p hval hA hlt hwt hsh
    rw [Try.params6] at hA hval
    obtain ⟨v0, vs0, d0, ds0, p0, q0, hargs, rfl, rfl, h0, r0⟩ := trodAll_cons hA
    obtain ⟨v1, vs1, d1, ds1, p1, q1, rfl, rfl, rfl, h1, r1⟩ := trodAll_cons r0
    obtain ⟨v2, vs2, d2, ds2, p2, q2, rfl, rfl, rfl, h2, r2⟩ := trodAll_cons r1
    obtain ⟨rfl, rfl, rfl⟩ := trodAll_nil r2
    obtain rfl : args = #[v0, v1, v2] := by cases args; simp_all
    obtain ⟨a0, rfl, rfl, rfl, wf0⟩ := open_int Try.underlying29 (hval 0 29 v0 rfl rfl) h0
    obtain ⟨a1, rfl, rfl, rfl, wf1⟩ := open_int Try.underlying29 (hval 1 29 v1 rfl rfl) h1
    obtain ⟨a2, rfl, rfl, rfl⟩ := open_bool Try.underlying4 (hval 2 4 v2 rfl rfl) h2
    exact walk a0 (bounds_u16 wf0) a1 (bounds_u16 wf1) a2 W 

theorem holds : Rows.BadHoldsSaid :=
  OpenClaim.holds_of_wide 6 Try.f6 rfl rfl rfl rfl rfl rfl rfl ⟨rfl, rfl, rfl, rfl, rfl⟩ rfl rfl rfl rfl rfl (by kernel_rfl) Try.func6 (by kernel_rfl)
    (of_decide_eq_true (by kernel_rfl)) (by unfold Func.isWrapper; first | (rw [if_pos (by decide +kernel)]; kernel_rfl) | (rw [if_neg (by decide +kernel)]; exact ⟨rfl, rfl⟩))
    (fun os started H enc _ => lifted os started H enc)
end BadHolds
end Go.Proofs.Ytfooocfkfchihaa

