/- Contracts of layer 3 (bad). -/
import Derived.Test.YtfooocfkfchihaaWords
import Derived.Test.YtfooocfkfchihaaArrays
namespace Go.Proofs.Ytfooocfkfchihaa
open Go.RowKit
namespace L03

theorem halves_mul (p k : Int) (hp : 0 ≤ p) (hk : 0 ≤ k) :
    (p / 18446744073709551616) * k + (p % 18446744073709551616) * k / 18446744073709551616 = p * k / 18446744073709551616 ∧ (p % 18446744073709551616) * k % 18446744073709551616 = p * k % 18446744073709551616 ∧ 0 ≤ (p / 18446744073709551616) * k ∧ 0 ≤ (p % 18446744073709551616) * k := by
  have e : p * k = 18446744073709551616 * (p / 18446744073709551616 * k) + p % 18446744073709551616 * k := by
    rw [← Int.mul_assoc, ← Int.add_mul, Int.mul_ediv_add_emod]
  have h1 : 0 ≤ p / 18446744073709551616 * k := Int.mul_nonneg (by omega) hk
  have h2 : 0 ≤ p % 18446744073709551616 * k := Int.mul_nonneg (by omega) hk
  generalize p / 18446744073709551616 * k = a at *
  generalize p % 18446744073709551616 * k = b at *
  generalize p * k = c at *
  omega

theorem times_any (p k : Int) (hp : 0 ≤ p) (hk : 0 ≤ k) (hk' : k ≤ 9223372036854775807) (hpk : p * k < 340282366920938463463374607431768211456) (hp' : p < 340282366920938463463374607431768211456) (w : World) :
    Calls Try.prog 17 #[.agg #[.int .u64 (p / 18446744073709551616), .int .u64 (p % 18446744073709551616)], .int .i64 k] w (Ret w (.agg #[.int .u64 (p * k / 18446744073709551616), .int .u64 (p * k % 18446744073709551616)])) := by
  obtain ⟨h1, h2, h3, h4⟩ := halves_mul p k hp hk
  have h5 : p * k / 18446744073709551616 ≤ 18446744073709551615 := by omega
  have b1 : 0 ≤ p / 18446744073709551616 := by omega
  have b2 : p / 18446744073709551616 ≤ 18446744073709551615 := by omega
  have b3 : 0 ≤ p % 18446744073709551616 := by omega
  have b4 : p % 18446744073709551616 ≤ 18446744073709551615 := by omega
  have hpk0 : 0 ≤ p * k := Int.mul_nonneg hp hk
  have hq := Lib.hid hpk
  clear hpk
  generalize gp : p * k = pk at *
  generalize g1 : p / 18446744073709551616 = hi at *
  generalize g2 : p % 18446744073709551616 = lo at *
  have G1 := Lib.hid h1; have G2 := Lib.hid h2
  clear h1 h2 gp g1 g2 hp hp'
  generalize g3 : lo * k = lk at *
  generalize g4 : hi * k = hk at *
  have G3 := Lib.hid g3
  clear g3
  have h6 : hk ≤ 18446744073709551615 := by have := G1.out; omega
  go_enter Try.func17, Try.ntmps17
  go_wp2_with fail
  refine (mul64_any _ _ (by omega) (by omega) (by omega) (by omega) _).mono ?_; rintro e w1 ⟨rfl, rfl⟩
  rw [G3.out]
  have h7 : hk + lk / 18446744073709551616 ≤ 18446744073709551615 := by rw [G1.out]; exact h5
  have h8 : 0 ≤ lk / 18446744073709551616 := by omega
  go_wp2_with fail
  refine bodyPost_ret (v := .agg #[.int .u64 (hk + lk / 18446744073709551616), .int .u64 (lk % 18446744073709551616)]) (by simp [results, Try.results17, go_sem]) rfl ⟨?_, ((Ext.refl _).alloc _).alloc _⟩
  rw [G1.out, G2.out]

theorem cube_any (n : Int) (hn : 0 ≤ n) (hn' : n ≤ 1073741823) (w : World) :
    Calls Try.prog 15 #[.int .i64 n] w (Ret w (.agg #[.int .u64 (n * n * n / 18446744073709551616), .int .u64 (n * n * n % 18446744073709551616)])) := by
  have h1 : 0 ≤ n * n := Int.mul_nonneg hn hn
  have h2 : n * n ≤ 1152921502459363329 := Int.mul_le_mul hn' hn' hn (by omega)
  have h3 : n * n * n ≤ 1152921502459363329 * 1073741823 := Int.mul_le_mul h2 hn' hn (by omega)
  have H3 := Lib.hid h3
  clear h3
  have t1 := times_any n n hn hn (by omega) (by omega) (by omega)
  have t2 := times_any (n * n) n h1 hn (by omega) (by have := H3.out; omega) (by omega)
  have e1 : n / 18446744073709551616 = 0 := by omega
  have e2 : n % 18446744073709551616 = n := by omega
  rw [e1, e2] at t1
  have T1 := Lib.hid t1; have T2 := Lib.hid t2
  clear t1 t2 e1 e2
  go_enter Try.func15, Try.ntmps15
  go_wp2_with fail
  refine (T1.out _).mono ?_; rintro e w1 ⟨rfl, x1⟩
  go_wp2_with fail
  refine (T2.out _).mono ?_; rintro e w2 ⟨rfl, x2⟩
  have x := x1.trans x2
  have k0 := x.at (p := ⟨w.heap.size, 0, none⟩) (v := .int .u64 0) (by simp)
  have k1 := x.at (p := ⟨w.heap.size, 1, none⟩) (v := .int .u64 0) (by simp)
  have f0 := x.fz (p := ⟨w.heap.size, 0, none⟩) (v := .int .u64 0) (by simp) (by simp)
  have f1 := x.fz (p := ⟨w.heap.size, 1, none⟩) (v := .int .u64 0) (by simp) (by simp)
  go_wp2_with fail
  refine bodyPost_ret (v := .agg #[.int .u64 _, .int .u64 _]) (by simp [results, Try.results15, go_sem, k0, k1]) rfl ⟨rfl, ?_⟩
  refine Ext.setCell (Ext.setCell ?_ ?_ _) ?_ _
  · exact ((Ext.refl _).alloc _).trans x
  · simp
  · simp

theorem plus_any (p q : Int) (hp : 0 ≤ p) (hq : 0 ≤ q) (h : p + q < 340282366920938463463374607431768211456) (w : World) :
    Calls Try.prog 16 #[.agg #[.int .u64 (p / 18446744073709551616), .int .u64 (p % 18446744073709551616)], .agg #[.int .u64 (q / 18446744073709551616), .int .u64 (q % 18446744073709551616)]] w (Ret w (.agg #[.int .u64 ((p + q) / 18446744073709551616), .int .u64 ((p + q) % 18446744073709551616)])) := by
  have b1 : 0 ≤ p / 18446744073709551616 := by omega
  have b2 : 0 ≤ p % 18446744073709551616 := by omega
  have b3 : 0 ≤ q / 18446744073709551616 := by omega
  have b4 : 0 ≤ q % 18446744073709551616 := by omega
  have e1 : (p % 18446744073709551616 + q % 18446744073709551616) % 18446744073709551616 = (p + q) % 18446744073709551616 := by omega
  have e2 : (p / 18446744073709551616 + q / 18446744073709551616 + (p % 18446744073709551616 + q % 18446744073709551616) / 18446744073709551616) % 18446744073709551616 = (p + q) / 18446744073709551616 := by omega
  have E1 := Lib.hid e1; have E2 := Lib.hid e2
  have b5 : p % 18446744073709551616 + q % 18446744073709551616 < 36893488147419103232 := by omega
  clear e1 e2 h
  generalize g1 : p / 18446744073709551616 = ph at *
  generalize g2 : p % 18446744073709551616 = pl at *
  generalize g3 : q / 18446744073709551616 = qh at *
  generalize g4 : q % 18446744073709551616 = ql at *
  have k0 : 0 ≤ (pl + ql) / 18446744073709551616 := by omega
  have k1 : (pl + ql) / 18446744073709551616 ≤ 1 := by omega
  clear g1 g2 g3 g4 hp hq
  go_enter Try.func16, Try.ntmps16
  go_wp2_with (first | simp only [add64_run0 pl ql b2 b4] | simp only [add64_run ph qh _ b1 b3 k0 k1])
  refine bodyPost_ret (v := .agg #[.int .u64 ((ph + qh + (pl + ql) / 18446744073709551616) % 18446744073709551616), .int .u64 ((pl + ql) % 18446744073709551616)]) (by simp [results, Try.results16, go_sem]) rfl ⟨?_, (((Ext.refl _).alloc _).alloc _).alloc _⟩
  rw [E1.out, E2.out]

/-- Which of two is less: -1, 0, 1. -/
def sgn (x y : Int) : Int := if x < y then -1 else if y < x then 1 else 0

theorem nan_any (x : Int) (w : World) : Calls Try.prog 30 #[.int .u64 x] w fun e w' => e = .returned (.bool false) ∧ w = w' := by
  go_enter Try.func30, Try.ntmps30
  go_wp2_with fail
  go_ret
  exact ⟨rfl, rfl⟩

theorem cmp64_any (x y : Int) (w : World) : Calls Try.prog 29 #[.int .u64 x, .int .u64 y] w fun e w' => e = .returned (.int .i64 (sgn x y)) ∧ w = w' := by
  by_cases h1 : x < y
  · rw [show sgn x y = -1 from if_pos h1]
    go_enter Try.func29, Try.ntmps29
    go_wp2_with (first | (go_at_call 30; refine (nan_any _ _).mono ?_; rintro e w' ⟨rfl, rfl⟩))
    go_ret
    exact ⟨rfl, rfl⟩
  · by_cases h2 : y < x
    · rw [show sgn x y = 1 from by simp [sgn, h1, h2]]
      go_enter Try.func29, Try.ntmps29
      go_wp2_with (first | (go_at_call 30; refine (nan_any _ _).mono ?_; rintro e w' ⟨rfl, rfl⟩))
      go_ret
      exact ⟨rfl, rfl⟩
    · rw [show sgn x y = 0 from by simp [sgn, h1, h2]]
      go_enter Try.func29, Try.ntmps29
      go_wp2_with (first | (go_at_call 30; refine (nan_any _ _).mono ?_; rintro e w' ⟨rfl, rfl⟩))
      go_ret
      exact ⟨rfl, rfl⟩

def sgn2 (x0 x1 y0 y1 : Int) : Int := if sgn x0 y0 = 0 then sgn x1 y1 else sgn x0 y0
theorem compare_any (a b : Nat) (x0 x1 y0 y1 : Int) (w : World)
    (h1 : w.cell? ⟨a, 0, none⟩ = some (.int .u64 x0)) (h2 : w.cell? ⟨a, 1, none⟩ = some (.int .u64 x1))
    (h3 : w.cell? ⟨b, 0, none⟩ = some (.int .u64 y0)) (h4 : w.cell? ⟨b, 1, none⟩ = some (.int .u64 y1)) :
    Calls Try.prog 28 #[.slice (some ⟨a, 0, none⟩) 2 2, .slice (some ⟨b, 0, none⟩) 2 2] w fun e w' => e = .returned (.int .i64 (sgn2 x0 x1 y0 y1)) ∧ w = w' := by
  by_cases k1 : sgn x0 y0 = 0
  · rw [show sgn2 x0 x1 y0 y1 = sgn x1 y1 from if_pos k1]
    by_cases k2 : sgn x1 y1 = 0
    · rw [k2]
      go_enter Try.func28, Try.ntmps28
      go_wp2_with fail
      refine wp_loop_rounds 3 ?_
      rw [rounds_succ]
      go_wp2_with fail
      refine (cmp64_any _ _ _).mono ?_; rintro e w1 ⟨rfl, rfl⟩
      go_wp2_with fail
      rw [rounds_succ]
      go_wp2_with fail
      refine (cmp64_any _ _ _).mono ?_; rintro e w1 ⟨rfl, rfl⟩
      go_wp2_with fail
      rw [rounds_succ]
      go_wp2_with fail
      go_ret
      exact ⟨rfl, rfl⟩
    · go_enter Try.func28, Try.ntmps28
      go_wp2_with fail
      refine wp_loop_rounds 3 ?_
      rw [rounds_succ]
      go_wp2_with fail
      refine (cmp64_any _ _ _).mono ?_; rintro e w1 ⟨rfl, rfl⟩
      go_wp2_with fail
      rw [rounds_succ]
      go_wp2_with fail
      refine (cmp64_any _ _ _).mono ?_; rintro e w1 ⟨rfl, rfl⟩
      go_wp2_with fail
      go_ret
      exact ⟨rfl, rfl⟩
  · rw [show sgn2 x0 x1 y0 y1 = sgn x0 y0 from if_neg k1]
    go_enter Try.func28, Try.ntmps28
    go_wp2_with fail
    refine wp_loop_rounds 3 ?_
    rw [rounds_succ]
    go_wp2_with fail
    refine (cmp64_any _ _ _).mono ?_; rintro e w1 ⟨rfl, rfl⟩
    go_wp2_with fail
    go_ret
    exact ⟨rfl, rfl⟩

theorem above_any (p q : Int) (hp : 0 ≤ p) (hq : 0 ≤ q) (w : World) :
    Calls Try.prog 20 #[.agg #[.int .u64 (p / 18446744073709551616), .int .u64 (p % 18446744073709551616)], .agg #[.int .u64 (q / 18446744073709551616), .int .u64 (q % 18446744073709551616)]] w (Ret w (.bool (decide (q < p)))) := by
  have key : decide (0 < sgn2 (p / 18446744073709551616) (p % 18446744073709551616) (q / 18446744073709551616) (q % 18446744073709551616)) = decide (q < p) := by
    unfold sgn2 sgn
    rw [decide_eq_decide]
    omega
  have K := Lib.hid key
  clear key
  generalize g1 : p / 18446744073709551616 = ph at *
  generalize g2 : p % 18446744073709551616 = pl at *
  generalize g3 : q / 18446744073709551616 = qh at *
  generalize g4 : q % 18446744073709551616 = ql at *
  clear g1 g2 g3 g4
  go_enter Try.func20, Try.ntmps20
  go_wp2_with fail
  go_quiet ((go_at_call 28; exact Calls.quiet_of_same ((compare_any _ _ ph pl qh ql _ (by simp) (by simp) (by simp) (by simp)).mono (fun e w1 h => ⟨h.1, h.2.symm⟩))))
  go_wp2_with fail
  go_ret
  exact ⟨ret_bool K.out, ((((Ext.refl _).alloc _).alloc _).drewN _)⟩

/-- What a number counts as. -/
def heldI (n : Int) : Int := if n < 0 then 0 else if 1073741823 < n then 1073741823 else n
theorem held_in (n : Int) : 0 ≤ heldI n ∧ heldI n ≤ 1073741823 := by
  unfold heldI
  repeat' split
  all_goals omega
theorem held_self {n : Int} (h : 0 ≤ n) (h' : n ≤ 1073741823) : heldI n = n := by unfold heldI; rw [if_neg (by omega), if_neg (by omega)]

theorem counted_any (n : Int) (w : World) : Calls Try.prog 14 #[.int .i64 n] w fun e w' => e = .returned (.int .i64 (heldI n)) ∧ w = w' := by
  by_cases h1 : n < 0
  · rw [show heldI n = 0 from if_pos h1]
    go_enter Try.func14, Try.ntmps14
    go_wp2_with fail
    go_ret
    exact ⟨rfl, rfl⟩
  · by_cases h2 : 1073741823 < n
    · rw [show heldI n = 1073741823 from by simp [heldI, h1, h2]]
      go_enter Try.func14, Try.ntmps14
      go_wp2_with fail
      go_ret
      exact ⟨rfl, rfl⟩
    · rw [show heldI n = n from by simp [heldI, h1, h2]]
      go_enter Try.func14, Try.ntmps14
      go_wp2_with fail
      go_ret
      exact ⟨rfl, rfl⟩

/-- Four cells that hold two numbers of two words. -/
def Holds (R B : Nat) (r q : Int) (w : World) : Prop :=
  w.cell? ⟨R, 0, none⟩ = some (.int .u64 (r / 18446744073709551616)) ∧ w.cell? ⟨R, 1, none⟩ = some (.int .u64 (r % 18446744073709551616)) ∧
  w.cell? ⟨B, 0, none⟩ = some (.int .u64 (q / 18446744073709551616)) ∧ w.cell? ⟨B, 1, none⟩ = some (.int .u64 (q % 18446744073709551616))
theorem Holds.ext {R B : Nat} {r q : Int} {w w' : World} (h : Holds R B r q w) (x : Ext w w') : Holds R B r q w' :=
  ⟨x.at h.1, x.at h.2.1, x.at h.2.2.1, x.at h.2.2.2⟩

theorem step_any (R B : Nat) (r q b : Int) (hr : 0 ≤ r) (hr' : r ≤ 1237940039285380274899124225) (hq : 0 ≤ q) (hb : 0 ≤ b) (hb' : b ≤ 10000) (w : World) (h : Holds R B r q w) :
    Calls Try.prog 19 #[.int .i64 b, .pointer (some ⟨R, 0, none⟩), .pointer (some ⟨B, 0, none⟩)] w (Ret w (.bool (decide (q < r * (2 * (b + 1)))))) := by
  have h1 : r * (2 * (b + 1)) ≤ 1237940039285380274899124225 * 20002 := Int.mul_le_mul hr' (by omega) (by omega) (by omega)
  have h2 : 0 ≤ r * (2 * (b + 1)) := Int.mul_nonneg hr (by omega)
  have t1 := times_any r (2 * (b + 1)) hr (by omega) (by omega) (by omega) (by omega)
  have t2 := above_any (r * (2 * (b + 1))) q h2 hq
  have T1 := Lib.hid t1
  have T2 := Lib.hid t2
  have HH := Lib.hid h
  obtain ⟨c0, c1, c2, c3⟩ := h
  clear t1 t2 h1 h2 hr hr' hq
  generalize r / 18446744073709551616 = rh at *
  generalize r % 18446744073709551616 = rl at *
  generalize q / 18446744073709551616 = qh at *
  generalize q % 18446744073709551616 = ql at *
  generalize r * (2 * (b + 1)) / 18446744073709551616 = ph at *
  generalize r * (2 * (b + 1)) % 18446744073709551616 = pl at *
  go_enter Try.func19, Try.ntmps19
  go_wp2_with fail
  have s1 : IntKind.i64.wrap (b + 1) = b + 1 := IntWalk.i64_in _ (by omega)
  have s2 : IntKind.i64.wrap (2 * (b + 1)) = 2 * (b + 1) := IntWalk.i64_in _ (by omega)
  go_region_held3 (fun w' => w'.cell? ⟨R, 0, none⟩ = some (.int .u64 rh) ∧ w'.cell? ⟨R, 1, none⟩ = some (.int .u64 rl) ∧ w'.cell? ⟨B, 0, none⟩ = some (.int .u64 qh) ∧ w'.cell? ⟨B, 1, none⟩ = some (.int .u64 ql) ∧ Ext w w')
    ((go_split_ands; first | (refine ⟨x1.at ?_, x1.at ?_, x1.at ?_, x1.at ?_, Ext.trans ?_ x1⟩ <;> with_reducible assumption) | (refine ⟨?_, ?_, ?_, ?_, ?_⟩ <;> first | with_reducible assumption | exact (Ext.refl _).drew | (simp only [World.cell?_drew]; with_reducible assumption))))
    (first
      | (go_at_call 17; refine (T1.out _).mono ?_; rintro e w1 ⟨rfl, x1⟩)
      | (go_at_call 20; refine (T2.out _).mono ?_; rintro e w1 ⟨rfl, x1⟩))
  clear s1 s2
  go_split_ands
  go_wp2_with fail
  go_ret
  exact ⟨rfl, by assumption⟩

/-- How bad it is. -/
def badN (r q : Int) : Int := min 10000 (q / (2 * r))
/-- A test that is false up to n, and true from there on. -/
theorem badN_cut {r q b : Int} (hr : 0 < r) (hq : 0 ≤ q) (hb : 0 ≤ b) (hb' : b < 10000) : decide (q < r * (2 * (b + 1))) = decide (badN r q ≤ b) := by
  rw [decide_eq_decide]
  unfold badN
  have h : q / (2 * r) ≤ b ↔ q < r * (2 * (b + 1)) := by
    rw [← Int.lt_add_one_iff, Int.ediv_lt_iff_lt_mul (by omega), show (b + 1) * (2 * r) = r * (2 * (b + 1)) from by rw [Int.mul_comm, Int.mul_assoc, Int.mul_left_comm]]
  omega
theorem badN_in {r q : Int} (hr : 0 < r) (hq : 0 ≤ q) : 0 ≤ badN r q ∧ badN r q ≤ 10000 := by
  have h := Int.ediv_nonneg hq (show 0 ≤ 2 * r by omega)
  unfold badN; omega

theorem search_any (R B : Nat) (r q : Int) (hr : 0 < r) (hr' : r ≤ 1237940039285380274899124225) (hq : 0 ≤ q) (w : World) (h : Holds R B r q w) :
    Calls Try.prog 18 #[.int .i64 10000, .func (.func 19) #[] #[.pointer (some ⟨R, 0, none⟩), .pointer (some ⟨B, 0, none⟩)]] w (Ret w (.int .i64 (badN r q))) := by
  have c : ∀ b : Int, 0 ≤ b → b < 10000 → ∀ w' : World, Ext w w' → Calls Try.prog 19 #[.int .i64 b, .pointer (some ⟨R, 0, none⟩), .pointer (some ⟨B, 0, none⟩)] w' (Ret w' (.bool (decide (badN r q ≤ b)))) := by
    intro b hb hb' w' x
    rw [← badN_cut hr hq hb hb']
    exact step_any R B r q b (by omega) hr' hq hb (by omega) w' (h.ext x)
  have hn := badN_in hr hq
  obtain ⟨hn0, hn1⟩ := hn
  clear hr hr' hq h
  have C := Lib.hid c
  clear c
  generalize badN r q = n at *
  go_enter Try.func18, Try.ntmps18
  go_wp2_with fail
  go_loopw [5, 6] (fun i j wr => ∃ x y : Int, 0 ≤ x ∧ x ≤ n ∧ n ≤ y ∧ y ≤ 10000 ∧ i = .int .i64 x ∧ j = .int .i64 y ∧ Ext w wr) (fun i j _ => (intOf j - intOf i).toNat)
  case atStart => exact ⟨0, 10000, by omega, by omega, by omega, by omega, rfl, rfl, Ext.refl _⟩
  case round =>
    obtain ⟨x, y, hx, hxn, hny, hy, rfl, rfl, xr⟩ := hrel
    by_cases hlt : x < y
    · have m1 : x ≤ (x + y) / 2 := by omega
      have m2 : (x + y) / 2 < y := by omega
      by_cases ht : n ≤ (x + y) / 2
      · have hd : decide (n ≤ (x + y) / 2) = true := by simp; omega
        go_wp2_with fail
        refine (C.out _ (by omega) (by omega) _ xr).mono ?_; rintro e w1 ⟨rfl, x1⟩
        go_wp2_with fail
        go_roundw
        case rel => exact ⟨x, (x + y) / 2, by omega, by omega, by omega, by omega, rfl, rfl, xr.trans x1⟩
        case measure => simp only [intOf]; omega
      · have hd : decide (n ≤ (x + y) / 2) = false := by simp; omega
        go_wp2_with fail
        refine (C.out _ (by omega) (by omega) _ xr).mono ?_; rintro e w1 ⟨rfl, x1⟩
        go_wp2_with fail
        go_roundw
        case rel => exact ⟨(x + y) / 2 + 1, y, by omega, by omega, by omega, by omega, rfl, rfl, xr.trans x1⟩
        case measure => simp only [intOf]; omega
    · go_wp2_with fail
      go_ret
      exact ⟨ret_int (by omega), xr⟩

/-- P3.1, of numbers. -/
def badI (t s : Int) : Int := if heldI t = 0 then 0 else if heldI s = 0 then 10000 else badN (heldI s * heldI s * heldI s) (200 * (heldI t * heldI t * heldI t) + heldI s * heldI s * heldI s)

theorem cube_in {n : Int} (hn : 0 ≤ n) (hn' : n ≤ 1073741823) : 0 ≤ n * n * n ∧ n * n * n ≤ 1237940039285380274899124225 := by
  have h1 : 0 ≤ n * n := Int.mul_nonneg hn hn
  have h2 : n * n ≤ 1152921502459363329 := Int.mul_le_mul hn' hn' hn (by omega)
  have h3 : n * n * n ≤ 1152921502459363329 * 1073741823 := Int.mul_le_mul h2 hn' hn (by omega)
  exact ⟨Int.mul_nonneg h1 hn, by omega⟩
theorem cube_pos {n : Int} (hn : 0 < n) : 0 < n * n * n := Int.mul_pos (Int.mul_pos hn hn) hn

theorem bad_any (t s : Int) (w : World) : Calls Try.prog 10 #[.int .i64 t, .int .i64 s] w (Ret w (.int .i64 (badI t s))) := by
  have ht := held_in t
  have hs := held_in s
  by_cases h1 : heldI t = 0
  · rw [show badI t s = 0 from if_pos h1]
    go_enter Try.func10, Try.ntmps10
    go_wp2_with (first | (go_at_call 14; refine (counted_any _ _).mono ?_; rintro e w' ⟨rfl, rfl⟩))
    go_ret
    exact ⟨rfl, Ext.refl _⟩
  · by_cases h2 : heldI s = 0
    · rw [show badI t s = 10000 from by simp [badI, h1, h2]]
      go_enter Try.func10, Try.ntmps10
      go_wp2_with (first | (go_at_call 14; refine (counted_any _ _).mono ?_; rintro e w' ⟨rfl, rfl⟩))
      go_ret
      exact ⟨rfl, Ext.refl _⟩
    · rw [show badI t s = badN (heldI s * heldI s * heldI s) (200 * (heldI t * heldI t * heldI t) + heldI s * heldI s * heldI s) from by simp [badI, h1, h2]]
      have q1 := cube_in ht.1 ht.2
      have q2 := cube_in hs.1 hs.2
      have q3 := cube_pos (show 0 < heldI s by omega)
      have C1 := Lib.hid (cube_any (heldI t) ht.1 ht.2)
      have C2 := Lib.hid (cube_any (heldI s) hs.1 hs.2)
      generalize heldI t * heldI t * heldI t = tt at *
      generalize heldI s * heldI s * heldI s = ss at *
      have C3 := Lib.hid (times_any tt 200 q1.1 (by omega) (by omega) (by omega) (by omega))
      have C4 := Lib.hid (plus_any (tt * 200) ss (by omega) q2.1 (by omega))
      rw [Int.mul_comm 200 tt]
      have C5 := Lib.hid (fun R B => search_any R B ss (tt * 200 + ss) q3 q2.2 (by omega))
      unfold Holds at C5
      generalize tt * 200 + ss = u at *
      generalize badN ss u = n at *
      generalize tt * 200 = v at *
      clear q1 q2 q3 ht hs
      generalize tt / 18446744073709551616 = th at *
      generalize tt % 18446744073709551616 = tl at *
      generalize ss / 18446744073709551616 = sh at *
      generalize ss % 18446744073709551616 = sl at *
      generalize u / 18446744073709551616 = uh at *
      generalize u % 18446744073709551616 = ul at *
      generalize v / 18446744073709551616 = vh at *
      generalize v % 18446744073709551616 = vl at *
      go_enter Try.func10, Try.ntmps10
      go_wp2_with (first | (go_at_call 14; refine (counted_any _ _).mono ?_; rintro e w' ⟨rfl, rfl⟩))
      refine (C2.out _).mono ?_; rintro e w1 ⟨rfl, x1⟩
      go_wp2_with fail
      have x0 : Ext w (w1.alloc (.cells #[.int .u64 sh, .int .u64 sl] 34)) := x1.alloc _
      have k0 : (w1.alloc (.cells #[.int .u64 sh, .int .u64 sl] 34)).cell? ⟨w1.heap.size, 0, none⟩ = some (.int .u64 sh) := by simp
      have k1 : (w1.alloc (.cells #[.int .u64 sh, .int .u64 sl] 34)).cell? ⟨w1.heap.size, 1, none⟩ = some (.int .u64 sl) := by simp
      generalize w1.alloc (.cells #[.int .u64 sh, .int .u64 sl] 34) = W at *
      generalize w1.heap.size = R at *
      have X0 := Lib.hid x0
      have keep : ∀ w', Ext W w' → w'.cell? ⟨R, 0, none⟩ = some (.int .u64 sh) ∧ w'.cell? ⟨R, 1, none⟩ = some (.int .u64 sl) ∧ Ext W w' := fun w' h => ⟨h.at k0, h.at k1, h⟩
      have KEEP := Lib.hid keep
      clear keep x0 x1
      go_region_held3 (fun w' => w'.cell? ⟨R, 0, none⟩ = some (.int .u64 sh) ∧ w'.cell? ⟨R, 1, none⟩ = some (.int .u64 sl) ∧ Ext W w')
        ((go_split_ands; try with_reducible refine KEEP.out _ ?_; (try with_reducible refine Ext.drew ?_); with_reducible first | assumption | exact Ext.refl _ | exact Ext.alloc (by assumption) _ | exact Ext.alloc (Ext.refl _) _ | exact Ext.setCell (Ext.setCell (by assumption) (Ext.le (by assumption)) _) (Ext.le (by assumption)) _ | exact Ext.setCell (Ext.setCell (by assumption) (Nat.le_refl _) _) (Nat.le_refl _) _))
        (first
          | (go_at_call 15; refine (C1.out _).mono ?_; rintro e w9 ⟨rfl, x9⟩; (with_reducible first | have N9 := Lib.hid (ext_new x9) | have N9 := Lib.hid (ext_new (ext_drew x9)) | have N9 := Lib.hid (ext_carry x9 N9.out) | skip); (try have n9 := N9.out); go_split_ands; have y9 := Ext.trans (a := W) (by with_reducible assumption) x9)
          | (go_at_call 17; refine (C3.out _).mono ?_; rintro e w9 ⟨rfl, x9⟩; (with_reducible first | have N9 := Lib.hid (ext_new x9) | have N9 := Lib.hid (ext_new (ext_drew x9)) | have N9 := Lib.hid (ext_carry x9 N9.out) | skip); (try have n9 := N9.out); go_split_ands; have y9 := Ext.trans (a := W) (by with_reducible assumption) x9)
          | (go_at_call 16; refine (C4.out _).mono ?_; rintro e w9 ⟨rfl, x9⟩; (with_reducible first | have N9 := Lib.hid (ext_new x9) | have N9 := Lib.hid (ext_new (ext_drew x9)) | have N9 := Lib.hid (ext_carry x9 N9.out) | skip); (try have n9 := N9.out); go_split_ands; have y9 := Ext.trans (a := W) (by with_reducible assumption) x9))
      all_goals
        go_split_ands
        go_wp2_with fail
        refine (C5.out _ _ _ ⟨?_, ?_, ?_, ?_⟩).mono ?_
        · with_reducible assumption
        · with_reducible assumption
        · first | (simp; done) | exact (stored2 (by with_reducible assumption) (by with_reducible assumption)).1
        · first | (simp; done) | exact (stored2 (by with_reducible assumption) (by with_reducible assumption)).2
        rintro e w2 ⟨rfl, x2⟩
        have y2 := (X0.out.trans (by with_reducible assumption)).trans x2
        go_wp2_with fail
        go_ret
        exact ⟨rfl, y2⟩
end L03
end Go.Proofs.Ytfooocfkfchihaa

