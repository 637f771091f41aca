/- ScaledTimes: so many times a dimension is the sum of so many, and by -1 it is the difference from 0 (at most a hundred times): for every input. -/
import Derived.Test.YtljlafihifpnkaaSum01
import Derived.OpenShut
namespace Go.Proofs.Ytljlafihifpnkaa
open Go.ChangeShapes Go.WideShapes Go.ChangeAt Go.RowKit
namespace ScaledTimes

theorem int_slice : SliceOf Try.prog 28 3 1 8 :=
  slice_of (z := .int .i64 0) Try.underlying28 (by kernel_rfl) rfl (by decide)

theorem step_mul (a : Int) (i : Nat) : (i : Int) * a + a = ((i + 1 : Nat) : Int) * a := by rw [Int.natCast_add, Int.add_mul]; simp

theorem near {a : Int} {i n : Nat} (h : i ≤ n) (hn : isDim ((n : Int) * a) = true) : isDim ((i : Int) * a) = true := by
  rw [isDim_iff] at hn ⊢
  have h1 : ((i : Int) * a).natAbs ≤ ((n : Int) * a).natAbs := by
    rw [Int.natAbs_mul, Int.natAbs_mul, Int.natAbs_natCast, Int.natAbs_natCast]
    exact Nat.mul_le_mul_right _ h
  omega

theorem sum_rest {a : Int} (ha : isDim a = true) (r : Nat) : ∀ i : Nat, isDim ((i : Int) * a) = true →
    sumR ((i : Int) * a) (List.replicate r a) = if isDim (((i + r : Nat) : Int) * a) = true then (((i + r : Nat) : Int) * a, 0) else (0, 10) := by
  induction r with
  | zero => intro i hi; simp [sumR, hi]
  | succ r ih =>
    intro i hi
    rw [List.replicate_succ]
    cases hs : isDim (((i + 1 : Nat) : Int) * a) with
    | true =>
      have hk := (kept_yes hi ha (n := (i : Int) * a + a) (by rw [step_mul]; exact hs)).2
      rw [sumR_go hk, step_mul, ih (i + 1) hs, show i + 1 + r = i + (r + 1) from by omega]
    | false =>
      have hk := (kept_no (a := (i : Int) * a) (b := a) (n := (i : Int) * a + a) (.inr (.inr (by rw [step_mul]; exact hs)))).2
      rw [sumR_stop hk, if_neg]
      intro h
      have := near (show i + 1 ≤ i + (r + 1) by omega) h
      rw [hs] at this; cases this

theorem sum_times (a : Int) (n : Nat) (h0 : 0 < n) (hn : n ≤ 100) : sumR 0 (List.replicate n a) = (keptV a n (a * n), keptE a n (a * n)) := by
  have hd : isDim (n : Int) = true := by rw [isDim_iff]; omega
  cases ha : isDim a with
  | true =>
    have h := sum_rest ha n 0 (by simp; rfl)
    simp only [Int.natCast_zero, Int.zero_mul, Nat.zero_add] at h
    rw [h, Int.mul_comm]
    cases hm : isDim (a * n) with
    | true => rw [(kept_yes ha hd hm).1, (kept_yes ha hd hm).2]; simp
    | false => rw [(kept_no (.inr (.inr hm))).1, (kept_no (.inr (.inr hm))).2]; simp
  | false =>
    rw [(kept_no (.inl ha)).1, (kept_no (.inl ha)).2]
    obtain ⟨k, rfl⟩ : ∃ k, n = k + 1 := ⟨n - 1, by omega⟩
    rw [List.replicate_succ, sumR_stop (kept_no (.inr (.inl ha))).2]

theorem neg_at (a : Int) (w : World) : Calls Try.prog 13 #[.int .i64 a, .int .i64 (-1)] w (Ret w (.tuple #[.int .i64 (keptV 0 a (0 - a)), .int .i64 (keptE 0 a (0 - a))])) := by
  have h := times_any a (-1) w
  have e : a * -1 = 0 - a := by omega
  have d1 : isDim (-1) = true := rfl
  have d0 : isDim 0 = true := rfl
  have e1 : keptV a (-1) (a * -1) = keptV 0 a (0 - a) := by unfold keptV; rw [e, d1, d0]; simp
  have e2 : keptE a (-1) (a * -1) = keptE 0 a (0 - a) := by unfold keptE; rw [e, d1, d0]; simp
  rw [e1, e2] at h
  exact h

theorem sum_rep {A : Option Addr} {a : Int} {n c : Nat} {x h : Int} (hl : sumR 0 (List.replicate n a) = (x, h)) (hn : n ≤ 100) (w : World) (hs : Seen w.heap.size w A ((List.replicate n a).map (.int .i64))) :
    Calls Try.prog 17 #[.slice A n c] w (Ret w (.tuple #[.int .i64 x, .int .i64 h])) := by
  have k := sum_any A (List.replicate n a) c w hs (by simp; omega)
  rw [hl, List.length_replicate] at k
  exact k

theorem rep_next (a : Int) (k : Nat) : (List.replicate k a).map (Value.int .i64) ++ [.int .i64 a] = (List.replicate (k + 1) a).map (Value.int .i64) := by
  rw [List.replicate_succ', List.map_append]; rfl

theorem walk (a : Int) (_ : -9223372036854775808 ≤ a ∧ a ≤ 9223372036854775807) (k : Int) (hk : 0 ≤ k ∧ k ≤ 255) (w : World) :
    Calls Try.prog 6 #[.int .i64 a, .int .u8 k] w (Ret w (.bool true)) := by
  obtain ⟨hk1, hk2⟩ := hk
  obtain ⟨n, hn⟩ : ∃ n : Nat, k % 101 = n := ⟨(k % 101).toNat, by omega⟩
  have hn1 : n ≤ 100 := by omega
  have HN := Lib.hid hn
  go_enter Try.func6, Try.ntmps6
  go_wp2_with fail
  refine (awake_any _).mono ?_; rintro e w1 ⟨rfl, x1⟩
  go_wp2_with fail
  go_loopw [6, 7] (fun v i wr => ∃ j : Nat, j ≤ n ∧ i = .int .i64 j ∧ wr.ownsRow w.heap.size 3 1 v j ((List.replicate j a).map (.int .i64)) ∧ Ext w wr) (fun _ i _ => n - (intOf i).toNat)
  case atStart => exact ⟨0, Nat.zero_le _, rfl, World.ownsRow_nil _ _ _ _, x1⟩
  case round =>
    obtain ⟨j, hj, rfl, hown, hx⟩ := hrel
    by_cases hlt : j < n
    · have hlt' : (j : Int) < k % 101 := by omega
      have hrow := Lib.hid (hown.alloc (.cells #[.int .i64 a] 3))
      have hnew := Lib.hid (seen_new wr [.int .i64 a] 3)
      have hx1 : Ext w (wr.alloc (.cells #[.int .i64 a] 3)) := hx.alloc _
      clear hn hown
      go_wp2_with (at_builtin
                   refine wpList_put int_slice rfl (.tmp 25) (.tmp 27) rfl rfl hrow.out hx1 rfl rfl hnew.out (by simp [Value.oneCell']) (by omega) (by omega) ?_
                   intro v2 w2 own2 x2 _ _
                   rw [rep_next] at own2)
      go_roundw
      case rel => exact ⟨j + 1, by omega, by go_num, own2, x2⟩
      case measure => simp [intOf]; omega
    · obtain rfl : j = n := by omega
      have hlt' : ¬ (j : Int) < k % 101 := by omega
      obtain ⟨A, c, rfl, hs⟩ := own_seen hown
      have HS := Lib.hid hs
      clear hn hown hs
      rcases Nat.eq_zero_or_pos j with h0 | h0
      · subst h0
        go_wp2_with fail
        refine (times_any _ _ _).mono ?_; rintro e w2 ⟨rfl, x2⟩
        go_wp2_with fail
        refine (sum_rep (n := 0) rfl (by omega) _ (HS.out.ext x2)).mono ?_; rintro e w3 ⟨rfl, x3⟩
        go_wp2_with fail
        refine (neg_at _ _).mono ?_; rintro e w4 ⟨rfl, x4⟩
        go_wp2_with fail
        refine (sub_any _ _ _).mono ?_; rintro e w5 ⟨rfl, x5⟩
        go_wp2_with fail
        go_ret
        exact ⟨rfl, (((hx.trans x2).trans x3).trans x4).trans x5⟩
      · have hne : ((j : Int) == 0) = false := by simp; omega
        have hst := Lib.hid (sum_times a j h0 hn1)
        go_wp2_with fail
        refine (times_any _ _ _).mono ?_; rintro e w2 ⟨rfl, x2⟩
        go_wp2_with fail
        refine (sum_rep hst.out hn1 _ (HS.out.ext x2)).mono ?_; rintro e w3 ⟨rfl, x3⟩
        go_wp2_with fail
        refine (neg_at _ _).mono ?_; rintro e w4 ⟨rfl, x4⟩
        go_wp2_with fail
        refine (sub_any _ _ _).mono ?_; rintro e w5 ⟨rfl, x5⟩
        go_wp2_with fail
        go_ret
        exact ⟨rfl, (((hx.trans x2).trans x3).trans x4).trans x5⟩

set_option maxRecDepth 100000 in
theorem lifted (os : Os) (started : os.Started) (H : Type) (enc : TypeId × Value → H) :
    ReturnsInHanded {} Try.checked os 6 .any (Rows.scaledTimesSpec.pre6 enc Try.prog Try.f6 [] false) (Rows.scaledTimesSpec.post enc Try.prog Try.f6 false true false false) := by
  refine law_lift (C := Try.checked) own started (by kernel_rfl) Try.func6 laidOut rfl rfl Try.underlying4 (by kernel_rfl) ?_
    (ChangeSpec.witness6 (enc := enc) (C := Try.checked) false ⟨#[], #[.int .i64 0, .int .u8 0], []⟩ 8 (by kernel_rfl) (by kernel_rfl) (by kernel_rfl) (by kernel_rfl)) ?_
  · intro H ds h
    match ds, h with
    | [_, _], _ => rfl
  · intro W base args ds p hval hA hlt hwt hsh
    rw [Try.params6] at hA hval
    obtain ⟨v0, vs0, d0, ds0, p0, q0, hargs, rfl, rfl, h0, r0⟩ := trodAll_cons hA
    obtain ⟨v1, vs1, d1, ds1, p1, q1, rfl, rfl, rfl, h1, r1⟩ := trodAll_cons r0
    obtain ⟨rfl, rfl, rfl⟩ := trodAll_nil r1
    obtain rfl : args = #[v0, v1] := by cases args; simp_all
    obtain ⟨a0, rfl, rfl, rfl, wf0⟩ := open_int Try.underlying3 (hval 0 3 v0 rfl rfl) h0
    obtain ⟨a1, rfl, rfl, rfl, wf1⟩ := open_int Try.underlying5 (hval 1 5 v1 rfl rfl) h1
    exact walk a0 (bounds_i64 wf0) a1 (bounds_u8 wf1) W 

theorem holds : Rows.ScaledTimesSaid :=
  OpenClaim.holds_of_wide 6 Try.f6 rfl rfl rfl rfl rfl rfl rfl ⟨rfl, rfl, rfl, rfl, rfl⟩ rfl rfl rfl rfl rfl (by kernel_rfl) Try.func6 (by kernel_rfl)
    (of_decide_eq_true (by kernel_rfl)) (by unfold Func.isWrapper; first | (rw [if_pos (by decide +kernel)]; kernel_rfl) | (rw [if_neg (by decide +kernel)]; exact ⟨rfl, rfl⟩))
    (fun os started H enc _ => lifted os started H enc)
end ScaledTimes
end Go.Proofs.Ytljlafihifpnkaa

