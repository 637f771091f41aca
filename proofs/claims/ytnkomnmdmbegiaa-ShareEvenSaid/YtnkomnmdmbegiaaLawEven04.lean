/- ShareEven: by weights that are all one parts differ by 1 at most, the greater ones stand ahead, and weights of 0 behind have no part (at most a hundred of either): for every input. -/
import Derived.Test.YtnkomnmdmbegiaaAwake04
import Derived.OpenShut
import Derived.BigQuiet
namespace Go.Proofs.Ytnkomnmdmbegiaa
open Go.ChangeShapes Go.WideShapes Go.ChangeAt Go.RowKit
namespace ShareEven
open L04

/-- So many ones, and so many noughts behind. -/
def ones (n z : Nat) : List Int := List.replicate n 1 ++ List.replicate z 0
theorem ones_len (n z : Nat) : (ones n z).length = n + z := by simp [ones]
theorem ones_at {n z j : Nat} : (ones n z).getD j 0 = if j < n then 1 else 0 := by
  unfold ones
  rw [List.getD_eq_getElem?_getD]
  by_cases h : j < n
  · rw [if_pos h, List.getElem?_append_left (by simpa using h)]
    simp [h]
  · rw [if_neg h, List.getElem?_append_right (by simp; omega)]
    by_cases h2 : j - (List.replicate n (1 : Int)).length < z
    · rw [List.getElem?_replicate, if_pos h2]; rfl
    · rw [List.getElem?_replicate, if_neg h2]; rfl
theorem ones_next (n : Nat) : (ones n 0).map (Value.int .i64) ++ [.int .i64 1] = (ones (n + 1) 0).map (Value.int .i64) := by
  simp [ones, List.replicate_succ']
theorem ones_next0 (n z : Nat) : (ones n z).map (Value.int .i64) ++ [.int .i64 0] = (ones n (z + 1)).map (Value.int .i64) := by
  simp [ones, List.replicate_succ']

def one (n : Nat) (j : Nat) : Int := if j < n then 1 else 0
theorem sum_one (n : Nat) : ∀ m, sumF (one n) m = if m ≤ n then (m : Int) else n
  | 0 => by simp [sumF]
  | m + 1 => by
    rw [sumF, sum_one n m]
    unfold one
    by_cases h : m < n
    · rw [if_pos (by omega), if_pos h, if_pos (by omega)]; omega
    · rw [if_neg h]
      by_cases h2 : m = n
      · subst h2; rw [if_pos (by omega), if_neg (by omega)]; omega
      · rw [if_neg (by omega), if_neg (by omega)]; omega
theorem even_may {t : Int} {n z : Nat} (h0 : 0 ≤ t) (h1 : t ≤ 1073741823) (hn : 0 < n) (hs : n + z ≤ 300) : MayP t (n + z) (one n) := by
  refine ⟨⟨h0, h1, hs⟩, fun j _ => ?_, .inr ?_⟩
  · unfold one; split <;> omega
  · rw [sum_one]; split <;> omega
theorem even_part {t : Int} {n z : Nat} (h0 : 0 ≤ t) (hn : 0 < n) (i : Nat) (hi : i < n) : partF t (n + z) (one n) i = t / n + if (i : Int) < t % n then 1 else 0 := by
  have hS : sumF (one n) (n + z) = n := by
    rw [sum_one]
    by_cases h : n + z ≤ n
    · rw [if_pos h]; omega
    · rw [if_neg h]
  have hfl : ∀ j, floorF t (n + z) (one n) j = t / n * one n j := fun j => by
    unfold floorF
    rw [hS]
    unfold one
    split
    · rw [Int.mul_one, Int.mul_one]
    · rw [Int.mul_zero, Int.mul_zero]; exact Int.zero_ediv _
  have hre : ∀ j, restF t (n + z) (one n) j = t % n * one n j := fun j => by
    unfold restF
    rw [hS]
    unfold one
    split
    · rw [Int.mul_one, Int.mul_one]
    · rw [Int.mul_zero, Int.mul_zero]; exact Int.zero_emod _
  have hleft : leftF t (n + z) (one n) = t % n := by
    unfold leftF
    rw [sumF_congr (n + z) (fun j _ => hfl j), sumF_mul, hS]
    have := Int.mul_ediv_add_emod t n
    rw [Int.mul_comm] at this
    omega
  have hr0 := Int.emod_nonneg t (show (n : Int) ≠ 0 by omega)
  have hi1 : one n i = 1 := if_pos hi
  have hrank : 0 < t % n → rankF (restF t (n + z) (one n)) (n + z) i = i := fun hp => by
    refine cntF_below (n + z) (by omega) fun k _ => ?_
    rw [hre, hre, hi1]
    simp only [decide_eq_true_eq]
    unfold one
    generalize t % n = r at *
    by_cases hk : k < n
    · rw [if_pos hk, Int.mul_one]; omega
    · rw [if_neg hk, Int.mul_one, Int.mul_zero]; omega
  unfold partF
  by_cases ht : t = 0
  · subst ht; rw [if_pos rfl, Int.zero_ediv, Int.zero_emod, if_neg (by omega)]; rfl
  · rw [if_neg ht, hfl, hi1, Int.mul_one, hleft]
    congr 1
    by_cases hp : 0 < t % n
    · rw [hrank hp]
    · rw [if_neg (by omega), if_neg (by omega)]
theorem even_none {t : Int} {n z : Nat} (h : MayP t (n + z) (one n)) (i : Nat) (hi : i < n + z) (hn : ¬ i < n) : partF t (n + z) (one n) i = 0 := part_none h hi (if_neg hn)

theorem int_slice : SliceOf Try.prog 22 3 1 8 :=
  slice_of (z := .int .i64 0) Try.underlying22 (by kernel_rfl) rfl (by decide)

set_option maxHeartbeats 4000000 in
theorem walk (a : Int) (ha : 0 ≤ a ∧ a ≤ 4294967295) (k : Int) (hk : 0 ≤ k ∧ k ≤ 255) (o : Int) (ho : 0 ≤ o ∧ o ≤ 255) (w : World) :
    Calls Try.prog 6 #[.int .u32 a, .int .u8 k, .int .u8 o] w (Ret w (.bool true)) := by
  obtain ⟨ha1, ha2⟩ := ha
  obtain ⟨hk1, hk2⟩ := hk
  obtain ⟨ho1, ho2⟩ := ho
  obtain ⟨n, hn⟩ : ∃ n : Nat, 1 + k % 100 = n := ⟨(1 + k % 100).toNat, by omega⟩
  obtain ⟨z, hz⟩ : ∃ z : Nat, o % 100 = z := ⟨(o % 100).toNat, by omega⟩
  have hn0 : 0 < n := by omega
  have hn1 : n ≤ 100 := by omega
  have hz1 : z ≤ 99 := by omega
  go_enter Try.func6, Try.ntmps6
  go_wp2_with fail
  refine (L04.awake_any _).mono ?_; rintro e w1 ⟨rfl, x1⟩
  go_wp2_with fail
  go_loopw [9, 10] (fun v i wr => ∃ j : Nat, j ≤ n ∧ i = .int .i64 j ∧ wr.ownsRow w.heap.size 3 1 v j ((ones j 0).map (.int .i64)) ∧ Ext w wr) (fun _ i _ => n - (intOf i).toNat)
  case atStart => exact ⟨0, Nat.zero_le _, rfl, World.ownsRow_nil _ _ _ _, x1⟩
  case round =>
    obtain ⟨j, hj, rfl, hown, hx⟩ := hrel
    by_cases hlt : j < n
    · have hlt' : (j : Int) < (n : Int) := by omega
      have hrow := Lib.hid (hown.alloc (.cells #[.int .i64 1] 3))
      have hnew := Lib.hid (seen_new wr [.int .i64 1] 3)
      have hx1 : Ext w (wr.alloc (.cells #[.int .i64 1] 3)) := hx.alloc _
      clear hown
      go_wp2_with (at_builtin
                   refine wpList_put int_slice rfl (.tmp 27) (.tmp 28) rfl rfl hrow.out hx1 rfl rfl hnew.out (by simp [Value.oneCell']) (by omega) (by omega) ?_
                   intro v2 w2 own2 x2 _ _
                   rw [ones_next] at own2)
      go_roundw
      case rel => exact ⟨j + 1, by omega, by go_num, own2, x2⟩
      case measure => simp [intOf]; omega
    · obtain rfl : j = n := by omega
      have hlt' : ¬ (j : Int) < (j : Int) := by omega
      have HX := Lib.hid hx
      have HOWN := Lib.hid hown
      clear hx hown x1
      go_wp2_with fail
      go_loopw [9, 11] (fun v i wr => ∃ m : Nat, m ≤ z ∧ i = .int .i64 m ∧ wr.ownsRow w.heap.size 3 1 v (j + m) ((ones j m).map (.int .i64)) ∧ Ext w wr) (fun _ i _ => z - (intOf i).toNat)
      case atStart => exact ⟨0, Nat.zero_le _, rfl, HOWN.out, HX.out⟩
      case round =>
        clear HOWN HX
        obtain ⟨m, hm, rfl, hown, hx⟩ := hrel
        by_cases hlt2 : m < z
        · have hlt2' : (m : Int) < (z : Int) := by omega
          have hrow := Lib.hid (hown.alloc (.cells #[.int .i64 0] 3))
          have hnew := Lib.hid (seen_new wr [.int .i64 0] 3)
          have hx1 : Ext w (wr.alloc (.cells #[.int .i64 0] 3)) := hx.alloc _
          clear hown
          go_wp2_with (at_builtin
                       refine wpList_put int_slice rfl (.tmp 37) (.tmp 38) rfl rfl hrow.out hx1 rfl rfl hnew.out (by simp [Value.oneCell']) (by omega) (by omega) ?_
                       intro v2 w2 own2 x2 _ _
                       rw [ones_next0] at own2)
          go_roundw
          case rel => exact ⟨m + 1, by omega, by go_num, own2, x2⟩
          case measure => simp [intOf]; omega
        · obtain rfl : m = z := by omega
          have hlt2' : ¬ (m : Int) < (m : Int) := by omega
          obtain ⟨A, c, rfl, hs⟩ := own_seen hown
          have hsf : SeenF wr A (j + m) (one j) := by
            have := Seen.fn hs
            rw [ones_len] at this
            exact this.congr fun i _ => ones_at
          obtain ⟨t, ht⟩ : ∃ t, a % 1073741824 = t := ⟨_, rfl⟩
          have ht0 : 0 ≤ t := by omega
          have ht1 : t ≤ 1073741823 := by omega
          have hM := even_may (z := m) ht0 ht1 hn0 (by omega)
          have hS := split_yes t A (j + m) c (one j) wr hsf hM
          have HS := Lib.hid hS
          have HM := Lib.hid hM
          have HX := Lib.hid hx
          clear hS hM hown hs hsf hx
          go_wp2_with fail
          refine (HS.out).mono ?_; rintro e w2 ⟨x2, b, _, _, rfl, r2⟩
          have R2 := Lib.hid r2
          have X2 := Lib.hid (HX.out.trans x2)
          obtain ⟨q, hq⟩ : ∃ q, t / j = q := ⟨_, rfl⟩
          obtain ⟨r, hr⟩ : ∃ r, t % j = r := ⟨_, rfl⟩
          have hq1 : t.tdiv j = q := by rw [← hq]; exact Int.tdiv_eq_ediv_of_nonneg ht0
          have hr1 : t.tmod j = r := by rw [← hr]; exact Int.tmod_eq_emod_of_nonneg ht0
          have hqb : 0 ≤ q ∧ q ≤ t := by
            rw [← hq]; exact ⟨Int.ediv_nonneg ht0 (by omega), Int.ediv_le_self _ ht0⟩
          have hrb : 0 ≤ r ∧ r < j := by
            rw [← hr]; exact ⟨Int.emod_nonneg _ (by omega), Int.emod_lt_of_pos _ (by omega)⟩
          have PE : Hid (∀ i, i < j → partF t (j + m) (one j) i = q + if (i : Int) < r then 1 else 0) := fun i hi => by rw [even_part ht0 hn0 i hi, hq, hr]
          have PN : Hid (∀ i, i < j + m → ¬ i < j → partF t (j + m) (one j) i = 0) := fun i hi hn => even_none HM.out i hi hn
          have hj0 : ¬ (j : Int) = 0 := by omega
          clear x2 r2 HS HX hq hr hn hz
          go_wp2_with fail
          go_loopw [15] (fun i wr => ∃ x : Nat, x ≤ j + m ∧ i = .int .i64 x ∧ w2 = wr) (fun i _ => j + m - (intOf i).toNat)
          case atStart => exact ⟨0, by omega, rfl, rfl⟩
          case round =>
            obtain ⟨x, hx, rfl, rfl⟩ := hrel
            by_cases hlt3 : x < j + m
            · obtain ⟨c1, _⟩ := R2.out x hlt3
              by_cases h1 : x < j
              · have h1z : (x : Int) < (j : Int) := by omega
                rw [PE.out x h1] at c1
                by_cases h2 : (x : Int) < r
                · rw [if_pos h2] at c1
                  go_wp2_with fail
                  go_roundw
                  case rel => exact ⟨x + 1, by omega, by go_num, by first | rfl | trivial⟩
                  case measure => simp [intOf]; omega
                · rw [if_neg h2, Int.add_zero] at c1
                  go_wp2_with fail
                  go_roundw
                  case rel => exact ⟨x + 1, by omega, by go_num, by first | rfl | trivial⟩
                  case measure => simp [intOf]; omega
              · have h1z : ¬ (x : Int) < (j : Int) := by omega
                have h2 : ¬ (x : Int) < r := by omega
                rw [PN.out x hlt3 h1] at c1
                go_wp2_with fail
                go_roundw
                case rel => exact ⟨x + 1, by omega, by go_num, by first | rfl | trivial⟩
                case measure => simp [intOf]; omega
            · obtain rfl : x = j + m := by omega
              go_wp2_with fail
              go_ret
              exact ⟨rfl, X2.out⟩

set_option maxRecDepth 100000 in
theorem lifted (os : Os) (started : os.Started) (H : Type) (enc : TypeId × Value → H) :
    ReturnsInHanded {} Try.checked os 6 .any (Rows.shareEvenSpec.pre6 enc Try.prog Try.f6 [] false) (Rows.shareEvenSpec.post enc Try.prog Try.f6 false true false false) := by
  refine law_lift (C := Try.checked) own started (by kernel_rfl) Try.func6 laidOut rfl rfl Try.underlying4 (by kernel_rfl) ?_
    (ChangeSpec.witness6 (enc := enc) (C := Try.checked) false ⟨#[], #[.int .u32 0, .int .u8 0, .int .u8 0], []⟩ 8 (by kernel_rfl) (by kernel_rfl) (by kernel_rfl) (by kernel_rfl)) ?_
  · intro H ds h
    match ds, h with
    | [_, _, _], _ => rfl
  · intro W base args ds p hval hA hlt hwt hsh
    rw [Try.params6] at hA hval
    obtain ⟨v0, vs0, d0, ds0, p0, q0, hargs, rfl, rfl, h0, r0⟩ := trodAll_cons hA
    obtain ⟨v1, vs1, d1, ds1, p1, q1, rfl, rfl, rfl, h1, r1⟩ := trodAll_cons r0
    obtain ⟨v2, vs2, d2, ds2, p2, q2, rfl, rfl, rfl, h2, r2⟩ := trodAll_cons r1
    obtain ⟨rfl, rfl, rfl⟩ := trodAll_nil r2
    obtain rfl : args = #[v0, v1, v2] := by cases args; simp_all
    obtain ⟨a0, rfl, rfl, rfl, wf0⟩ := open_int Try.underlying29 (hval 0 29 v0 rfl rfl) h0
    obtain ⟨a1, rfl, rfl, rfl, wf1⟩ := open_int Try.underlying5 (hval 1 5 v1 rfl rfl) h1
    obtain ⟨a2, rfl, rfl, rfl, wf2⟩ := open_int Try.underlying5 (hval 2 5 v2 rfl rfl) h2
    exact walk a0 (bounds_u32 wf0) a1 (bounds_u8 wf1) a2 (bounds_u8 wf2) W 

theorem holds : Rows.ShareEvenSaid :=
  OpenClaim.holds_of_wide 6 Try.f6 rfl rfl rfl rfl rfl rfl rfl ⟨rfl, rfl, rfl, rfl, rfl⟩ rfl rfl rfl rfl rfl (by kernel_rfl) Try.func6 (by kernel_rfl)
    (of_decide_eq_true (by kernel_rfl)) (by unfold Func.isWrapper; first | (rw [if_pos (by decide +kernel)]; kernel_rfl) | (rw [if_neg (by decide +kernel)]; exact ⟨rfl, rfl⟩))
    (fun os started H enc _ => lifted os started H enc)
end ShareEven
end Go.Proofs.Ytnkomnmdmbegiaa

