/- PackFix: a fix is taken as it was put, behind any bytes, and one is put just if it has 31 bits (at most a hundred bytes): for every input. -/
import Derived.Test.YtalanmgcacacaaaAwake06
import Derived.OpenShut
namespace Go.Proofs.Ytalanmgcacacaaa
open Go.ChangeShapes Go.WideShapes Go.ChangeAt Go.RowKit Go.Deep
namespace PackFix
open L06

theorem many (A : Option Addr) (m c : Nat) (n : Int) (hn : 100 < m) (hm : m ≤ 9223372036854775807) (w : World) :
    Calls Try.prog 8 #[.slice A m c, .int .i64 n] w (Ret w (.bool true)) := by
  have hz : 100 < (m : Int) := by omega
  go_enter Try.func8, Try.ntmps8
  go_wp2_with fail
  refine (L06.awake_any _).mono ?_; rintro e w1 ⟨rfl, x1⟩
  go_wp2_with fail
  go_ret
  exact ⟨rfl, x1⟩

theorem no (A : Option Addr) (m c : Nat) (n : Int) (hn : m ≤ 100) (w : World) (h2 : n < -2147483648 ∨ 2147483648 ≤ n) :
    Calls Try.prog 8 #[.slice A m c, .int .i64 n] w (Ret w (.bool true)) := by
  have hz : ¬ (100 < (m : Int)) := by omega
  have H2 := Lib.hid h2
  rcases h2 with h | h
  all_goals
    go_enter Try.func8, Try.ntmps8
    go_wp2_with fail
    refine (L06.awake_any _).mono ?_; rintro e w1 ⟨rfl, x1⟩
    go_wp2_with fail
    refine (putfix_no A m c n _ H2.out).mono ?_; rintro e w3 ⟨rfl, x3⟩
    go_wp2_with fail
    go_ret
    first | exact ⟨rfl, x1.trans x3⟩ | exact ⟨ret_bool (by simp; omega), x1.trans x3⟩

/-- A fix's four bytes are that fix. -/
theorem fix_back (A : Option Addr) (c : Nat) (n : Int) (w : World) (hs : SeenB w A (be (up32 n).toNat 4)) (hc : 4 ≤ c) (h1 : -2147483648 ≤ n) (h2 : n < 2147483648) :
    Calls Try.prog 16 #[.slice A 4 c] w (GivesT w n []) ∧ Calls Try.prog 14 #[.slice A 4 c, .int .i64 4] w (GivesT w (up32 n) []) := by
  have hl := be_length (up32 n).toNat 4
  have hu := up32_in h1 h2
  have e1 : (be (up32 n).toNat 4).take 4 = be (up32 n).toNat 4 := List.take_of_length_le (by omega)
  have e2 : (be (up32 n).toNat 4).drop 4 = [] := List.drop_eq_nil_of_le (by omega)
  have e3 : ((num (be (up32 n).toNat 4) : Nat) : Int) = up32 n := by rw [num_be _ _ (by omega)]; omega
  have t1 := takefix_yes A (be (up32 n).toNat 4) c 4 w hs hl.symm hc (by omega) (by omega)
  have t2 := take_yes A (be (up32 n).toNat 4) c 4 4 w hs hl.symm hc (by omega) (by omega) (by omega) (by omega)
  rw [e1, e2, e3] at t1 t2
  rw [down_up h1 h2] at t1
  exact ⟨t1, t2⟩

set_option maxRecDepth 100000 in
set_option maxHeartbeats 2000000 in
theorem yes (A : Option Addr) (l : List UInt8) (c : Nat) (n : Int) (hn : l.length ≤ 100) (w : World) (hs : SeenB w A l) (h1 : -2147483648 ≤ n) (h2 : n < 2147483648) :
    Calls Try.prog 8 #[.slice A l.length c, .int .i64 n] w (Ret w (.bool true)) := by
  have hz : ¬ (100 < (l.length : Int)) := by omega
  go_enter Try.func8, Try.ntmps8
  go_wp2_with fail
  refine (L06.awake_any _).mono ?_; rintro e w1 ⟨rfl, x1⟩
  have hs1 := hs.ext x1
  go_wp2_with fail
  refine (putfix_yes A l l.length c n _ hs1 rfl (by omega) h1 h2).mono ?_; rintro e w2 h
  obtain ⟨A2, c2, rfl, hc2, s2, x2⟩ := h.open
  have x12 := x1.trans x2
  have hs2 := hs1.ext x2
  clear h x1 x2 hs1 hs
  go_wp2_with fail
  go_loopw [9] (fun i wr => ∃ k : Nat, k ≤ l.length ∧ i = .int .i64 k ∧ Ext w2 wr) (fun i _ => l.length - (intOf i).toNat)
  case atStart => exact ⟨0, by omega, rfl, Ext.refl _⟩
  case round =>
    obtain ⟨k, hk, rfl, x⟩ := hrel
    by_cases hlt : k < l.length
    · obtain ⟨ad, rfl, _, g1⟩ := (hs2.ext x).get hlt
      obtain ⟨ad2, rfl, _, g2⟩ := (s2.ext x).get (k := k) (by simp; omega)
      have e : ((l ++ be (up32 n).toNat 4)[k]'(by simp; omega)) = l[k] := List.getElem_append_left hlt
      rw [e] at g2
      have b0 : 0 ≤ (l[k].toNat : Int) := by omega
      have b1 : (l[k].toNat : Int) ≤ 255 := by have := l[k].toNat_lt; omega
      generalize (l[k].toNat : Int) = b at *
      clear e hs2 s2
      go_wp2_with fail
      go_quiet (fail)
      go_wp2_with fail
      go_roundw
      case rel => exact ⟨k + 1, by omega, by go_num, x.drewN _⟩
      case measure => simp [intOf]; omega
    · obtain rfl : k = l.length := by omega
      obtain ⟨ad, rfl, _, _⟩ := (s2.ext x).get (k := l.length) (by simp [be_length])
      have hcut := (s2.ext x).cut (k := l.length) (cap := c2) (by simp) (by simp [be_length]; omega)
      have hne : ¬ c2 = l.length := by omega
      rw [List.drop_left, cutA, if_neg hne] at hcut
      have hcut : SeenB wr (some (ad.add l.length)) (be (up32 n).toNat 4) := hcut
      clear s2 hs2
      go_wp2_with fail
      refine ((fix_back _ _ n _ hcut (by omega) h1 h2).1).mono ?_; rintro e w4 ⟨A4, c4, rfl, s4, x4⟩
      go_wp2_with fail
      refine ((fix_back _ _ n _ (hcut.ext x4) (by omega) h1 h2).2).mono ?_; rintro e w5 ⟨A5, c5, rfl, s5, x5⟩
      have X : Ext w w5 := (x12.trans x).trans (x4.trans x5)
      clear hcut x4 x5 s4 s5 x x12
      by_cases h : n < 0
      · have e : up32 n = n + 4294967296 := if_pos h
        rw [e]
        clear e
        have hb : (n + 4294967296 == n) = false := by simp; omega
        go_wp2_with fail
        go_ret
        exact ⟨rfl, X⟩
      · have e : up32 n = n := if_neg h
        rw [e]
        clear e
        go_wp2_with fail
        go_ret
        exact ⟨rfl, X⟩

theorem walk (A : Option Addr) (l : List UInt8) (c : Nat) (hc : l.length ≤ c) (hcm : c ≤ maxLen) (n : Int) (_ : -9223372036854775808 ≤ n ∧ n ≤ 9223372036854775807) (w : World) (hs : SeenB w A l) :
    Calls Try.prog 8 #[.slice A l.length c, .int .i64 n] w (Ret w (.bool true)) := by
  unfold maxLen at hcm
  by_cases hn : l.length ≤ 100
  · rcases fix_ways n with h2 | ⟨h2, h3⟩
    · exact no A _ c n hn w h2
    · exact yes A l c n hn w hs h2 h3
  · exact many A _ c n (by omega) (by omega) w

set_option maxRecDepth 100000 in
theorem lifted (os : Os) (started : os.Started) (H : Type) (enc : TypeId × Value → H) :
    ReturnsInHanded {} Try.checked os 8 .any (Rows.packFixSpec.pre6 enc Try.prog Try.f8 [] false) (Rows.packFixSpec.post enc Try.prog Try.f8 false true false false) := by
  refine law_lift (C := Try.checked) own started (by kernel_rfl) Try.func8 laidOut rfl rfl Try.underlying4 (by kernel_rfl) ?_
    (ChangeSpec.witness6 (enc := enc) (C := Try.checked) false ⟨#[], #[.slice none 0 0, .int .i64 0], []⟩ 8 (by kernel_rfl) (by kernel_rfl) (by kernel_rfl) (by kernel_rfl)) ?_
  · intro H ds h
    match ds, h with
    | [_, _], _ => rfl
  · intro W base args ds p hval hA hlt hwt hsh
    rw [Try.params8] at hA hval
    obtain ⟨v0, vs0, d0, ds0, p0, q0, hargs, rfl, rfl, h0, r0⟩ := trodAll_cons hA
    obtain ⟨v1, vs1, d1, ds1, p1, q1, rfl, rfl, rfl, h1, r1⟩ := trodAll_cons r0
    obtain ⟨rfl, rfl, rfl⟩ := trodAll_nil r1
    obtain rfl : args = #[v0, v1] := by cases args; simp_all
    obtain ⟨A0, l0, c0, rfl, hc0, hm0, hs0⟩ := seen_bytes Try.underlying22 Try.underlying5 (by kernel_rfl) (hval 0 22 v0 rfl rfl) h0
    obtain ⟨a1, rfl, rfl, rfl, wf1⟩ := open_int Try.underlying3 (hval 1 3 v1 rfl rfl) h1
    exact walk A0 l0 c0 hc0 hm0 a1 (bounds_i64 wf1) W hs0

theorem holds : Rows.PackFixSaid :=
  OpenClaim.holds_of_wide 8 Try.f8 rfl rfl rfl rfl rfl rfl rfl ⟨rfl, rfl, rfl, rfl, rfl⟩ rfl rfl rfl rfl rfl (by kernel_rfl) Try.func8 (by kernel_rfl)
    (of_decide_eq_true (by kernel_rfl)) (by unfold Func.isWrapper; first | (rw [if_pos (by decide +kernel)]; kernel_rfl) | (rw [if_neg (by decide +kernel)]; exact ⟨rfl, rfl⟩))
    (fun os started H enc _ => lifted os started H enc)
end PackFix
end Go.Proofs.Ytalanmgcacacaaa

