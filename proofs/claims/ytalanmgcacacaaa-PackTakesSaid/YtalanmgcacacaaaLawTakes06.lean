/- PackTakes: the number that any bytes begin with, one that may be below 0, and what is behind, are what the document says, or its error (at most a thousand bytes): for every input. -/
import Derived.Test.YtalanmgcacacaaaPackRefC06
import Derived.OpenShut
namespace Go.Proofs.Ytalanmgcacacaaa
open Go.ChangeShapes Go.WideShapes Go.ChangeAt Go.RowKit Go.Deep
namespace PackTakes
open L06

/-- A number, what is behind, and an error. -/
def OutT (w : World) (n : Int) (L : List UInt8) (E : Int) (e : Ending) (w' : World) : Prop := ∃ A c, e = .returned (.tuple #[.int .i64 n, .slice A L.length c, .int .i64 E]) ∧ SeenB w' A L ∧ Ext w w'
theorem out_yes {w w' : World} {n : Int} {L : List UInt8} {e : Ending} (h : GivesT w n L e w') : OutT w n L 0 e w' := by
  obtain ⟨A, c, he, s, x⟩ := h; exact ⟨A, c, he, s, x⟩
theorem out_no {w w' : World} {e : Ending} (h : Ret w (.tuple #[.int .i64 0, .slice none 0 0, .int .i64 60]) e w') : OutT w 0 [] 60 e w' := ⟨none, 0, h.1, SeenB.nil, h.2⟩

theorem take_out (A : Option Addr) (l : List UInt8) (c : Nat) (size : Int) (hl : l.length ≤ 1000) (hc : l.length ≤ c) : ∃ n L E,
    (∀ w, SeenB w A l → Calls Try.prog 14 #[.slice A l.length c, .int .i64 size] w (OutT w n L E)) ∧
    (∀ w, SeenB w A l → Calls Try.prog 15 #[.slice A l.length c, .int .i64 size] w (OutT w n L E)) := by
  by_cases h : (1 ≤ size ∧ size ≤ 4) ∧ size ≤ (l.length : Int)
  · obtain ⟨z, rfl⟩ : ∃ z : Nat, size = z := ⟨size.toNat, by omega⟩
    exact ⟨_, _, 0, fun w hs => (take_yes A l c _ z w hs rfl hc (by omega) (by omega) (by omega) (by omega)).mono fun _ _ => out_yes, fun w hs => (rtake_yes A l c _ z w hs rfl hc (by omega) (by omega) (by omega) (by omega)).mono fun _ _ => out_yes⟩
  · have h' : (size < 1 ∨ 4 < size) ∨ ((1 ≤ size ∧ size ≤ 4) ∧ (l.length : Int) < size) := by omega
    exact ⟨0, [], 60, fun w _ => (take_no A _ c size w h').mono fun _ _ => out_no, fun w _ => (rtake_no A _ c size w h').mono fun _ _ => out_no⟩
theorem fix_out (A : Option Addr) (l : List UInt8) (c : Nat) (hl : l.length ≤ 1000) (hc : l.length ≤ c) : ∃ n L E,
    (∀ w, SeenB w A l → Calls Try.prog 16 #[.slice A l.length c] w (OutT w n L E)) ∧
    (∀ w, SeenB w A l → Calls Try.prog 17 #[.slice A l.length c] w (OutT w n L E)) := by
  by_cases h : 4 ≤ l.length
  · exact ⟨_, _, 0, fun w hs => (takefix_yes A l c _ w hs rfl hc (by omega) h).mono fun _ _ => out_yes, fun w hs => (rtakefix_yes A l c _ w hs rfl hc (by omega) h).mono fun _ _ => out_yes⟩
  · exact ⟨0, [], 60, fun w _ => (takefix_no A _ c w (by omega)).mono fun _ _ => out_no, fun w _ => (rtakefix_no A _ c w (by omega)).mono fun _ _ => out_no⟩

theorem many (A : Option Addr) (m c : Nat) (size : Int) (hn : 1000 < m) (hm : m ≤ 9223372036854775807) (w : World) :
    Calls Try.prog 4 #[.slice A m c, .int .i64 size] w (Ret w (.bool true)) := by
  have hz : 1000 < (m : Int) := by omega
  go_enter Try.func4, Try.ntmps4
  go_wp2_with fail
  refine (L06.awake_any _).mono ?_; rintro e w1 ⟨rfl, x1⟩
  go_wp2_with fail
  go_ret
  exact ⟨rfl, x1⟩

set_option maxHeartbeats 2000000 in
theorem few (A : Option Addr) (l : List UInt8) (c : Nat) (size : Int) (hn : l.length ≤ 1000) (hc : l.length ≤ c) (w : World) (hs : SeenB w A l) :
    Calls Try.prog 4 #[.slice A l.length c, .int .i64 size] w (Ret w (.bool true)) := by
  have hz : ¬ (1000 < (l.length : Int)) := by omega
  obtain ⟨n, L, E, P1, P2⟩ := take_out A l c size hn hc
  obtain ⟨m, M, F, Q1, Q2⟩ := fix_out A l c hn hc
  have P1 := Lib.hid P1; have P2 := Lib.hid P2; have Q1 := Lib.hid Q1; have Q2 := Lib.hid Q2
  go_enter Try.func4, Try.ntmps4
  go_wp2_with fail
  refine (L06.awake_any _).mono ?_; rintro e w1 ⟨rfl, x1⟩
  go_wp2_with fail
  refine (P1.out _ (hs.ext x1)).mono ?_; rintro e w2 ⟨A2, c2, rfl, s2, x2⟩
  have X2 := x1.trans x2
  go_wp2_with fail
  refine (P2.out _ (hs.ext X2)).mono ?_; rintro e w3 ⟨A3, c3, rfl, s3, x3⟩
  have X3 := X2.trans x3
  go_wp2_with fail
  refine (Q1.out _ (hs.ext X3)).mono ?_; rintro e w4 ⟨A4, c4, rfl, s4, x4⟩
  have X4 := X3.trans x4
  go_wp2_with fail
  refine (Q2.out _ (hs.ext X4)).mono ?_; rintro e w5 ⟨A5, c5, rfl, s5, x5⟩
  have X5 := X4.trans x5
  have q1 := str_of (((s2.ext x3).ext x4).ext x5) c2 _ rfl
  have q2 := str_of ((s3.ext x4).ext x5) c3 _ rfl
  have q3 := str_of (s4.ext x5) c4 _ rfl
  have q4 := str_of s5 c5 _ rfl
  clear s2 s3 s4 s5 x1 x2 x3 x4 x5 X2 X3 X4
  go_wp2_with fail
  go_ret
  exact ⟨rfl, X5⟩

theorem walk (A : Option Addr) (l : List UInt8) (c : Nat) (hc : l.length ≤ c) (hcm : c ≤ maxLen) (size : Int) (_ : -9223372036854775808 ≤ size ∧ size ≤ 9223372036854775807) (w : World) (hs : SeenB w A l) :
    Calls Try.prog 4 #[.slice A l.length c, .int .i64 size] w (Ret w (.bool true)) := by
  unfold maxLen at hcm
  by_cases hn : l.length ≤ 1000
  · exact few A l c size hn hc w hs
  · exact many A _ c size (by omega) (by omega) w

set_option maxRecDepth 100000 in
theorem lifted (os : Os) (started : os.Started) (H : Type) (enc : TypeId × Value → H) :
    ReturnsInHanded {} Try.checked os 4 .any (Rows.packTakesSpec.pre6 enc Try.prog Try.f4 [] false) (Rows.packTakesSpec.post enc Try.prog Try.f4 false true false false) := by
  refine law_lift (C := Try.checked) own started (by kernel_rfl) Try.func4 laidOut rfl rfl Try.underlying4 (by kernel_rfl) ?_
    (ChangeSpec.witness6 (enc := enc) (C := Try.checked) false ⟨#[], #[.slice none 0 0, .int .i64 0], []⟩ 8 (by kernel_rfl) (by kernel_rfl) (by kernel_rfl) (by kernel_rfl)) ?_
  · intro H ds h
    match ds, h with
    | [_, _], _ => rfl
  · intro W base args ds p hval hA hlt hwt hsh
    rw [Try.params4] at hA hval
    obtain ⟨v0, vs0, d0, ds0, p0, q0, hargs, rfl, rfl, h0, r0⟩ := trodAll_cons hA
    obtain ⟨v1, vs1, d1, ds1, p1, q1, rfl, rfl, rfl, h1, r1⟩ := trodAll_cons r0
    obtain ⟨rfl, rfl, rfl⟩ := trodAll_nil r1
    obtain rfl : args = #[v0, v1] := by cases args; simp_all
    obtain ⟨A0, l0, c0, rfl, hc0, hm0, hs0⟩ := seen_bytes Try.underlying22 Try.underlying5 (by kernel_rfl) (hval 0 22 v0 rfl rfl) h0
    obtain ⟨a1, rfl, rfl, rfl, wf1⟩ := open_int Try.underlying3 (hval 1 3 v1 rfl rfl) h1
    exact walk A0 l0 c0 hc0 hm0 a1 (bounds_i64 wf1) W hs0

theorem holds : Rows.PackTakesSaid :=
  OpenClaim.holds_of_wide 4 Try.f4 rfl rfl rfl rfl rfl rfl rfl ⟨rfl, rfl, rfl, rfl, rfl⟩ rfl rfl rfl rfl rfl (by kernel_rfl) Try.func4 (by kernel_rfl)
    (of_decide_eq_true (by kernel_rfl)) (by unfold Func.isWrapper; first | (rw [if_pos (by decide +kernel)]; kernel_rfl) | (rw [if_neg (by decide +kernel)]; exact ⟨rfl, rfl⟩))
    (fun os started H enc _ => lifted os started H enc)
end PackTakes
end Go.Proofs.Ytalanmgcacacaaa

