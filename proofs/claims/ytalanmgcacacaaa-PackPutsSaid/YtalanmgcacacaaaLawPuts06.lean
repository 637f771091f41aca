/- PackPuts: any number behind any bytes, and one that may be below 0, are what the document says, or its error (at most a thousand bytes): for every input. -/
import Derived.Test.YtalanmgcacacaaaPackRefC06
import Derived.OpenShut
namespace Go.Proofs.Ytalanmgcacacaaa
open Go.ChangeShapes Go.WideShapes Go.ChangeAt Go.RowKit Go.Deep
namespace PackPuts
open L06

/-- A list of bytes, and an error. -/
def OutB (w : World) (L : List UInt8) (E : Int) (e : Ending) (w' : World) : Prop := ∃ A c, e = .returned (.tuple #[.slice A L.length c, .int .i64 E]) ∧ SeenB w' A L ∧ Ext w w'
theorem out_yes {w w' : World} {L : List UInt8} {e : Ending} (h : GivesB w L e w') : OutB w L 0 e w' := by
  obtain ⟨A, c, he, _, s, x⟩ := h; exact ⟨A, c, he, s, x⟩
theorem out_no {w w' : World} {e : Ending} (h : Ret w (.tuple #[.slice none 0 0, .int .i64 60]) e w') : OutB w [] 60 e w' := ⟨none, 0, h.1, SeenB.nil, h.2⟩

theorem put_out (A : Option Addr) (l : List UInt8) (c : Nat) (n size : Int) (hl : l.length ≤ 1000) : ∃ L E,
    (∀ w, SeenB w A l → Calls Try.prog 10 #[.slice A l.length c, .int .i64 n, .int .i64 size] w (OutB w L E)) ∧
    (∀ w, SeenB w A l → Calls Try.prog 11 #[.slice A l.length c, .int .i64 n, .int .i64 size] w (OutB w L E)) := by
  rcases put_ways n size with h | ⟨z, rfl, h1, h2, h3, h4⟩
  · exact ⟨[], 60, fun w _ => (put_no A _ c n size w h).mono fun _ _ => out_no, fun w _ => (rput_no A _ c n size w h).mono fun _ _ => out_no⟩
  · exact ⟨_, 0, fun w hs => (put_yes A l c z n w hs (by omega) h1 h2 h3 h4).mono fun _ _ => out_yes, fun w hs => (rput_yes A l c z n w hs (by omega) h1 h2 h3 h4).mono fun _ _ => out_yes⟩
theorem fix_out (A : Option Addr) (l : List UInt8) (c : Nat) (n : Int) (hl : l.length ≤ 1000) : ∃ L E,
    (∀ w, SeenB w A l → Calls Try.prog 12 #[.slice A l.length c, .int .i64 n] w (OutB w L E)) ∧
    (∀ w, SeenB w A l → Calls Try.prog 13 #[.slice A l.length c, .int .i64 n] w (OutB w L E)) := by
  rcases fix_ways n with h | ⟨h1, h2⟩
  · exact ⟨[], 60, fun w _ => (putfix_no A _ c n w h).mono fun _ _ => out_no, fun w _ => (rputfix_no A _ c n w h).mono fun _ _ => out_no⟩
  · exact ⟨_, 0, fun w hs => (putfix_yes A l _ c n w hs rfl (by omega) h1 h2).mono fun _ _ => out_yes, fun w hs => (rputfix_yes A l _ c n w hs rfl (by omega) h1 h2).mono fun _ _ => out_yes⟩

theorem many (A : Option Addr) (m c : Nat) (n size : Int) (hn : 1000 < m) (hm : m ≤ 9223372036854775807) (w : World) :
    Calls Try.prog 3 #[.slice A m c, .int .i64 n, .int .i64 size] w (Ret w (.bool true)) := by
  have hz : 1000 < (m : Int) := by omega
  go_enter Try.func3, Try.ntmps3
  go_wp2_with fail
  refine (L06.awake_any _).mono ?_; rintro e w1 ⟨rfl, x1⟩
  go_wp2_with fail
  go_ret
  exact ⟨rfl, x1⟩

set_option maxHeartbeats 2000000 in
theorem few (A : Option Addr) (l : List UInt8) (c : Nat) (n size : Int) (hn : l.length ≤ 1000) (w : World) (hs : SeenB w A l) :
    Calls Try.prog 3 #[.slice A l.length c, .int .i64 n, .int .i64 size] w (Ret w (.bool true)) := by
  have hz : ¬ (1000 < (l.length : Int)) := by omega
  obtain ⟨L, E, P1, P2⟩ := put_out A l c n size hn
  obtain ⟨M, F, Q1, Q2⟩ := fix_out A l c n hn
  have P1 := Lib.hid P1; have P2 := Lib.hid P2; have Q1 := Lib.hid Q1; have Q2 := Lib.hid Q2
  go_enter Try.func3, Try.ntmps3
  go_wp2_with fail
  refine (L06.awake_any _).mono ?_; rintro e w1 ⟨rfl, x1⟩
  go_wp2_with fail
  refine (P1.out _ (hs.ext x1)).mono ?_; rintro e w2 ⟨A2, c2, rfl, s2, x2⟩
  have X2 := x1.trans x2
  go_wp2_with fail
  refine (P2.out _ (hs.ext X2)).mono ?_; rintro e w3 ⟨A3, c3, rfl, s3, x3⟩
  have X3 := X2.trans x3
  go_wp2_with fail
  refine (Q1.out _ (hs.ext X3)).mono ?_; rintro e w4 ⟨A4, c4, rfl, s4, x4⟩
  have X4 := X3.trans x4
  go_wp2_with fail
  refine (Q2.out _ (hs.ext X4)).mono ?_; rintro e w5 ⟨A5, c5, rfl, s5, x5⟩
  have X5 := X4.trans x5
  have q1 := str_of (((s2.ext x3).ext x4).ext x5) c2 _ rfl
  have q2 := str_of ((s3.ext x4).ext x5) c3 _ rfl
  have q3 := str_of (s4.ext x5) c4 _ rfl
  have q4 := str_of s5 c5 _ rfl
  clear s2 s3 s4 s5 x1 x2 x3 x4 x5 X2 X3 X4
  go_wp2_with fail
  go_ret
  exact ⟨rfl, X5⟩

theorem walk (A : Option Addr) (l : List UInt8) (c : Nat) (hc : l.length ≤ c) (hcm : c ≤ maxLen) (n : Int) (_ : -9223372036854775808 ≤ n ∧ n ≤ 9223372036854775807) (size : Int) (_ : -9223372036854775808 ≤ size ∧ size ≤ 9223372036854775807) (w : World) (hs : SeenB w A l) :
    Calls Try.prog 3 #[.slice A l.length c, .int .i64 n, .int .i64 size] w (Ret w (.bool true)) := by
  unfold maxLen at hcm
  by_cases hn : l.length ≤ 1000
  · exact few A l c n size hn w hs
  · exact many A _ c n size (by omega) (by omega) w

set_option maxRecDepth 100000 in
theorem lifted (os : Os) (started : os.Started) (H : Type) (enc : TypeId × Value → H) :
    ReturnsInHanded {} Try.checked os 3 .any (Rows.packPutsSpec.pre6 enc Try.prog Try.f3 [] false) (Rows.packPutsSpec.post enc Try.prog Try.f3 false true false false) := by
  refine law_lift (C := Try.checked) own started (by kernel_rfl) Try.func3 laidOut rfl rfl Try.underlying4 (by kernel_rfl) ?_
    (ChangeSpec.witness6 (enc := enc) (C := Try.checked) false ⟨#[], #[.slice none 0 0, .int .i64 0, .int .i64 0], []⟩ 8 (by kernel_rfl) (by kernel_rfl) (by kernel_rfl) (by kernel_rfl)) ?_
  · intro H ds h
    match ds, h with
    | [_, _, _], _ => rfl
  · intro W base args ds p hval hA hlt hwt hsh
    rw [Try.params3] at hA hval
    obtain ⟨v0, vs0, d0, ds0, p0, q0, hargs, rfl, rfl, h0, r0⟩ := trodAll_cons hA
    obtain ⟨v1, vs1, d1, ds1, p1, q1, rfl, rfl, rfl, h1, r1⟩ := trodAll_cons r0
    obtain ⟨v2, vs2, d2, ds2, p2, q2, rfl, rfl, rfl, h2, r2⟩ := trodAll_cons r1
    obtain ⟨rfl, rfl, rfl⟩ := trodAll_nil r2
    obtain rfl : args = #[v0, v1, v2] := by cases args; simp_all
    obtain ⟨A0, l0, c0, rfl, hc0, hm0, hs0⟩ := seen_bytes Try.underlying22 Try.underlying5 (by kernel_rfl) (hval 0 22 v0 rfl rfl) h0
    obtain ⟨a1, rfl, rfl, rfl, wf1⟩ := open_int Try.underlying3 (hval 1 3 v1 rfl rfl) h1
    obtain ⟨a2, rfl, rfl, rfl, wf2⟩ := open_int Try.underlying3 (hval 2 3 v2 rfl rfl) h2
    exact walk A0 l0 c0 hc0 hm0 a1 (bounds_i64 wf1) a2 (bounds_i64 wf2) W hs0

theorem holds : Rows.PackPutsSaid :=
  OpenClaim.holds_of_wide 3 Try.f3 rfl rfl rfl rfl rfl rfl rfl ⟨rfl, rfl, rfl, rfl, rfl⟩ rfl rfl rfl rfl rfl (by kernel_rfl) Try.func3 (by kernel_rfl)
    (of_decide_eq_true (by kernel_rfl)) (by unfold Func.isWrapper; first | (rw [if_pos (by decide +kernel)]; kernel_rfl) | (rw [if_neg (by decide +kernel)]; exact ⟨rfl, rfl⟩))
    (fun os started H enc _ => lifted os started H enc)
end PackPuts
end Go.Proofs.Ytalanmgcacacaaa

