/- PackSizes: behind bytes a number takes as many as it says, and these stay (at most a thousand bytes): for every input. -/
import Derived.Test.YtalanmgcacacaaaAwake06
import Derived.OpenShut
namespace Go.Proofs.Ytalanmgcacacaaa
open Go.ChangeShapes Go.WideShapes Go.ChangeAt Go.RowKit  Go.Deep
namespace PackSizes
open L06

theorem many (A : Option Addr) (m c : Nat) (n size : Int) (hn : 1000 < m) (hm : m ≤ 9223372036854775807) (w : World) :
    Calls Try.prog 7 #[.slice A m c, .int .i64 n, .int .i64 size] w (Ret w (.bool true)) := by
  have hz : 1000 < (m : Int) := by omega
  go_enter Try.func7, Try.ntmps7
  go_wp2_with fail
  refine (L06.awake_any _).mono ?_; rintro e w1 ⟨rfl, x1⟩
  go_wp2_with fail
  go_ret
  exact ⟨rfl, x1⟩

theorem fix_plain (A : Option Addr) (l : List UInt8) (c : Nat) (n : Int) (w : World) (hs : SeenB w A l) (hl : l.length ≤ 100000) (h0 : 0 ≤ n) (h2 : n < 2147483648) :
    Calls Try.prog 12 #[.slice A l.length c, .int .i64 n] w (GivesB w (l ++ be n.toNat 4)) := by
  have F := putfix_yes A l l.length c n w hs rfl hl (by omega) h2
  have e : up32 n = n := if_neg (by omega)
  rwa [e] at F

set_option maxRecDepth 100000 in
set_option maxHeartbeats 2000000 in
theorem no_no (A : Option Addr) (m c : Nat) (n size : Int) (hn : m ≤ 1000) (w : World)
    (h1 : (size < 1 ∨ 4 < size) ∨ ((1 ≤ size ∧ size ≤ 4) ∧ (n < 0 ∨ (256 : Int) ^ size.toNat ≤ n))) (h2 : n < -2147483648 ∨ 2147483648 ≤ n) :
    Calls Try.prog 7 #[.slice A m c, .int .i64 n, .int .i64 size] w (Ret w (.bool true)) := by
  have hz : ¬ (1000 < (m : Int)) := by omega
  have H1 := Lib.hid h1; have H2 := Lib.hid h2
  clear h1 h2
  go_enter Try.func7, Try.ntmps7
  go_wp2_with fail
  refine (L06.awake_any _).mono ?_; rintro e w1 ⟨rfl, x1⟩
  go_wp2_with fail
  refine (put_no A m c n size _ H1.out).mono ?_; rintro e w2 ⟨rfl, x2⟩
  go_wp2_with fail
  refine (putfix_no A m c n _ H2.out).mono ?_; rintro e w3 ⟨rfl, x3⟩
  go_wp2_with fail
  go_quiet (fail)
  go_wp2_with fail
  go_quiet (fail)
  go_wp2_with fail
  go_ret
  exact ⟨rfl, ((x1.trans x2).trans x3).drewN _⟩

set_option maxRecDepth 100000 in
set_option maxHeartbeats 2000000 in
theorem no_yes (A : Option Addr) (l : List UInt8) (c : Nat) (n size : Int) (hn : l.length ≤ 1000) (w : World) (hs : SeenB w A l)
    (h1 : (size < 1 ∨ 4 < size) ∨ ((1 ≤ size ∧ size ≤ 4) ∧ (n < 0 ∨ (256 : Int) ^ size.toNat ≤ n))) (h2 : -2147483648 ≤ n) (h3 : n < 2147483648) :
    Calls Try.prog 7 #[.slice A l.length c, .int .i64 n, .int .i64 size] w (Ret w (.bool true)) := by
  have hz : ¬ (1000 < (l.length : Int)) := by omega
  have H1 := Lib.hid h1
  clear h1
  go_enter Try.func7, Try.ntmps7
  go_wp2_with fail
  refine (L06.awake_any _).mono ?_; rintro e w1 ⟨rfl, x1⟩
  go_wp2_with fail
  refine (put_no A l.length c n size _ H1.out).mono ?_; rintro e w2 ⟨rfl, x2⟩
  have hs2 := hs.ext (x1.trans x2)
  go_wp2_with fail
  refine (putfix_yes A l l.length c n _ hs2 rfl (by omega) h2 h3).mono ?_; rintro e w3 h
  obtain ⟨A3, c3, rfl, hc3, s3, x3⟩ := h.open
  have q1 := str_drew (s3.head) c3 l.length rfl
  have q2 := str_drew (hs2.ext x3) c l.length rfl
  go_wp2_with fail
  go_quiet (fail)
  go_wp2_with fail
  go_quiet (fail)
  go_wp2_with fail
  go_ret
  exact ⟨rfl, ((x1.trans x2).trans x3).drewN _⟩

set_option maxRecDepth 100000 in
set_option maxHeartbeats 2000000 in
theorem yes_no (A : Option Addr) (l : List UInt8) (c z : Nat) (n : Int) (hn : l.length ≤ 1000) (w : World) (hs : SeenB w A l)
    (h1 : 1 ≤ z) (h2 : z ≤ 4) (hn0 : 0 ≤ n) (hn1 : n < 256 ^ z) (h3 : n < -2147483648 ∨ 2147483648 ≤ n) :
    Calls Try.prog 7 #[.slice A l.length c, .int .i64 n, .int .i64 z] w (Ret w (.bool true)) := by
  have hz : ¬ (1000 < (l.length : Int)) := by omega
  have H1 := Lib.hid hn1
  have H3 := Lib.hid h3
  clear hn1 h3
  go_enter Try.func7, Try.ntmps7
  go_wp2_with fail
  refine (L06.awake_any _).mono ?_; rintro e w1 ⟨rfl, x1⟩
  have hs1 := hs.ext x1
  go_wp2_with fail
  refine (put_yes A l c z n _ hs1 (by omega) h1 h2 hn0 H1.out).mono ?_; rintro e w2 h
  obtain ⟨A2, c2, rfl, hc2, s2, x2⟩ := h.open
  go_wp2_with fail
  refine (putfix_no A l.length c n _ H3.out).mono ?_; rintro e w3 ⟨rfl, x3⟩
  have q1 := str_drew (s2.ext x3).head c2 l.length rfl
  have q2 := str_drew (hs1.ext (x2.trans x3)) c l.length rfl
  go_wp2_with fail
  go_quiet (fail)
  go_wp2_with fail
  go_quiet (fail)
  go_wp2_with fail
  all_goals
    go_ret
    exact ⟨rfl, ((x1.trans x2).trans x3).drewN _⟩

set_option maxRecDepth 100000 in
set_option maxHeartbeats 2000000 in
theorem yes_yes (A : Option Addr) (l : List UInt8) (c z : Nat) (n : Int) (hn : l.length ≤ 1000) (w : World) (hs : SeenB w A l)
    (h1 : 1 ≤ z) (h2 : z ≤ 4) (hn0 : 0 ≤ n) (hn1 : n < 256 ^ z) (h3 : n < 2147483648) :
    Calls Try.prog 7 #[.slice A l.length c, .int .i64 n, .int .i64 z] w (Ret w (.bool true)) := by
  have hz : ¬ (1000 < (l.length : Int)) := by omega
  have H1 := Lib.hid hn1
  have F := Lib.hid (fun w hs => fix_plain A l c n w hs (by omega) hn0 h3)
  clear hn1
  go_enter Try.func7, Try.ntmps7
  go_wp2_with fail
  refine (L06.awake_any _).mono ?_; rintro e w1 ⟨rfl, x1⟩
  have hs1 := hs.ext x1
  go_wp2_with fail
  refine (put_yes A l c z n _ hs1 (by omega) h1 h2 hn0 H1.out).mono ?_; rintro e w2 h
  obtain ⟨A2, c2, rfl, hc2, s2, x2⟩ := h.open
  go_wp2_with fail
  refine (F.out _ (hs1.ext x2)).mono ?_; rintro e w3 h
  obtain ⟨A3, c3, rfl, hc3, s3, x3⟩ := h.open
  clear F
  have q1 := str_drew (s2.ext x3).head c2 l.length rfl
  have q2 := str_drew (hs1.ext (x2.trans x3)) c l.length rfl
  have q3 := str_drew s3.head c3 l.length rfl
  have q4 := str_drew (s2.ext x3) c2 (l.length + z) (by simp [be_length])
  have q5 := str_drew s3 c3 (l.length + 4) (by simp [be_length])
  by_cases h4 : z < 4
  · go_wp2_with fail
    go_quiet (fail)
    go_wp2_with fail
    go_quiet (fail)
    go_wp2_with fail
    go_ret
    exact ⟨rfl, ((x1.trans x2).trans x3).drewN _⟩
  · obtain rfl : z = 4 := by omega
    go_wp2_with fail
    go_quiet (fail)
    go_wp2_with fail
    go_quiet (fail)
    go_wp2_with fail
    go_ret
    exact ⟨rfl, ((x1.trans x2).trans x3).drewN _⟩

theorem walk (A : Option Addr) (l : List UInt8) (c : Nat) (hc : l.length ≤ c) (hcm : c ≤ maxLen) (n : Int) (_ : -9223372036854775808 ≤ n ∧ n ≤ 9223372036854775807) (size : Int) (_ : -9223372036854775808 ≤ size ∧ size ≤ 9223372036854775807) (w : World) (hs : SeenB w A l) :
    Calls Try.prog 7 #[.slice A l.length c, .int .i64 n, .int .i64 size] w (Ret w (.bool true)) := by
  unfold maxLen at hcm
  by_cases hn : l.length ≤ 1000
  · rcases put_ways n size with h1 | ⟨z, rfl, h1, h2, h3, h4⟩
    · rcases fix_ways n with h2 | ⟨h2, h3⟩
      · exact no_no A _ c n size hn w h1 h2
      · exact no_yes A l c n size hn w hs h1 h2 h3
    · rcases fix_ways n with h5 | ⟨h5, h6⟩
      · exact yes_no A l c z n hn w hs h1 h2 h3 h4 h5
      · exact yes_yes A l c z n hn w hs h1 h2 h3 h4 h6
  · exact many A _ c n size (by omega) (by omega) w

set_option maxRecDepth 100000 in
theorem lifted (os : Os) (started : os.Started) (H : Type) (enc : TypeId × Value → H) :
    ReturnsInHanded {} Try.checked os 7 .any (Rows.packSizesSpec.pre6 enc Try.prog Try.f7 [] false) (Rows.packSizesSpec.post enc Try.prog Try.f7 false true false false) := by
  refine law_lift (C := Try.checked) own started (by kernel_rfl) Try.func7 laidOut rfl rfl Try.underlying4 (by kernel_rfl) ?_
    (ChangeSpec.witness6 (enc := enc) (C := Try.checked) false ⟨#[], #[.slice none 0 0, .int .i64 0, .int .i64 0], []⟩ 8 (by kernel_rfl) (by kernel_rfl) (by kernel_rfl) (by kernel_rfl)) ?_
  · intro H ds h
    match ds, h with
    | [_, _, _], _ => rfl
  · intro W base args ds p hval hA hlt hwt hsh
    rw [Try.params7] at hA hval
    obtain ⟨v0, vs0, d0, ds0, p0, q0, hargs, rfl, rfl, h0, r0⟩ := trodAll_cons hA
    obtain ⟨v1, vs1, d1, ds1, p1, q1, rfl, rfl, rfl, h1, r1⟩ := trodAll_cons r0
    obtain ⟨v2, vs2, d2, ds2, p2, q2, rfl, rfl, rfl, h2, r2⟩ := trodAll_cons r1
    obtain ⟨rfl, rfl, rfl⟩ := trodAll_nil r2
    obtain rfl : args = #[v0, v1, v2] := by cases args; simp_all
    obtain ⟨A0, l0, c0, rfl, hc0, hm0, hs0⟩ := seen_bytes Try.underlying22 Try.underlying5 (by kernel_rfl) (hval 0 22 v0 rfl rfl) h0
    obtain ⟨a1, rfl, rfl, rfl, wf1⟩ := open_int Try.underlying3 (hval 1 3 v1 rfl rfl) h1
    obtain ⟨a2, rfl, rfl, rfl, wf2⟩ := open_int Try.underlying3 (hval 2 3 v2 rfl rfl) h2
    exact walk A0 l0 c0 hc0 hm0 a1 (bounds_i64 wf1) a2 (bounds_i64 wf2) W hs0

theorem holds : Rows.PackSizesSaid :=
  OpenClaim.holds_of_wide 7 Try.f7 rfl rfl rfl rfl rfl rfl rfl ⟨rfl, rfl, rfl, rfl, rfl⟩ rfl rfl rfl rfl rfl (by kernel_rfl) Try.func7 (by kernel_rfl)
    (of_decide_eq_true (by kernel_rfl)) (by unfold Func.isWrapper; first | (rw [if_pos (by decide +kernel)]; kernel_rfl) | (rw [if_neg (by decide +kernel)]; exact ⟨rfl, rfl⟩))
    (fun os started H enc _ => lifted os started H enc)
end PackSizes
end Go.Proofs.Ytalanmgcacacaaa

