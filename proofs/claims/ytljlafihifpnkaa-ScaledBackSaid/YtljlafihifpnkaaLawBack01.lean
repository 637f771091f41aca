/- ScaledBack: what is added is taken away again, it does not matter which one is first, and a sum is that of its parts, if they are dimensions (at most a hundred numbers each): for every input. -/
import Derived.Test.YtljlafihifpnkaaSum01
import Derived.OpenShut
namespace Go.Proofs.Ytljlafihifpnkaa
open Go.ChangeShapes Go.WideShapes Go.ChangeAt Go.RowKit
namespace ScaledBack

theorem sumR_err (l : List Int) : ∀ s, (sumR s l).2 = 0 ∨ (sumR s l).2 = 10 := by
  induction l with
  | nil => intro s; exact .inl rfl
  | cons x l ih =>
    intro s
    rcases kept_err s x (s + x) with h | h
    · rw [sumR_go h]; exact ih _
    · rw [sumR_stop h]; exact .inr rfl
theorem sumR_add (l m : List Int) : ∀ s, (sumR s l).2 = 0 → sumR s (l ++ m) = sumR (sumR s l).1 m := by
  induction l with
  | nil => intro s _; rfl
  | cons x l ih =>
    intro s h
    rcases kept_err s x (s + x) with k | k
    · rw [sumR_go k] at h ⊢
      rw [List.cons_append, sumR_go k]; exact ih _ h
    · rw [sumR_stop k] at h; cases h
theorem sumR_bad (l m : List Int) : ∀ s, (sumR s l).2 = 10 → (sumR s (l ++ m)).2 = 10 := by
  induction l with
  | nil => intro s h; cases h
  | cons x l ih =>
    intro s h
    rcases kept_err s x (s + x) with k | k
    · rw [sumR_go k] at h
      rw [List.cons_append, sumR_go k]; exact ih _ h
    · rw [List.cons_append, sumR_stop k]
theorem sumR_sum (l : List Int) : ∀ s, (sumR s l).2 = 0 → (sumR s l).1 = s + l.sum := by
  induction l with
  | nil => intro s _; simp [sumR]
  | cons x l ih =>
    intro s h
    rcases kept_err s x (s + x) with k | k
    · rw [sumR_go k] at h ⊢
      rw [ih _ h, List.sum_cons]; omega
    · rw [sumR_stop k] at h; cases h

/-- The ways through the second half: h, i, j, k are errors; z the sum of the parts, t that of the whole. -/
theorem ways (l m : List Int) (x y h i t k : Int) (hl : sumR 0 l = (x, h)) (hm : sumR 0 m = (y, i)) (ht : sumR 0 (l ++ m) = (t, k)) :
    (h = 10 ∧ k = 10) ∨ (h = 0 ∧ i = 10 ∧ (k = 0 ∨ k = 10)) ∨ (h = 0 ∧ i = 0 ∧ keptE x y (x + y) = 10 ∧ (k = 0 ∨ k = 10)) ∨ (h = 0 ∧ i = 0 ∧ keptE x y (x + y) = 0 ∧ k = 10) ∨
    (h = 0 ∧ i = 0 ∧ keptE x y (x + y) = 0 ∧ k = 0 ∧ keptV x y (x + y) = t) := by
  have ek := sumR_err (l ++ m) 0
  rw [ht] at ek
  rcases sumR_err l 0 with e | e
  · rw [hl] at e
    rcases sumR_err m 0 with f | f
    · rw [hm] at f
      rcases kept_err x y (x + y) with g | g
      · rcases ek with ek | ek
        · refine .inr (.inr (.inr (.inr ⟨e, f, g, ek, ?_⟩)))
          have s1 := sumR_sum l 0 (by rw [hl]; exact e)
          have s2 := sumR_sum m 0 (by rw [hm]; exact f)
          have s3 := sumR_sum (l ++ m) 0 (by rw [ht]; exact ek)
          rw [hl] at s1; rw [hm] at s2; rw [ht, List.sum_append] at s3
          simp only at s1 s2 s3
          rw [(kept_zero g).2.2.2]; omega
        · exact .inr (.inr (.inr (.inl ⟨e, f, g, ek⟩)))
      · exact .inr (.inr (.inl ⟨e, f, g, ek⟩))
    · rw [hm] at f; exact .inr (.inl ⟨e, f, ek⟩)
  · have := sumR_bad l m 0 e
    rw [hl] at e; rw [ht] at this
    exact .inl ⟨e, this⟩

theorem ways1 (a b : Int) : (keptE a b (a + b) = 10) ∨ (keptE a b (a + b) = 0 ∧ keptV (keptV a b (a + b)) b (keptV a b (a + b) - b) = a ∧ keptE (keptV a b (a + b)) b (keptV a b (a + b) - b) = 0) := by
  rcases kept_err a b (a + b) with e | e
  · obtain ⟨h1, h2, h3, h4⟩ := kept_zero e
    have e' : a + b - b = a := by omega
    refine .inr ⟨e, ?_, ?_⟩ <;> rw [h4, e']
    · exact (kept_yes h3 h2 h1).1
    · exact (kept_yes h3 h2 h1).2
  · exact .inl e

theorem int_slice : SliceOf Try.prog 28 3 1 8 :=
  slice_of (z := .int .i64 0) Try.underlying28 (by kernel_rfl) rfl (by decide)

theorem add_turn (a b : Int) (w : World) : Calls Try.prog 9 #[.int .i64 b, .int .i64 a] w (Ret w (.tuple #[.int .i64 (keptV a b (a + b)), .int .i64 (keptE a b (a + b))])) := by
  have h := add_any b a w
  have e1 : keptV b a (b + a) = keptV a b (a + b) := by
    unfold keptV; rw [Int.add_comm b a]; congr 1; exact propext ⟨fun ⟨x, y, z⟩ => ⟨y, x, z⟩, fun ⟨x, y, z⟩ => ⟨y, x, z⟩⟩
  have e2 : keptE b a (b + a) = keptE a b (a + b) := by
    unfold keptE; rw [Int.add_comm b a]; congr 1; exact propext ⟨fun ⟨x, y, z⟩ => ⟨y, x, z⟩, fun ⟨x, y, z⟩ => ⟨y, x, z⟩⟩
  rw [e1, e2] at h
  exact h

theorem sum_all {A : Option Addr} {l : List Int} {c : Nat} {x h : Int} (hl : sumR 0 l = (x, h)) (hlen : l.length ≤ 200) (w : World) (hs : Seen w.heap.size w A (l.map (.int .i64))) :
    Calls Try.prog 17 #[.slice A l.length c] w (Ret w (.tuple #[.int .i64 x, .int .i64 h])) := by
  have k := sum_any A l c w hs (by omega)
  rw [hl] at k
  exact k
theorem sum_at {A : Option Addr} {l : List Int} {c : Nat} {x h : Int} (hl : sumR 0 l = (x, h)) (hlen : l.length ≤ 100) (w : World) (hs : Seen w.heap.size w A (l.map (.int .i64))) :
    Calls Try.prog 17 #[.slice A l.length c] w (Ret w (.tuple #[.int .i64 x, .int .i64 h])) := by
  exact sum_all hl (by omega) w hs

set_option maxHeartbeats 1000000 in
theorem core (a b : Int) (A : Option Addr) (l : List Int) (c : Nat) (A' : Option Addr) (m : List Int) (c' : Nat) (hl : l.length ≤ 100) (hm : m.length ≤ 100) (w : World)
    (hs : Seen w.heap.size w A (l.map (.int .i64))) (hs' : Seen w.heap.size w A' (m.map (.int .i64)))
    (s e d g x h y i z j t k : Int)
    (cadd : ∀ w, Calls Try.prog 9 #[.int .i64 a, .int .i64 b] w (Ret w (.tuple #[.int .i64 s, .int .i64 e])))
    (cturn : ∀ w, Calls Try.prog 9 #[.int .i64 b, .int .i64 a] w (Ret w (.tuple #[.int .i64 s, .int .i64 e])))
    (csub : ∀ w, Calls Try.prog 11 #[.int .i64 s, .int .i64 b] w (Ret w (.tuple #[.int .i64 d, .int .i64 g])))
    (csum : ∀ w, Calls Try.prog 9 #[.int .i64 x, .int .i64 y] w (Ret w (.tuple #[.int .i64 z, .int .i64 j])))
    (hx : sumR 0 l = (x, h)) (hy : sumR 0 m = (y, i)) (ht : sumR 0 (l ++ m) = (t, k))
    (o1 : e = 10 ∨ (e = 0 ∧ d = a ∧ g = 0))
    (o2 : (h = 10 ∧ k = 10) ∨ (h = 0 ∧ i = 10 ∧ (k = 0 ∨ k = 10)) ∨ (h = 0 ∧ i = 0 ∧ j = 10 ∧ (k = 0 ∨ k = 10)) ∨ (h = 0 ∧ i = 0 ∧ j = 0 ∧ k = 10) ∨ (h = 0 ∧ i = 0 ∧ j = 0 ∧ k = 0 ∧ z = t)) :
    Calls Try.prog 5 #[.int .i64 a, .int .i64 b, .slice A l.length c, .slice A' m.length c'] w (Ret w (.bool true)) := by
  have H1 := Lib.hid cadd; have H2 := Lib.hid cturn; have H3 := Lib.hid csub; have H4 := Lib.hid csum
  have S1 := Lib.hid hs; have S2 := Lib.hid hs'
  clear cadd cturn csub csum hs hs'
  rcases o1 with rfl | ⟨rfl, rfl, rfl⟩ <;> rcases o2 with ⟨rfl, rfl⟩ | ⟨rfl, rfl, rfl | rfl⟩ | ⟨rfl, rfl, rfl, rfl | rfl⟩ | ⟨rfl, rfl, rfl, rfl⟩ | ⟨rfl, rfl, rfl, rfl, rfl⟩
  all_goals
    have X := Lib.hid hx; have Y := Lib.hid hy; have T := Lib.hid ht
    clear hx hy ht
    go_enter Try.func5, Try.ntmps5
    go_wp2_with fail
    refine (awake_any _).mono ?_; rintro e w1 ⟨rfl, x1⟩
    go_wp2_with fail
    refine (H1.out _).mono ?_; rintro e w2 ⟨rfl, x2⟩
    go_wp2_with fail
    refine (H2.out _).mono ?_; rintro e w3 ⟨rfl, x3⟩
    go_wp2_with fail
    refine (H3.out _).mono ?_; rintro e w4 ⟨rfl, x4⟩
    have x14 := ((x1.trans x2).trans x3).trans x4
    go_wp2_with fail
    refine (sum_at X.out hl _ (S1.out.ext x14)).mono ?_; rintro e w5 ⟨rfl, x5⟩
    go_wp2_with fail
    refine (sum_at Y.out hm _ (S2.out.ext (x14.trans x5))).mono ?_; rintro e w6 ⟨rfl, x6⟩
    go_wp2_with fail
    refine (H4.out _).mono ?_; rintro e w7 ⟨rfl, x7⟩
    have x17 := ((x14.trans x5).trans x6).trans x7
    have O0 := World.ownsRow_lit (base := w.heap.size) (e := 3) (size := 1) w7 #[] 0 x17.size (by simp) rfl
    have x18 : Ext w (w7.alloc (.cells #[] 3)) := x17.alloc _
    have S1' : Hid _ := Lib.hid ((S1.out.ext x17).ext ((Ext.refl w7).alloc (.cells #[] 3)))
    go_wp2_with (first
      | (at_builtin
         refine wpList_put int_slice rfl (.tmp 71) (.tmp 72) rfl rfl O0 x18 rfl (by simp) S1'.out (ints_oneCell _ _) (by omega) (by omega) ?_
         intro v8 w8 own8 x28 gr8 at8
         have S2' := Lib.hid (S2.out.ext x28))
      | (at_builtin
         refine wpList_put int_slice rfl (.tmp 73) (.tmp 74) rfl rfl own8 x28 rfl (by simp) S2'.out (ints_oneCell _ _) (by omega) (by omega) ?_
         intro v9 w9 own9 x29 gr9 at9
         obtain ⟨A9, c9, rfl, s9⟩ := own_seen own9
         have S9 := Lib.hid s9
         clear s9))
    have s10 : Seen w9.heap.size w9 A9 ((l ++ m).map (.int .i64)) := by simpa using S9.out
    rw [show l.length + m.length = (l ++ m).length from by simp]
    refine (sum_all T.out (by simp; omega) _ s10).mono ?_; rintro e w10 ⟨rfl, x10⟩
    clear s10 own8 own9
    go_wp2_with fail
    go_ret
    exact ⟨rfl, x29.trans x10⟩

theorem walk (a : Int) (_ : -9223372036854775808 ≤ a ∧ a ≤ 9223372036854775807) (b : Int) (_ : -9223372036854775808 ≤ b ∧ b ≤ 9223372036854775807)
    (A : Option Addr) (l : List Int) (c : Nat) (hc : l.length ≤ c) (hcm : c ≤ maxLen) (_ : ∀ n ∈ l, (Lit.int .i64 n).wf = true)
    (A' : Option Addr) (m : List Int) (c' : Nat) (hc' : m.length ≤ c') (hcm' : c' ≤ maxLen) (_ : ∀ n ∈ m, (Lit.int .i64 n).wf = true) (w : World)
    (hs : Seen w.heap.size w A (l.map (.int .i64))) (hs' : Seen w.heap.size w A' (m.map (.int .i64))) :
    Calls Try.prog 5 #[.int .i64 a, .int .i64 b, .slice A l.length c, .slice A' m.length c'] w (Ret w (.bool true)) := by
  by_cases hl : l.length ≤ 100
  · by_cases hm : m.length ≤ 100
    · exact core a b A l c A' m c' hl hm w hs hs' _ _ _ _ _ _ _ _ _ _ _ _ (add_any a b) (add_turn a b) (sub_any _ b) (add_any _ _) rfl rfl rfl (ways1 a b) (ways l m _ _ _ _ _ _ rfl rfl rfl)
    · have h0 : 100 < m.length := by omega
      have h1 : m.length ≤ 9223372036854775807 := by unfold maxLen at hcm'; omega
      clear hs hs' hcm hcm' hm
      go_enter Try.func5, Try.ntmps5
      go_wp2_with fail
      refine (awake_any _).mono ?_; rintro e w1 ⟨rfl, x1⟩
      go_wp2_with fail
      go_ret
      exact ⟨rfl, x1⟩
  · have h0 : 100 < l.length := by omega
    have h1 : l.length ≤ 9223372036854775807 := by unfold maxLen at hcm; omega
    clear hs hs' hcm hcm' hl
    go_enter Try.func5, Try.ntmps5
    go_wp2_with fail
    refine (awake_any _).mono ?_; rintro e w1 ⟨rfl, x1⟩
    go_wp2_with fail
    go_ret
    exact ⟨rfl, x1⟩

set_option maxRecDepth 100000 in
theorem lifted (os : Os) (started : os.Started) (H : Type) (enc : TypeId × Value → H) :
    ReturnsInHanded {} Try.checked os 5 .any (Rows.scaledBackSpec.pre6 enc Try.prog Try.f5 [] false) (Rows.scaledBackSpec.post enc Try.prog Try.f5 false true false false) := by
  refine law_lift (C := Try.checked) own started (by kernel_rfl) Try.func5 laidOut rfl rfl Try.underlying4 (by kernel_rfl) ?_
    (ChangeSpec.witness6 (enc := enc) (C := Try.checked) false ⟨#[], #[.int .i64 0, .int .i64 0, .slice none 0 0, .slice none 0 0], []⟩ 8 (by kernel_rfl) (by kernel_rfl) (by kernel_rfl) (by kernel_rfl)) ?_
  · intro H ds h
    match ds, h with
    | [_, _, _, _], _ => rfl
  · intro W base args ds p hval hA hlt hwt hsh
    rw [Try.params5] at hA hval
    obtain ⟨v0, vs0, d0, ds0, p0, q0, hargs, rfl, rfl, h0, r0⟩ := trodAll_cons hA
    obtain ⟨v1, vs1, d1, ds1, p1, q1, rfl, rfl, rfl, h1, r1⟩ := trodAll_cons r0
    obtain ⟨v2, vs2, d2, ds2, p2, q2, rfl, rfl, rfl, h2, r2⟩ := trodAll_cons r1
    obtain ⟨v3, vs3, d3, ds3, p3, q3, rfl, rfl, rfl, h3, r3⟩ := trodAll_cons r2
    obtain ⟨rfl, rfl, rfl⟩ := trodAll_nil r3
    obtain rfl : args = #[v0, v1, v2, v3] := by cases args; simp_all
    obtain ⟨a0, rfl, rfl, rfl, wf0⟩ := open_int Try.underlying3 (hval 0 3 v0 rfl rfl) h0
    obtain ⟨a1, rfl, rfl, rfl, wf1⟩ := open_int Try.underlying3 (hval 1 3 v1 rfl rfl) h1
    obtain ⟨A2, l2, c2, rfl, hc2, hm2, wf2, hs2⟩ := seen_ints Try.underlying28 Try.underlying3 (by kernel_rfl) (hval 2 28 v2 rfl rfl) h2
    obtain ⟨A3, l3, c3, rfl, hc3, hm3, wf3, hs3⟩ := seen_ints Try.underlying28 Try.underlying3 (by kernel_rfl) (hval 3 28 v3 rfl rfl) h3
    exact walk a0 (bounds_i64 wf0) a1 (bounds_i64 wf1) A2 l2 c2 hc2 hm2 wf2 A3 l3 c3 hc3 hm3 wf3 W hs2 hs3

theorem holds : Rows.ScaledBackSaid :=
  OpenClaim.holds_of_wide 5 Try.f5 rfl rfl rfl rfl rfl rfl rfl ⟨rfl, rfl, rfl, rfl, rfl⟩ rfl rfl rfl rfl rfl (by kernel_rfl) Try.func5 (by kernel_rfl)
    (of_decide_eq_true (by kernel_rfl)) (by unfold Func.isWrapper; first | (rw [if_pos (by decide +kernel)]; kernel_rfl) | (rw [if_neg (by decide +kernel)]; exact ⟨rfl, rfl⟩))
    (fun os started H enc _ => lifted os started H enc)
end ScaledBack
end Go.Proofs.Ytljlafihifpnkaa

