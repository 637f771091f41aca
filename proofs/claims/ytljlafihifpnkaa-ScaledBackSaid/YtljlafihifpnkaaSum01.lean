/- Contracts of layer 1's Sum, of the document's, and of what all statements of the layer begin with. -/
import Derived.Test.YtljlafihifpnkaaBase01
namespace Go.Proofs.Ytljlafihifpnkaa
open Go.RowKit
variable {A : Option Addr}

/-- What is left of a sum of l, from s on: the sum, and the error. -/
def sumR (s : Int) : List Int → Int × Int
  | [] => (s, 0)
  | x :: l => if keptE s x (s + x) = 0 then sumR (s + x) l else (0, 10)

theorem sumR_go {s x : Int} {l : List Int} (h : keptE s x (s + x) = 0) : sumR s (x :: l) = sumR (s + x) l := by simp [sumR, h]
theorem sumR_stop {s x : Int} {l : List Int} (h : keptE s x (s + x) = 10) : sumR s (x :: l) = (0, 10) := by simp [sumR, h]

theorem drop_cons {α : Type} {l : List α} {k : Nat} (h : k < l.length) : l.drop k = l[k] :: l.drop (k + 1) := List.drop_eq_getElem_cons h

/-- Where a sum's loop stands behind k numbers. -/
def SumAt (l : List Int) (k : Nat) (s : Int) : Prop := k ≤ l.length ∧ sumR 0 l = sumR s (l.drop k)
theorem SumAt.start (l : List Int) : SumAt l 0 0 := ⟨Nat.zero_le _, rfl⟩
theorem SumAt.go {l : List Int} {k : Nat} {s : Int} (h : SumAt l k s) (hk : k < l.length) (he : keptE s l[k] (s + l[k]) = 0) : SumAt l (k + 1) (s + l[k]) :=
  ⟨hk, by rw [h.2, drop_cons hk, sumR_go he]⟩
theorem SumAt.stop {l : List Int} {k : Nat} {s : Int} (h : SumAt l k s) (hk : k < l.length) (he : keptE s l[k] (s + l[k]) = 10) : sumR 0 l = (0, 10) := by
  rw [h.2, drop_cons hk, sumR_stop he]
theorem SumAt.done {l : List Int} {k : Nat} {s : Int} (h : SumAt l k s) (hk : ¬ k < l.length) : sumR 0 l = (s, 0) := by
  rw [h.2, List.drop_eq_nil_of_le (by omega)]; rfl

theorem ret_sum {l : List Int} {v x : Int} (h : sumR 0 l = (v, x)) : Ending.returned (.tuple #[.int .i64 v, .int .i64 x]) = .returned (.tuple #[.int .i64 (sumR 0 l).1, .int .i64 (sumR 0 l).2]) := by rw [h]

theorem sum_any (A : Option Addr) (l : List Int) (c : Nat) (w : World) (hs : Seen w.heap.size w A (l.map (.int .i64))) (hm : l.length ≤ 9223372036854775807) :
    Calls Try.prog 17 #[.slice A l.length c] w (Ret w (.tuple #[.int .i64 (sumR 0 l).1, .int .i64 (sumR 0 l).2])) := by
  go_enter Try.func17, Try.ntmps17
  go_wp2_with fail
  go_loopw [4, 11] (fun s i wr => ∃ (k : Nat) (n : Int), SumAt l k n ∧ i = .int .i64 k ∧ s = .int .i64 n ∧ Ext w wr) (fun _ i _ => l.length - (intOf i).toNat)
  case atStart => exact ⟨0, 0, SumAt.start l, rfl, rfl, Ext.refl _⟩
  case round =>
    obtain ⟨k, n, hat, rfl, rfl, hx⟩ := hrel
    have hk := hat.1
    by_cases hlt : k < l.length
    · obtain ⟨ad, rfl, hb, hc⟩ := hs.get (k := k) (by simpa using hlt)
      have hc1 : wr.cell? (ad.add k) = some (.int .i64 l[k]) := by
        rw [Below.cell hx (by rw [addr_block]; exact hb), hc]; simp
      clear hc hb
      rcases kept_err n l[k] (n + l[k]) with he | he
      · have hv := (kept_zero he).2.2.2
        have H1 := Lib.hid hat
        have H2 := Lib.hid he
        clear hat
        go_wp2_with (first | (go_at_call 9; refine (add_any _ _ _).mono ?_; rintro e w1 ⟨rfl, hx1⟩))
        go_roundw
        case rel => exact ⟨k + 1, _, H1.out.go hlt H2.out, by go_num, rfl, hx.trans hx1⟩
        case measure => simp [intOf]; omega
      · have H1 := Lib.hid hat
        have H2 := Lib.hid he
        clear hat
        go_wp2_with (first | (go_at_call 9; refine (add_any _ _ _).mono ?_; rintro e w1 ⟨rfl, hx1⟩))
        go_ret2
        exact ⟨ret_sum (H1.out.stop hlt H2.out), hx.trans hx1⟩
    · have H1 := Lib.hid hat
      clear hat
      go_wp2_with fail
      go_ret2
      exact ⟨ret_sum (H1.out.done hlt), hx⟩

theorem rsum_any (A : Option Addr) (l : List Int) (c : Nat) (w : World) (hs : Seen w.heap.size w A (l.map (.int .i64))) (hm : l.length ≤ 9223372036854775807) :
    Calls Try.prog 18 #[.slice A l.length c] w (Ret w (.tuple #[.int .i64 (sumR 0 l).1, .int .i64 (sumR 0 l).2])) := by
  go_enter Try.func18, Try.ntmps18
  go_wp2_with fail
  go_loopw [4, 5] (fun s i wr => ∃ (k : Nat) (n : Int), SumAt l k n ∧ i = .int .i64 k ∧ s = .int .i64 n ∧ Ext w wr) (fun _ i _ => l.length - (intOf i).toNat)
  case atStart => exact ⟨0, 0, SumAt.start l, rfl, rfl, Ext.refl _⟩
  case round =>
    obtain ⟨k, n, hat, rfl, rfl, hx⟩ := hrel
    have hk := hat.1
    by_cases hlt : k < l.length
    · obtain ⟨ad, rfl, hb, hc⟩ := hs.get (k := k) (by simpa using hlt)
      have hc1 : wr.cell? (ad.add k) = some (.int .i64 l[k]) := by
        rw [Below.cell hx (by rw [addr_block]; exact hb), hc]; simp
      clear hc hb
      rcases kept_err n l[k] (n + l[k]) with he | he
      · have hv := (kept_zero he).2.2.2
        have H1 := Lib.hid hat
        have H2 := Lib.hid he
        clear hat
        go_wp2_with (first | (go_at_call 10; refine (radd_any _ _ _).mono ?_; rintro e w1 ⟨rfl, hx1⟩))
        go_roundw
        case rel => exact ⟨k + 1, _, H1.out.go hlt H2.out, by go_num, rfl, hx.trans hx1⟩
        case measure => simp [intOf]; omega
      · have H1 := Lib.hid hat
        have H2 := Lib.hid he
        clear hat
        go_wp2_with (first | (go_at_call 10; refine (radd_any _ _ _).mono ?_; rintro e w1 ⟨rfl, hx1⟩))
        go_ret2
        exact ⟨ret_sum (H1.out.stop hlt H2.out), hx.trans hx1⟩
    · have H1 := Lib.hid hat
      clear hat
      go_wp2_with fail
      go_ret2
      exact ⟨ret_sum (H1.out.done hlt), hx⟩

/-- Sums and products at numbers. -/
theorem two_at {f : FuncId} {a b n v x : Int} {w : World} (h : Calls Try.prog f #[.int .i64 a, .int .i64 b] w (Ret w (.tuple #[.int .i64 (keptV a b n), .int .i64 (keptE a b n)]))) (hv : keptV a b n = v) (hx : keptE a b n = x) :
    Calls Try.prog f #[.int .i64 a, .int .i64 b] w (Ret w (.tuple #[.int .i64 v, .int .i64 x])) := by rw [hv, hx] at h; exact h

theorem sum123 (w : World) (hs : Seen w.heap.size w A ([1, 2, 3].map (.int .i64))) : Calls Try.prog 17 #[.slice A 3 3] w (Ret w (.tuple #[.int .i64 6, .int .i64 0])) := by
  have h := sum_any A [1, 2, 3] 3 w hs (by decide)
  have e : sumR 0 [1, 2, 3] = (6, 0) := by decide
  rw [e] at h
  exact h

theorem awake_any (w : World) : Calls Try.prog 8 #[] w (Ret w (.bool true)) := by
  go_enter Try.func8, Try.ntmps8
  go_wp2_with fail
  refine (two_at (v := 7) (x := 0) (add_any 3 4 _) (by decide) (by decide)).mono ?_; rintro e w1 ⟨rfl, x1⟩
  go_wp2_with fail
  refine (two_at (v := -1) (x := 0) (sub_any 3 4 _) (by decide) (by decide)).mono ?_; rintro e w2 ⟨rfl, x2⟩
  go_wp2_with fail
  refine (two_at (v := 12) (x := 0) (times_any 3 4 _) (by decide) (by decide)).mono ?_; rintro e w3 ⟨rfl, x3⟩
  go_wp2_with fail
  refine (sum123 _ (seen_new w3 _ 3)).mono ?_; rintro e w4 ⟨rfl, x4⟩
  go_wp2_with fail
  refine (two_at (v := 0) (x := 10) (add_any 1073741823 1 _) (by decide) (by decide)).mono ?_; rintro e w5 ⟨rfl, x5⟩
  go_wp2_with fail
  refine (two_at (v := 0) (x := 10) (times_any 1073741823 2 _) (by decide) (by decide)).mono ?_; rintro e w6 ⟨rfl, x6⟩
  have c1 : isDim (-1073741823) = true := by decide
  have c2 : isDim 1073741824 = false := by decide
  go_wp2_with (first | (go_at_call 15; refine (check_any _ _).mono ?_; rintro e w' ⟨rfl, rfl⟩))
  go_ret
  exact ⟨rfl, (((((x1.trans x2).trans x3).alloc _).trans x4).trans x5).trans x6⟩

end Go.Proofs.Ytljlafihifpnkaa

