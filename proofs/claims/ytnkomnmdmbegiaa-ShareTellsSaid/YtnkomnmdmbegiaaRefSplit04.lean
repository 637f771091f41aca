/- The contracts of the document's Split. -/
import Derived.Test.YtnkomnmdmbegiaaAwake04
namespace Go.Proofs.Ytnkomnmdmbegiaa
open Go.RowKit Go.Sort Go.Lib Go.Shelf
namespace L04

theorem rsplit_no (t : Int) (A : Option Addr) (n c : Nat) (f : Nat → Int) (w : World) (hs : SeenF w A n f) (hm : n ≤ 9223372036854775807) (h : ¬ MayP t n f) :
    Calls Try.prog 10 #[.int .i64 t, .slice A n c] w (Ret w (.tuple #[.slice none 0 0, .int .i64 1])) := by
  have hc := rmay_any t A n c f w hs hm
  rw [decide_eq_false h] at hc
  go_enter Try.func10, Try.ntmps10
  go_wp2_with (first | (go_at_call 20; refine hc.mono ?_; rintro e w' ⟨rfl, rfl⟩))
  go_ret2
  exact ⟨rfl, Ext.refl _⟩

theorem rsplit_zero (A : Option Addr) (n c : Nat) (f : Nat → Int) (w : World) (hs : SeenF w A n f) (h : MayP 0 n f) :
    Calls Try.prog 10 #[.int .i64 0, .slice A n c] w (Own w n (partF 0 n f)) := by
  have hn := h.1.2.2
  have hc := rmay_any 0 A n c f w hs (by omega)
  rw [decide_eq_true h] at hc
  obtain ⟨cs, hmk, hrow⟩ := make_ints Try.prog 22 3 n Try.underlying22 int_zero (by omega)
  have hcs := rsum_any A n c f (w.alloc (.cells cs 3)) (hs.ext ((Ext.refl _).alloc _)) h.2.1 (by omega)
  go_enter Try.func10, Try.ntmps10
  go_wp2_with (first | (go_at_call 20; refine hc.mono ?_; rintro e w' ⟨rfl, rfl⟩) | (go_at_call 21; refine hcs.mono ?_; rintro e w' ⟨rfl, rfl⟩))
  go_ret2
  exact ⟨(Ext.refl _).alloc _, _, Nat.le_refl _, by simp, rfl, (hrow _).congr fun j _ => by simp [partF]⟩

theorem prod_small {t v : Int} (h1 : 0 ≤ t) (h2 : t ≤ 1073741823) (h3 : 0 ≤ v) (h4 : v ≤ 1073741823) : 0 ≤ t * v ∧ t * v ≤ 1152921502459363329 := by
  have a := Int.mul_nonneg h1 h3
  have b : t * v ≤ 1073741823 * v := Int.mul_le_mul_of_nonneg_right h2 h3
  omega

set_option maxHeartbeats 8000000 in
set_option maxRecDepth 100000 in
theorem rsplit_some (t : Int) (A : Option Addr) (n c : Nat) (f : Nat → Int) (w : World) (hs : SeenF w A n f) (h : MayP t n f) (h0 : t ≠ 0) :
    Calls Try.prog 10 #[.int .i64 t, .slice A n c] w (Own w n (partF t n f)) := by
  have hn := h.1.2.2
  have hp := h.2.2.resolve_left h0
  have hc := rmay_any t A n c f w hs (by omega)
  rw [decide_eq_true h] at hc
  obtain ⟨cs, hmk, hrow⟩ := make_ints Try.prog 22 3 n Try.underlying22 int_zero (by omega)
  have hcs := rsum_any A n c f (w.alloc (.cells cs 3)) (hs.ext ((Ext.refl _).alloc _)) h.2.1 (by omega)
  have h0b : (t == 0) = false := by simpa using h0
  have hS := sum_small (f := f) (k := n) h.2.1 (Nat.le_refl _) (by omega)
  have PR : Hid (∀ i, i < n → 0 ≤ t * f i ∧ t * f i ≤ 1152921502459363329) := fun i hi => prod_small h.1.1 h.1.2.1 (h.2.1 i hi).1 (h.2.1 i hi).2
  have FB : Hid (∀ i, i < n → 0 ≤ floorF t n f i ∧ floorF t n f i ≤ t) := fun i hi => floor_bounds h hp i hi
  have TQ : Hid (∀ i, i < n → Int.tdiv (t * f i) (sumF f n) = floorF t n f i) := fun i hi => Int.tdiv_eq_ediv_of_nonneg (PR.out i hi).1
  have TR : Hid (∀ i, i < n → Int.tmod (t * f i) (sumF f n) = restF t n f i) := fun i hi => Int.tmod_eq_emod_of_nonneg (PR.out i hi).1
  have RB : Hid (∀ i, 0 ≤ restF t n f i ∧ restF t n f i < sumF f n) := fun i => rest_bounds hp i
  have SB : Hid (∀ k, k ≤ n → 0 ≤ sumF (floorF t n f) k ∧ sumF (floorF t n f) k ≤ 332859965440) := fun k hk =>
    sum_small (f := floorF t n f) (n := n) (fun j hj => ⟨(FB.out j hj).1, by have := (FB.out j hj).2; have := h.1.2.1; omega⟩) hk (by omega)
  have HT : Hid (0 ≤ t ∧ t ≤ 1073741823) := ⟨h.1.1, h.1.2.1⟩
  have HR := Lib.hid hrow
  have HS := Lib.hid hs
  have H0 := Lib.hid h0
  have HP := Lib.hid hp
  clear h hs hrow h0
  go_enter Try.func10, Try.ntmps10
  go_wp2_with (first | (go_at_call 20; refine hc.mono ?_; rintro e w' ⟨rfl, rfl⟩) | (go_at_call 21; refine hcs.mono ?_; rintro e w' ⟨rfl, rfl⟩))
  have X2 : Hid (Ext w (w.alloc (.cells cs 3))) := (Ext.refl _).alloc _
  have R2 : Hid (RowF (w.alloc (.cells cs 3)) w.heap.size n (fun _ => 0)) := HR.out w
  have L2 : Hid (w.heap.size < (w.alloc (.cells cs 3)).heap.size) := by show _ < _; simp
  generalize w.alloc (.cells cs 3) = w2 at *
  clear hmk HR hc hcs
  generalize gS : sumF f n = S at *
  have GS := Lib.hid gS
  have S0 : ¬ S = 0 := by omega
  clear gS hp
  go_loopw [9, 10] (fun s i wr => ∃ (k : Nat) (z : Int), k ≤ n ∧ i = .int .i64 k ∧ s = .int .i64 z ∧ Hid (z = t - sumF (floorF t n f) k) ∧ w2 = wr) (fun _ i _ => n - (intOf i).toNat)
  case atStart => exact ⟨0, t, by omega, rfl, rfl, by show t = t - 0; omega, rfl⟩
  case round =>
    obtain ⟨k, z, hk, rfl, rfl, hz, rfl⟩ := hrel
    by_cases hlt : k < n
    · obtain ⟨ad, rfl, hc⟩ := (HS.out.ext X2.out).get hlt
      have p1 := PR.out k hlt
      have q1 := TQ.out k hlt
      have q2 := FB.out k hlt
      have q3 := SB.out k hk
      have ht := HT.out
      have hz2 : z - floorF t n f k = t - sumF (floorF t n f) (k + 1) := by rw [hz.out, sumF]; omega
      have hz3 : t - 332859965440 ≤ z ∧ z ≤ t := by rw [hz.out]; omega
      have Z2 := Lib.hid hz2
      clear hz2 hz q3
      generalize floorF t n f k = q at *
      generalize f k = v at *
      generalize gp : t * v = p at *
      go_wp2_with fail
      go_roundw
      case rel => exact ⟨k + 1, z - q, by omega, by go_num, rfl, Z2.out, by first | rfl | trivial⟩
      case measure => simp [intOf]; omega
    · obtain rfl : k = n := by omega
      have hl0 := left_nonneg (t := t) (f := f) (n := k) (by rw [GS.out]; exact HP.out)
      have hln := left_le_n (t := t) (f := f) (n := k) (by rw [GS.out]; exact HP.out)
      have hzl : z = leftF t k f := hz.out
      rw [← hzl] at hl0 hln
      have HZ := Lib.hid hzl
      clear hzl hz
      go_wp2_with fail
      go_loopw [11] (fun i wr => ∃ (m : Nat), m ≤ k ∧ i = .int .i64 m ∧ Hid (Ext w wr) ∧ Hid (w.heap.size < wr.heap.size) ∧ Hid (RowF wr w.heap.size k (fun j => if j < m then partF t k f j else 0))) (fun i _ => k - (intOf i).toNat)
      case atStart => exact ⟨0, by omega, rfl, X2, L2, by simpa [Hid] using R2⟩
      case round =>
        clear X2 R2 L2
        obtain ⟨m, hm, rfl, X2, L2, R2⟩ := hrel
        by_cases hlt2 : m < k
        · obtain ⟨ad, rfl, hc⟩ := (HS.out.ext X2.out).get hlt2
          have p1 := PR.out m hlt2
          have q1 := TQ.out m hlt2
          have r1 := TR.out m hlt2
          have q2 := FB.out m hlt2
          have r2 := RB.out m
          have ht := HT.out
          have PA : Hid (partF t k f m = floorF t k f m + if (rankF (restF t k f) k m : Int) < leftF t k f then 1 else 0) := by show _ = _; unfold partF; rw [if_neg H0.out]
          have RK : Hid (rankF (restF t k f) k m = cntF (fun x => decide (restF t k f m < restF t k f x ∨ (restF t k f x = restF t k f m ∧ x < m))) k) := rfl
          generalize gq : floorF t k f m = q at *
          generalize gr : restF t k f m = r at *
          generalize gv : f m = v at *
          generalize gp : t * v = p at *
          have GQ := Lib.hid gq
          have GR := Lib.hid gr
          have GV := Lib.hid gv
          have GP := Lib.hid gp
          clear gq gr gv
          go_wp2_with fail
          have HC : Hid _ := hc
          clear hc
          go_loopw [12, 14] (fun s i w3 => ∃ (x : Nat), x ≤ k ∧ i = .int .i64 x ∧ s = .int .i64 (cntF (fun x => decide (r < restF t k f x ∨ (restF t k f x = r ∧ x < m))) x : Nat) ∧ wr = w3) (fun _ i _ => k - (intOf i).toNat)
          case atStart => exact ⟨0, by omega, rfl, rfl, rfl⟩
          case round =>
            obtain ⟨x, hx, rfl, rfl, rfl⟩ := hrel
            have hcl := cntF_le (fun x => decide (r < restF t k f x ∨ (restF t k f x = r ∧ x < m))) x
            by_cases hlt3 : x < k
            · obtain ⟨ad2, he, hcx⟩ := (HS.out.ext X2.out).get hlt3
              obtain rfl : ad = ad2 := by simpa using he
              have p1x := PR.out x hlt3
              have r1x := TR.out x hlt3
              have r2x := RB.out x
              have hstep : cntF (fun x => decide (r < restF t k f x ∨ (restF t k f x = r ∧ x < m))) (x + 1) = cntF (fun x => decide (r < restF t k f x ∨ (restF t k f x = r ∧ x < m))) x + if decide (r < restF t k f x ∨ (restF t k f x = r ∧ x < m)) = true then 1 else 0 := rfl
              have HST := Lib.hid hstep
              clear he hstep gp p1 q1 r1
              generalize cntF (fun x => decide (r < restF t k f x ∨ (restF t k f x = r ∧ x < m))) x = y at *
              generalize restF t k f x = rx at *
              generalize f x = vx at *
              generalize gpx : t * vx = px at *
              rcases Int.lt_trichotomy rx r with hr | hr | hr
              · have d1 : decide (r < rx) = false := decide_eq_false (by omega)
                have d2 : (rx == r) = false := by rw [beq_eq_false_iff_ne]; omega
                have HE : Hid (cntF (fun x => decide (r < restF t k f x ∨ (restF t k f x = r ∧ x < m))) (x + 1) = y) := by show _ = _; rw [HST.out, decide_eq_false (by omega)]; rfl
                clear HST
                go_wp2_with fail
                go_roundw
                case rel => exact ⟨x + 1, by omega, by go_num, by rw [HE.out], by first | rfl | trivial⟩
                case measure => simp [intOf]; omega
              · subst hr
                by_cases hxm : x < m
                · have hxz : (x : Int) < (m : Int) := by omega
                  have HE : Hid (cntF (fun x => decide (rx < restF t k f x ∨ (restF t k f x = rx ∧ x < m))) (x + 1) = y + 1) := by show _ = _; rw [HST.out, decide_eq_true (.inr ⟨rfl, hxm⟩)]; rfl
                  clear HST
                  go_wp2_with fail
                  go_roundw
                  case rel => exact ⟨x + 1, by omega, by go_num, by rw [HE.out]; go_num, by first | rfl | trivial⟩
                  case measure => simp [intOf]; omega
                · have hxz : ¬ (x : Int) < (m : Int) := by omega
                  have HE : Hid (cntF (fun x => decide (rx < restF t k f x ∨ (restF t k f x = rx ∧ x < m))) (x + 1) = y) := by show _ = _; rw [HST.out, decide_eq_false (by omega)]; rfl
                  clear HST
                  go_wp2_with fail
                  go_roundw
                  case rel => exact ⟨x + 1, by omega, by go_num, by rw [HE.out], by first | rfl | trivial⟩
                  case measure => simp [intOf]; omega
              · have d1 : decide (r < rx) = true := decide_eq_true (by omega)
                have HE : Hid (cntF (fun x => decide (r < restF t k f x ∨ (restF t k f x = r ∧ x < m))) (x + 1) = y + 1) := by show _ = _; rw [HST.out, decide_eq_true (.inl hr)]; rfl
                clear HST
                go_wp2_with fail
                go_roundw
                case rel => exact ⟨x + 1, by omega, by go_num, by rw [HE.out]; go_num, by first | rfl | trivial⟩
                case measure => simp [intOf]; omega
            · obtain rfl : x = k := by omega
              rw [← RK.out] at hcl ⊢
              have hcv := HC.out
              obtain ⟨c0, f0⟩ := R2.out m hlt2
              have hLb : leftF t x f = z := HZ.out.symm
              rw [hLb] at PA
              have HLB := Lib.hid hLb
              clear hLb
              generalize rankF (restF t x f) x m = y at *
              by_cases hy : (y : Int) < z
              · have hPA : partF t x f m = q + 1 := by rw [PA.out, if_pos hy]
                have R4 : Hid (RowF ((wr.setCell ⟨w.heap.size, m, none⟩ (.int .i64 q)).setCell ⟨w.heap.size, m, none⟩ (.int .i64 (q + 1))) w.heap.size x (fun j => if j < m + 1 then partF t x f j else 0)) := ((R2.out.set m q).set m (q + 1)).congr fun j hj => by
                  by_cases e : j = m
                  · subst e; rw [if_pos rfl, if_pos (by omega), hPA]
                  · rw [if_neg e, if_neg e]
                    by_cases e2 : j < m
                    · rw [if_pos e2, if_pos (by omega)]
                    · rw [if_neg e2, if_neg (by omega)]
                have X4 : Hid (Ext w ((wr.setCell ⟨w.heap.size, m, none⟩ (.int .i64 q)).setCell ⟨w.heap.size, m, none⟩ (.int .i64 (q + 1)))) := (X2.out.setCell (Nat.le_refl _) _).setCell (Nat.le_refl _) _
                have L4 : Hid (w.heap.size < ((wr.setCell ⟨w.heap.size, m, none⟩ (.int .i64 q)).setCell ⟨w.heap.size, m, none⟩ (.int .i64 (q + 1))).heap.size) := by show _ < _; simpa using L2.out
                obtain ⟨c1, f1⟩ := R2.out.set m q m hlt2
                simp only [if_true] at c1
                clear hPA PA R2 X2 L2 RK
                go_wp2_with fail
                go_roundw
                case rel => exact ⟨m + 1, by omega, by go_num, X4, L4, R4⟩
                case measure => simp [intOf]; omega
              · have hPA : partF t x f m = q := by rw [PA.out, if_neg hy, Int.add_zero]
                have R4 : Hid (RowF (wr.setCell ⟨w.heap.size, m, none⟩ (.int .i64 q)) w.heap.size x (fun j => if j < m + 1 then partF t x f j else 0)) := (R2.out.set m q).congr fun j hj => by
                  by_cases e : j = m
                  · subst e; rw [if_pos rfl, if_pos (by omega), hPA]
                  · rw [if_neg e]
                    by_cases e2 : j < m
                    · rw [if_pos e2, if_pos (by omega)]
                    · rw [if_neg e2, if_neg (by omega)]
                have X4 : Hid (Ext w (wr.setCell ⟨w.heap.size, m, none⟩ (.int .i64 q))) := X2.out.setCell (Nat.le_refl _) _
                have L4 : Hid (w.heap.size < (wr.setCell ⟨w.heap.size, m, none⟩ (.int .i64 q)).heap.size) := by show _ < _; simpa using L2.out
                clear hPA PA R2 X2 L2 RK
                go_wp2_with fail
                go_roundw
                case rel => exact ⟨m + 1, by omega, by go_num, X4, L4, R4⟩
                case measure => simp [intOf]; omega
        · obtain rfl : m = k := by omega
          go_wp2_with fail
          go_ret2
          exact ⟨X2.out, w.heap.size, Nat.le_refl _, L2.out, rfl, R2.out.congr fun j hj => by rw [if_pos hj]⟩
end L04
end Go.Proofs.Ytnkomnmdmbegiaa

