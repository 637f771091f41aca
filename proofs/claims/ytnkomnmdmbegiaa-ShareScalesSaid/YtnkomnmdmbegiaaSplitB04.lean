/- The contract of layer 4's Split where the total is above 0. -/
import Derived.Test.YtnkomnmdmbegiaaSplit04
namespace Go.Proofs.Ytnkomnmdmbegiaa
open Go.RowKit Go.Sort Go.Lib Go.Shelf
namespace L04

theorem pairs_eq (r : Nat → Int) (n : Nat) : (Array.range n).map (fun j => (r j, (j : Int))) = pairs r n := rfl

set_option maxHeartbeats 4000000 in
theorem split_some (t : Int) (A : Option Addr) (n c : Nat) (f : Nat → Int) (w : World) (hs : SeenF w A n f) (h : MayP t n f) (h0 : t ≠ 0) :
    Calls Try.prog 9 #[.int .i64 t, .slice A n c] w (Own w n (partF t n f)) := by
  have hn := h.1.2.2
  have ht := h.1
  have hp := h.2.2.resolve_left h0
  have hc := mayBe_any t A n c f w hs (by omega)
  rw [decide_eq_true h] at hc
  obtain ⟨cs, hmk, hrow⟩ := make_ints Try.prog 22 3 n Try.underlying22 int_zero (by omega)
  obtain ⟨ds, hmk2, hrow2⟩ := make_pairs Try.prog 33 38 n Try.underlying33 rest_zero (by omega)
  have h0b : (t == 0) = false := by simpa using h0
  have HM := Lib.hid h
  have HR := Lib.hid hrow
  have HR2 := Lib.hid hrow2
  have HS := Lib.hid hs
  have HP := Lib.hid hp
  have H0 := Lib.hid h0
  have FB : Hid (∀ i, i < n → 0 ≤ floorF t n f i ∧ floorF t n f i ≤ t) := fun i hi => floor_bounds h hp i hi
  have hcs := sum_any A n c f ((w.alloc (.cells cs 3)).alloc (.cells ds 38)) (hs.ext (((Ext.refl _).alloc _).alloc _)) h.2.1 (by omega)
  clear h hrow hrow2 hs hp h0 ht
  go_enter Try.func9, Try.ntmps9
  go_wp2_with (first | (go_at_call 14; refine hc.mono ?_; rintro e w' ⟨rfl, rfl⟩) | (go_at_call 15; refine hcs.mono ?_; rintro e w' ⟨rfl, rfl⟩))
  have X2 : Hid (Ext w ((w.alloc (.cells cs 3)).alloc (.cells ds 38))) := ((Ext.refl _).alloc _).alloc _
  have R2 : Hid (RowF ((w.alloc (.cells cs 3)).alloc (.cells ds 38)) w.heap.size n (fun _ => 0)) := (HR.out w).ext ((Ext.refl _).alloc _)
  have P2 : Hid (RowP ((w.alloc (.cells cs 3)).alloc (.cells ds 38)) (w.heap.size + 1) n (fun _ => (0, 0))) := by
    have := HR2.out (w.alloc (.cells cs 3))
    rwa [show (w.alloc (.cells cs 3)).heap.size = w.heap.size + 1 by simp] at this
  generalize (w.alloc (.cells cs 3)).alloc (.cells ds 38) = w2 at *
  clear hmk hmk2 HR HR2 hc hcs
  go_loopw [31] (fun i wr => ∃ (k : Nat), k ≤ n ∧ i = .int .i64 k ∧ Hid (Ext w wr) ∧ Hid (RowF wr w.heap.size n (fun j => if j < k then floorF t n f j else 0)) ∧
    Hid (RowP wr (w.heap.size + 1) n (fun j => if j < k then (restF t n f j, (j : Int)) else (0, 0)))) (fun i _ => n - (intOf i).toNat)
  case atStart => exact ⟨0, by omega, rfl, X2, by simpa [Hid] using R2, by simpa [Hid] using P2⟩
  case round =>
    clear X2 R2 P2
    obtain ⟨k, hk, rfl, X2, R2, P2⟩ := hrel
    by_cases hlt : k < n
    · obtain ⟨ad, rfl, hc⟩ := (HS.out.ext X2.out).get hlt
      have hm := may_muldiv HM.out H0.out hlt
      have cF := floor_fit HM.out H0.out hlt
      have CF := Lib.hid (fun w => L02.floor_ok (q := floorF t n f k) hm rfl cF w)
      have CR := Lib.hid (fun w => L02.rest_ok (r := restF t n f k) hm rfl w)
      clear hm cF
      generalize gF : floorF t n f k = q at *
      generalize gR : restF t n f k = r at *
      have GF := Lib.hid gF
      have GR := Lib.hid gR
      clear gF gR
      go_wp2_with fail
      refine (CF.out _).mono ?_; rintro e w3 ⟨rfl, x3⟩
      have R3 := R2.out.ext x3
      have P3 := P2.out.ext x3
      obtain ⟨c3, f3⟩ := R3 k hlt
      have R4 : Hid (RowF (w3.setCell ⟨w.heap.size, k, none⟩ (.int .i64 q)) w.heap.size n (fun j => if j < k + 1 then floorF t n f j else 0)) := (R3.set k q).congr fun j hj => by
        by_cases e : j = k
        · subst e; rw [if_pos rfl, if_pos (by omega), GF.out]
        · rw [if_neg e]
          by_cases e2 : j < k
          · rw [if_pos e2, if_pos (by omega)]
          · rw [if_neg e2, if_neg (by omega)]
      have P4 : Hid (RowP (w3.setCell ⟨w.heap.size, k, none⟩ (.int .i64 q)) (w.heap.size + 1) n (fun j => if j < k then (restF t n f j, (j : Int)) else (0, 0))) := P3.other (by show w.heap.size ≠ w.heap.size + 1; omega) _
      have X4 : Hid (Ext w (w3.setCell ⟨w.heap.size, k, none⟩ (.int .i64 q))) := (X2.out.trans x3).setCell (Nat.le_refl _) _
      clear x3 R3 P3 R2 P2 X2
      go_wp2_with fail
      generalize w3.setCell ⟨w.heap.size, k, none⟩ (.int .i64 q) = w4 at *
      refine (CR.out _).mono ?_; rintro e w5 ⟨rfl, x5⟩
      have P5 := P4.out.ext x5
      obtain ⟨⟨c5, d5⟩, f5, g5⟩ := P5 k hlt
      have P6 : Hid (RowP ((w5.setCell ⟨w.heap.size + 1, k * 2, none⟩ (.int .i64 r)).setCell ⟨w.heap.size + 1, k * 2 + 1, none⟩ (.int .i64 k)) (w.heap.size + 1) n (fun j => if j < k + 1 then (restF t n f j, (j : Int)) else (0, 0))) := (P5.set k r k).congr fun j hj => by
        by_cases e : j = k
        · subst e; rw [if_pos rfl, if_pos (by omega), GR.out]
        · rw [if_neg e]
          by_cases e2 : j < k
          · rw [if_pos e2, if_pos (by omega)]
          · rw [if_neg e2, if_neg (by omega)]
      have R6 : Hid (RowF ((w5.setCell ⟨w.heap.size + 1, k * 2, none⟩ (.int .i64 r)).setCell ⟨w.heap.size + 1, k * 2 + 1, none⟩ (.int .i64 k)) w.heap.size n (fun j => if j < k + 1 then floorF t n f j else 0)) :=
        ((R4.out.ext x5).other (by show w.heap.size + 1 ≠ w.heap.size; omega) _).other (by show w.heap.size + 1 ≠ w.heap.size; omega) _
      have X6 : Hid (Ext w ((w5.setCell ⟨w.heap.size + 1, k * 2, none⟩ (.int .i64 r)).setCell ⟨w.heap.size + 1, k * 2 + 1, none⟩ (.int .i64 k))) :=
        ((X4.out.trans x5).setCell (by show w.heap.size ≤ w.heap.size + 1; omega) _).setCell (by show w.heap.size ≤ w.heap.size + 1; omega) _
      clear x5 P5 P4 R4 X4
      go_wp2_with fail
      go_roundw
      case rel => exact ⟨k + 1, by omega, by go_num, X6, R6, P6⟩
      case measure => simp [intOf]; omega
    · obtain rfl : k = n := by omega
      have hk0 : 0 < k := by
        rcases Nat.eq_zero_or_pos k with e | e
        · exfalso; subst e; have := HP.out; simp [sumF] at this
        · exact e
      have P3 : RowP wr (w.heap.size + 1) k (fun j => (restF t k f j, (j : Int))) := P2.out.congr fun j hj => by rw [if_pos hj]
      have R3 : RowF wr w.heap.size k (floorF t k f) := R2.out.congr fun j hj => by rw [if_pos hj]
      have hH := RowP.holds P3
      rw [pairs_eq] at hH
      have hB1 : w.heap.size + 1 < wr.heap.size := block_lt_of_cell (P3 0 hk0).1.1
      have eg : ∀ args w, (callFunc 19 args).run Try.prog w = .ok (.enter 19 args) w := enters_of Try.func19 (by kernel_rfl) rfl
      have hsort := sortStable_any 2 stable_here enc enc_len enc_one cf lx ah lx_swo cf_lx 19 #[] (w.heap.size + 1) 0 k (pairs (restF t k f) k) wr eg (against_lays _ _ _ _) hH hB1 (by simp; omega)
        (fun i j hij hj => by rw [size_pairs] at hj; rw [get_pairs _ _ _ (by omega), get_pairs _ _ _ hj]; show (i : Int) < (j : Int); omega)
      rw [size_pairs] at hsort
      have R3H := Lib.hid R3
      have HH := Lib.hid hH
      clear P3 R3 hH P2 R2 eg
      have HB1 := Lib.hid hB1
      clear hB1
      go_wp2_with fail
      refine hsort.mono ?_; rintro e w3 ⟨rfl, d', hperm, hsorted, hswk⟩
      obtain ⟨hsz, hr⟩ := sorted_rank hperm hsorted
      have HRK := Lib.hid hr
      have X3 : Hid (Ext w w3) := swk_ext hswk X2.out (by omega)
      have R3 : Hid (RowF w3 w.heap.size k (floorF t k f)) := swk_rowF hswk (by omega) R3H.out
      have P3 : Hid (RowP w3 (w.heap.size + 1) k (fun j => d'[j]!)) := holds_rowP (hswk.holds HB1.out HH.out (by rw [size_pairs]; exact hsz)) hsz
      have hcs := sum_any (some ⟨w.heap.size, 0, none⟩) k k (floorF t k f) w3 R3.out.seen (fun j hj => ⟨(FB.out j hj).1, by have := (FB.out j hj).2; have := HM.out.1.2.1; omega⟩) (by omega)
      have hl0 := left_nonneg (t := t) HP.out
      have hln := left_le_n (t := t) HP.out
      obtain ⟨L, eL⟩ : ∃ L : Nat, leftF t k f = (L : Int) := ⟨(leftF t k f).toNat, by omega⟩
      have hLk : L ≤ k := by omega
      have EL := Lib.hid eL
      have eL2 : t - sumF (floorF t k f) k = (L : Int) := eL
      have FB2 := Lib.hid (sum_small (f := floorF t k f) (k := k) (fun j hj => ⟨(FB.out j hj).1, by have := (FB.out j hj).2; have := HM.out.1.2.1; omega⟩) (Nat.le_refl _) (by omega))
      generalize sumF (floorF t k f) k = s at *
      clear hsort hperm hsorted hswk hr hl0 hln eL R3H HH X2
      go_wp2_with (first | (go_at_call 15; refine hcs.mono ?_; rintro e w' ⟨rfl, rfl⟩))
      go_loopw [66] (fun i wr => ∃ (q : Nat), q ≤ L ∧ i = .int .i64 q ∧ Hid (Ext w wr) ∧ Hid (RowF wr w.heap.size k (fun j => floorF t k f j + if rankF (restF t k f) k j < q then 1 else 0)) ∧
        Hid (RowP wr (w.heap.size + 1) k (fun j => d'[j]!))) (fun i _ => L - (intOf i).toNat)
      case atStart => exact ⟨0, by omega, rfl, X3, by simpa [Hid] using R3, P3⟩
      case round =>
        clear X3 R3 P3 hcs
        obtain ⟨q, hq, rfl, X3, R3, P3⟩ := hrel
        by_cases hlt2 : q < L
        · obtain ⟨i0, hi0, he, hrk⟩ := HRK.out q (by omega)
          obtain ⟨⟨_, c1⟩, _, _⟩ := P3.out q (by omega)
          simp only [he] at c1
          obtain ⟨c2, f2⟩ := R3.out i0 hi0
          simp only [hrk] at c2
          rw [if_neg (by omega), Int.add_zero] at c2
          have hfb := FB.out i0 hi0
          have htb := HM.out.1.2.1
          have R4 : Hid (RowF (wr.setCell ⟨w.heap.size, i0, none⟩ (.int .i64 (floorF t k f i0 + 1))) w.heap.size k (fun j => floorF t k f j + if rankF (restF t k f) k j < q + 1 then 1 else 0)) := (R3.out.set i0 _).congr fun j hj => by
            by_cases e : j = i0
            · subst e; rw [if_pos rfl, hrk, if_pos (by omega)]
            · rw [if_neg e]
              have : rankF (restF t k f) k j ≠ q := fun hc => e (rank_inj hj hi0 (by rw [hc, hrk]))
              congr 1
              by_cases e2 : rankF (restF t k f) k j < q
              · rw [if_pos e2, if_pos (by omega)]
              · rw [if_neg e2, if_neg (by omega)]
          have P4 : Hid (RowP (wr.setCell ⟨w.heap.size, i0, none⟩ (.int .i64 (floorF t k f i0 + 1))) (w.heap.size + 1) k (fun j => d'[j]!)) := P3.out.other (by show w.heap.size ≠ w.heap.size + 1; omega) _
          have X4 : Hid (Ext w (wr.setCell ⟨w.heap.size, i0, none⟩ (.int .i64 (floorF t k f i0 + 1)))) := X3.out.setCell (Nat.le_refl _) _
          generalize floorF t k f i0 = v at *
          clear R3 P3 X3 he hrk
          go_wp2_with fail
          go_roundw
          case rel => exact ⟨q + 1, by omega, by go_num, X4, R4, P4⟩
          case measure => simp [intOf]; omega
        · obtain rfl : q = L := by omega
          go_wp2_with fail
          go_ret2
          refine ⟨X3.out, w.heap.size, Nat.le_refl _, ?_, rfl, R3.out.congr fun j hj => ?_⟩
          · exact block_lt_of_cell (R3.out 0 hk0).1
          · unfold partF
            rw [if_neg H0.out, EL.out]
            congr 1
            by_cases e2 : rankF (restF t k f) k j < q
            · rw [if_pos e2, if_pos (by omega)]
            · rw [if_neg e2, if_neg (by omega)]
end L04
end Go.Proofs.Ytnkomnmdmbegiaa

