/- Contracts of layer 6 (pack), for later layers. -/
import Derived.Test.YtggedodfkjdegaaPackGen
namespace Go.Proofs.Ytggedodfkjdegaa
open Go.RowKit
namespace L06

set_option maxRecDepth 100000 in
set_option maxHeartbeats 1000000 in
theorem put1_any (k s n : Int) (bn bb g o z cap : Nat) (w : World) (cs : List Value)
    (hn : w.cell? ⟨bn, 0, none⟩ = some (.int .i64 n)) (hb : w.cell? ⟨bb, 0, none⟩ = some (.slice (some ⟨g, o, none⟩) z cap))
    (hg : Blk w g 5 cs) (hz : o + z ≤ cs.length) (_ : z ≤ 4) (hk0 : 0 ≤ k) (hk : k < z) (hs0 : 0 ≤ s) (hs : s ≤ 24) (_ : 0 ≤ n) (_ : n < 4294967296) :
    Calls Try.prog 50 #[.int .i64 k, .int .i64 s, .pointer (some ⟨bn, 0, none⟩), .pointer (some ⟨bb, 0, none⟩)] w
      (fun e w' => e = .returned (.tuple #[]) ∧ w' = (w.setCell ⟨g, o + k.toNat, none⟩ (.int .u8 (n / 2 ^ s.toNat % 256))).drew) := by
  have f1 := hg.free (o + k.toNat)
  have c1 : w.cell? ⟨g, o + k.toNat, none⟩ = some (cs[o + k.toNat]'(by omega)) := by rw [hg.cell]; exact List.getElem?_eq_getElem _
  clear hg
  go_enter Try.func50, Try.ntmps50
  go_wp2_with fail
  go_still_tail 7, (by kernel_rfl)
  change wpList _ _ _ _ _ w.drew
  go_wp2_with fail
  go_end0
  exact ⟨rfl, rfl⟩
set_option maxRecDepth 100000 in
set_option maxHeartbeats 1000000 in
theorem down_put (n z : Nat) (bn bb g cap : Nat) (w : World) (X : List UInt8)
    (hn : w.cell? ⟨bn, 0, none⟩ = some (.int .i64 n)) (hb : w.cell? ⟨bb, 0, none⟩ = some (.slice (some ⟨g, X.length, none⟩) z cap))
    (hbn : bn ≠ g) (hbb : bb ≠ g) (hg : Blk w g 5 (bv (putRow X (be n z) 0))) (hz : z ≤ 4) (hn1 : n < 4294967296) :
    Calls Try.prog 49 #[.int .i64 z, .func (.func 50) #[] #[.pointer (some ⟨bn, 0, none⟩), .pointer (some ⟨bb, 0, none⟩)]] w
      (fun e w' => e = .returned (.tuple #[]) ∧ Blk w' g 5 (bv (X ++ be n z)) ∧ Far g w w') := by
  go_enter Try.func49, Try.ntmps49
  go_wp2_with fail
  go_loopw [6] (fun i wr => ∃ k : Nat, k ≤ z ∧ i = .int .i64 k ∧ wr.cell? ⟨bn, 0, none⟩ = some (.int .i64 n) ∧ wr.cell? ⟨bb, 0, none⟩ = some (.slice (some ⟨g, X.length, none⟩) z cap) ∧ Blk wr g 5 (bv (putRow X (be n z) k)) ∧ Far g w wr) (fun i _ => z - (intOf i).toNat)
  case atStart => exact ⟨0, by omega, rfl, hn, hb, hg, Far.refl _ _⟩
  case round =>
    clear hn hb hg
    obtain ⟨k, hk, rfl, hn, hb, hg, hf⟩ := hrel
    by_cases hlt : k < z
    · have hs := byte_at n z k hlt
      have hl : (putRow X (be n z) k).length = X.length + z := by simp [putRow, be_length]; omega
      have hc : (X.length : Nat) + z ≤ (bv (putRow X (be n z) k)).length := by rw [bv_length, hl]; exact Nat.le_refl _
      have step := putRow_step X (be n z) k (by rw [be_length]; exact hlt)
      have HS := Lib.hid hs
      have HT := Lib.hid step
      clear hs step hl
      go_wp2_with fail
      refine (put1_any _ _ _ _ _ _ _ _ _ wr _ hn hb hg hc hz (by omega) (by omega) (by omega) (by omega) (by omega) (by omega)).mono ?_; rintro e w1 ⟨rfl, rfl⟩
      go_wp2_with fail
      go_roundw
      case rel =>
        have hstep := hg.set (X.length + k) (.int .u8 ((be n z)[k]'(by rw [be_length]; exact hlt)).toNat)
        rw [HT.out] at hstep
        refine ⟨k + 1, by omega, by go_num, (World.cell?_setCell_other wr _ _ _ (by first | (simp; done) | (simp; omega))).trans hn, (World.cell?_setCell_other wr _ _ _ (by first | (simp; done) | (simp; omega))).trans hb, ?_, hf.trans (Far.put g wr ⟨g, _, none⟩ rfl _)⟩
        rw [HS.out]
        exact hstep
      case measure => simp [intOf]; omega
    · obtain rfl : k = z := by omega
      go_wp2_with fail
      go_end0
      refine ⟨rfl, ?_, hf⟩
      have e := putRow_all X (be n k)
      rw [be_length] at e
      rwa [e] at hg
theorem may_yes (n : Int) (w : World) (h1 : 1 ≤ n) (h2 : n ≤ 4) : Calls Try.prog 48 #[.int .i64 n] w (fun e w' => e = .returned (.bool true) ∧ w' = w) := by
  go_enter Try.func48, Try.ntmps48
  go_wp2_with fail
  go_ret
  exact ⟨rfl, rfl⟩
theorem may_no (n : Int) (w : World) (h : n < 1 ∨ 4 < n) : Calls Try.prog 48 #[.int .i64 n] w (fun e w' => e = .returned (.bool false) ∧ w' = w) := by
  rcases h with h | h
  · go_enter Try.func48, Try.ntmps48
    go_wp2_with fail
    go_ret
    exact ⟨rfl, rfl⟩
  · have h' : ¬ n < 1 := by omega
    go_enter Try.func48, Try.ntmps48
    go_wp2_with fail
    go_ret
    exact ⟨ret_bool (by simp; omega), rfl⟩
theorem put_no (A : Option Addr) (m c : Nat) (n size : Int) (w : World) (h : (size < 1 ∨ 4 < size) ∨ ((1 ≤ size ∧ size ≤ 4) ∧ (n < 0 ∨ (256 : Int) ^ size.toNat ≤ n))) :
    Calls Try.prog 36 #[.slice A m c, .int .i64 n, .int .i64 size] w (Ret w (.tuple #[.slice none 0 0, .int .i64 60])) := by
  rcases h with h | ⟨⟨h1, h2⟩, h⟩
  · go_enter Try.func36, Try.ntmps36
    go_wp2_with fail
    go_quiet ((go_at_call 48; exact Calls.quiet_of_same (may_no _ _ h)))
    go_wp2_with fail
    go_ret2
    exact ⟨rfl, ((Ext.refl _).alloc _).drewN _⟩
  · by_cases hn : n < 0
    · go_enter Try.func36, Try.ntmps36
      go_wp2_with fail
      go_quiet ((go_at_call 48; exact Calls.quiet_of_same (may_yes _ _ h1 h2)))
      go_wp2_with fail
      go_ret2
      exact ⟨rfl, ((Ext.refl _).alloc _).drewN _⟩
    · have hp : (256 : Int) ^ size.toNat ≤ n := by omega
      have hc : decide (n < 0) = false := by simpa using hn
      rcases (show size = 1 ∨ size = 2 ∨ size = 3 ∨ size = 4 by omega) with rfl | rfl | rfl | rfl
      all_goals
        simp at hp
        go_enter Try.func36, Try.ntmps36
        go_wp2_with fail
        go_quiet ((go_at_call 48; exact Calls.quiet_of_same (may_yes _ _ (by omega) (by omega))))
        go_wp2_with fail
        go_ret2
        exact ⟨rfl, ((Ext.refl _).alloc _).drewN _⟩
theorem down_put_i (i m : Int) (z : Nat) (bn bb g cap : Nat) (w : World) (X : List UInt8) (hi : i = z)
    (hn : w.cell? ⟨bn, 0, none⟩ = some (.int .i64 m)) (hb : w.cell? ⟨bb, 0, none⟩ = some (.slice (some ⟨g, X.length, none⟩) z cap))
    (hbn : bn ≠ g) (hbb : bb ≠ g) (hg : Blk w g 5 (bv (X ++ List.replicate z 0))) (hz : z ≤ 4) (hn0 : 0 ≤ m) (hn1 : m < 4294967296) :
    Calls Try.prog 49 #[.int .i64 i, .func (.func 50) #[] #[.pointer (some ⟨bn, 0, none⟩), .pointer (some ⟨bb, 0, none⟩)]] w
      (fun e w' => e = .returned (.tuple #[]) ∧ Blk w' g 5 (bv (X ++ be m.toNat z)) ∧ Far g w w') := by
  subst hi
  refine down_put m.toNat z bn bb g cap w X (by rw [hn, Int.toNat_of_nonneg hn0]) hb hbn hbb (by rw [putRow_zero, be_length]; exact hg) hz (by omega)
set_option maxRecDepth 100000 in
set_option maxHeartbeats 2000000 in
theorem put_yes (A : Option Addr) (l : List UInt8) (c z : Nat) (n : Int) (w : World) (hs : SeenB w A l) (hl : l.length ≤ 100000) (h1 : 1 ≤ z) (h2 : z ≤ 4) (hn0 : 0 ≤ n) (hn : n < 256 ^ z) :
    Calls Try.prog 36 #[.slice A l.length c, .int .i64 n, .int .i64 z] w (GivesB w (l ++ be n.toNat z)) := by
  obtain ⟨cs, hm, hcs⟩ := make_bytes Try.prog 22 5 (l.length + z) Try.underlying22 uint8_info (by omega)
  have HCS := Lib.hid hcs
  clear hcs
  have c2 : decide (n < 0) = false := by simp; omega
  rcases (show z = 1 ∨ z = 2 ∨ z = 3 ∨ z = 4 by omega) with rfl | rfl | rfl | rfl
  · simp only [Int.natCast_add, Int.cast_ofNat_Int] at hm
    have hni : n < 256 := by omega
    clear hn
    go_enter Try.func36, Try.ntmps36
    go_wp2_with fail
    go_quiet ((go_at_call 48; exact Calls.quiet_of_same (may_yes _ _ (by omega) (by omega))))
    have HX : Ext w ((w.alloc (.cells #[.int .i64 n] 3)).drewN nq) := ((Ext.refl _).alloc _).drewN _
    have HC : ((w.alloc (.cells #[.int .i64 n] 3)).drewN nq).cell? ⟨w.heap.size, 0, none⟩ = some (.int .i64 n) := by simp [go_sem]
    have HL : w.heap.size < ((w.alloc (.cells #[.int .i64 n] 3)).drewN nq).heap.size := by simp [go_sem]
    generalize (w.alloc (.cells #[.int .i64 n] 3)).drewN nq = w1 at *
    obtain ⟨w2, hcopy, hg2, x2⟩ := run_copyB (P := Try.prog) (w0 := w1) 22 22 3 5 5 Try.underlying22 (by kernel_rfl) w1.heap.size (l.length + 1) (l.length + 1) A l c (hs.ext (HX.trans ((Ext.refl _).alloc (.cells cs 5)))) cs.toList (Blk.new w1 5 cs) (by omega) (by rw [HCS.out]; simp [bv]) ((Ext.refl _).alloc _) (Nat.le_refl _)
    have hc2 := x2.at HC
    have hl2 := x2.grows _ HL
    have gl2 := hg2.lt
    go_wp2_with fail
    refine (down_put_i _ n 1 w.heap.size w2.heap.size w1.heap.size 1 _ l (by rfl) (by simp [go_sem, hc2, hl2]) (by simp [go_sem]) (by omega) (by omega) (row_is HCS.out (hg2.ext ((Ext.refl _).alloc _))) (by omega) hn0 (by omega)).mono ?_
    rintro e w3 ⟨rfl, hg3, hf⟩
    have hw3 : Ext w w3 := HX.trans (hf w1 (x2.alloc _) (Nat.le_refl _))
    clear hcopy hc2 HC
    go_wp2_with fail
    go_ret2
    exact gives_put l n.toNat 1 hg3 hw3
  · simp only [Int.natCast_add, Int.cast_ofNat_Int] at hm
    have hni : n < 65536 := by omega
    clear hn
    go_enter Try.func36, Try.ntmps36
    go_wp2_with fail
    go_quiet ((go_at_call 48; exact Calls.quiet_of_same (may_yes _ _ (by omega) (by omega))))
    have HX : Ext w ((w.alloc (.cells #[.int .i64 n] 3)).drewN nq) := ((Ext.refl _).alloc _).drewN _
    have HC : ((w.alloc (.cells #[.int .i64 n] 3)).drewN nq).cell? ⟨w.heap.size, 0, none⟩ = some (.int .i64 n) := by simp [go_sem]
    have HL : w.heap.size < ((w.alloc (.cells #[.int .i64 n] 3)).drewN nq).heap.size := by simp [go_sem]
    generalize (w.alloc (.cells #[.int .i64 n] 3)).drewN nq = w1 at *
    obtain ⟨w2, hcopy, hg2, x2⟩ := run_copyB (P := Try.prog) (w0 := w1) 22 22 3 5 5 Try.underlying22 (by kernel_rfl) w1.heap.size (l.length + 2) (l.length + 2) A l c (hs.ext (HX.trans ((Ext.refl _).alloc (.cells cs 5)))) cs.toList (Blk.new w1 5 cs) (by omega) (by rw [HCS.out]; simp [bv]) ((Ext.refl _).alloc _) (Nat.le_refl _)
    have hc2 := x2.at HC
    have hl2 := x2.grows _ HL
    have gl2 := hg2.lt
    go_wp2_with fail
    refine (down_put_i _ n 2 w.heap.size w2.heap.size w1.heap.size 2 _ l (by rfl) (by simp [go_sem, hc2, hl2]) (by simp [go_sem]) (by omega) (by omega) (row_is HCS.out (hg2.ext ((Ext.refl _).alloc _))) (by omega) hn0 (by omega)).mono ?_
    rintro e w3 ⟨rfl, hg3, hf⟩
    have hw3 : Ext w w3 := HX.trans (hf w1 (x2.alloc _) (Nat.le_refl _))
    clear hcopy hc2 HC
    go_wp2_with fail
    go_ret2
    exact gives_put l n.toNat 2 hg3 hw3
  · simp only [Int.natCast_add, Int.cast_ofNat_Int] at hm
    have hni : n < 16777216 := by omega
    clear hn
    go_enter Try.func36, Try.ntmps36
    go_wp2_with fail
    go_quiet ((go_at_call 48; exact Calls.quiet_of_same (may_yes _ _ (by omega) (by omega))))
    have HX : Ext w ((w.alloc (.cells #[.int .i64 n] 3)).drewN nq) := ((Ext.refl _).alloc _).drewN _
    have HC : ((w.alloc (.cells #[.int .i64 n] 3)).drewN nq).cell? ⟨w.heap.size, 0, none⟩ = some (.int .i64 n) := by simp [go_sem]
    have HL : w.heap.size < ((w.alloc (.cells #[.int .i64 n] 3)).drewN nq).heap.size := by simp [go_sem]
    generalize (w.alloc (.cells #[.int .i64 n] 3)).drewN nq = w1 at *
    obtain ⟨w2, hcopy, hg2, x2⟩ := run_copyB (P := Try.prog) (w0 := w1) 22 22 3 5 5 Try.underlying22 (by kernel_rfl) w1.heap.size (l.length + 3) (l.length + 3) A l c (hs.ext (HX.trans ((Ext.refl _).alloc (.cells cs 5)))) cs.toList (Blk.new w1 5 cs) (by omega) (by rw [HCS.out]; simp [bv]) ((Ext.refl _).alloc _) (Nat.le_refl _)
    have hc2 := x2.at HC
    have hl2 := x2.grows _ HL
    have gl2 := hg2.lt
    go_wp2_with fail
    refine (down_put_i _ n 3 w.heap.size w2.heap.size w1.heap.size 3 _ l (by rfl) (by simp [go_sem, hc2, hl2]) (by simp [go_sem]) (by omega) (by omega) (row_is HCS.out (hg2.ext ((Ext.refl _).alloc _))) (by omega) hn0 (by omega)).mono ?_
    rintro e w3 ⟨rfl, hg3, hf⟩
    have hw3 : Ext w w3 := HX.trans (hf w1 (x2.alloc _) (Nat.le_refl _))
    clear hcopy hc2 HC
    go_wp2_with fail
    go_ret2
    exact gives_put l n.toNat 3 hg3 hw3
  · simp only [Int.natCast_add, Int.cast_ofNat_Int] at hm
    have hni : n < 4294967296 := by omega
    clear hn
    go_enter Try.func36, Try.ntmps36
    go_wp2_with fail
    go_quiet ((go_at_call 48; exact Calls.quiet_of_same (may_yes _ _ (by omega) (by omega))))
    have HX : Ext w ((w.alloc (.cells #[.int .i64 n] 3)).drewN nq) := ((Ext.refl _).alloc _).drewN _
    have HC : ((w.alloc (.cells #[.int .i64 n] 3)).drewN nq).cell? ⟨w.heap.size, 0, none⟩ = some (.int .i64 n) := by simp [go_sem]
    have HL : w.heap.size < ((w.alloc (.cells #[.int .i64 n] 3)).drewN nq).heap.size := by simp [go_sem]
    generalize (w.alloc (.cells #[.int .i64 n] 3)).drewN nq = w1 at *
    obtain ⟨w2, hcopy, hg2, x2⟩ := run_copyB (P := Try.prog) (w0 := w1) 22 22 3 5 5 Try.underlying22 (by kernel_rfl) w1.heap.size (l.length + 4) (l.length + 4) A l c (hs.ext (HX.trans ((Ext.refl _).alloc (.cells cs 5)))) cs.toList (Blk.new w1 5 cs) (by omega) (by rw [HCS.out]; simp [bv]) ((Ext.refl _).alloc _) (Nat.le_refl _)
    have hc2 := x2.at HC
    have hl2 := x2.grows _ HL
    have gl2 := hg2.lt
    go_wp2_with fail
    refine (down_put_i _ n 4 w.heap.size w2.heap.size w1.heap.size 4 _ l (by rfl) (by simp [go_sem, hc2, hl2]) (by simp [go_sem]) (by omega) (by omega) (row_is HCS.out (hg2.ext ((Ext.refl _).alloc _))) (by omega) hn0 (by omega)).mono ?_
    rintro e w3 ⟨rfl, hg3, hf⟩
    have hw3 : Ext w w3 := HX.trans (hf w1 (x2.alloc _) (Nat.le_refl _))
    clear hcopy hc2 HC
    go_wp2_with fail
    go_ret2
    exact gives_put l n.toNat 4 hg3 hw3
set_option maxRecDepth 100000 in
set_option maxHeartbeats 1000000 in
theorem take1_any (k s acc : Int) (bn bb c n : Nat) (A : Option Addr) (l : List UInt8) (w : World)
    (hn : w.cell? ⟨bn, 0, none⟩ = some (.int .i64 acc)) (hnf : w.frozen? ⟨bn, 0, none⟩ = false) (hb : w.cell? ⟨bb, 0, none⟩ = some (.slice A n c)) (hs : SeenB w A l)
    (hln : n = l.length) (hk0 : 0 ≤ k) (hk : k.toNat < l.length) (hs0 : 0 ≤ s) (hs1 : s ≤ 24) (_ : 0 ≤ acc) (_ : acc < 4294967296) :
    Calls Try.prog 53 #[.int .i64 k, .int .i64 s, .pointer (some ⟨bn, 0, none⟩), .pointer (some ⟨bb, 0, none⟩)] w
      (fun e w' => e = .returned (.tuple #[]) ∧ w' = (w.setCell ⟨bn, 0, none⟩ (.int .i64 (bits .or .i64 acc (wrap64 ((l[k.toNat].toNat : Int) * 2 ^ s.toNat))))).drew) := by
  obtain ⟨ad, rfl, _, hc⟩ := hs.get (k := k.toNat) (by omega)
  have hb0 : 0 ≤ ((l[k.toNat]'(by omega)).toNat : Int) := by omega
  have hb1 : ((l[k.toNat]'(by omega)).toNat : Int) ≤ 255 := by have := (l[k.toNat]'(by omega)).toNat_lt; omega
  generalize ((l[k.toNat]'(by omega)).toNat : Int) = b at *
  have hkn : k < n := by omega
  clear hs hk hln
  go_enter Try.func53, Try.ntmps53
  go_wp2_with fail
  go_still_tail 9, (by kernel_rfl)
  change wpList _ _ _ _ _ w.drew
  go_wp2_with fail
  go_end0
  exact ⟨rfl, rfl⟩
set_option maxRecDepth 100000 in
set_option maxHeartbeats 1000000 in
theorem down_take (zi : Int) (z : Nat) (bn bb n c : Nat) (A : Option Addr) (l : List UInt8) (w0 w : World) (hzi : zi = z) (hnl : n = l.length)
    (hn : w.cell? ⟨bn, 0, none⟩ = some (.int .i64 0)) (hnf : w.frozen? ⟨bn, 0, none⟩ = false) (hb0 : w0.cell? ⟨bb, 0, none⟩ = some (.slice A n c)) (hs0 : SeenB w0 A l)
    (x0 : Ext w0 w) (hlt : w0.heap.size ≤ bn) (hz : z ≤ 4) (hl : z ≤ l.length) :
    Calls Try.prog 49 #[.int .i64 zi, .func (.func 53) #[] #[.pointer (some ⟨bn, 0, none⟩), .pointer (some ⟨bb, 0, none⟩)]] w
      (fun e w' => e = .returned (.tuple #[]) ∧ w'.cell? ⟨bn, 0, none⟩ = some (.int .i64 (num (l.take z))) ∧ Ext w0 w') := by
  subst hzi
  have HNL := Lib.hid hnl
  clear hnl
  go_enter Try.func49, Try.ntmps49
  go_wp2_with fail
  go_loopw [6] (fun i wr => ∃ k : Nat, k ≤ z ∧ i = .int .i64 k ∧ wr.cell? ⟨bn, 0, none⟩ = some (.int .i64 ((num (l.take k) * 256 ^ (z - k) : Nat) : Int)) ∧ wr.frozen? ⟨bn, 0, none⟩ = false ∧ Ext w0 wr) (fun i _ => z - (intOf i).toNat)
  case atStart => exact ⟨0, by omega, rfl, by simpa [num] using hn, hnf, x0⟩
  case round =>
    clear hn hnf x0
    obtain ⟨k, hk, rfl, hn, hnf, x⟩ := hrel
    by_cases hlt' : k < z
    · have hkl : k < l.length := by omega
      obtain ⟨H1, H2⟩ := or_step l z k hz hlt' hkl
      have H1 := Lib.hid H1
      have hs := hs0.ext x
      have hb := x.at hb0
      obtain ⟨acc, hacc⟩ : ∃ acc : Int, acc = ((num (l.take k) * 256 ^ (z - k) : Nat) : Int) := ⟨_, rfl⟩
      have ha0 : 0 ≤ acc := by omega
      have ha1 : acc < 4294967296 := by omega
      have HA := Lib.hid hacc
      rw [← hacc] at hn
      clear hacc H2 hs0 hb0
      go_wp2_with fail
      refine (take1_any _ _ acc bn bb c n A l wr hn hnf hb hs HNL.out (by omega) (by simpa using hkl) (by omega) (by omega) ha0 ha1).mono ?_; rintro e w1 ⟨rfl, rfl⟩
      go_wp2_with fail
      go_roundw
      case rel =>
        refine ⟨k + 1, by omega, by go_num, ?_, by rw [← hnf]; exact World.frozen?_setCell _ _ _ _, (x.setCell hlt _).drew⟩
        rw [HA.out]
        rw [H1.out]
        exact World.cell?_setCell_same _ _ _ hn
      case measure => simp [intOf]; omega
    · obtain rfl : k = z := by omega
      go_wp2_with fail
      go_end0
      exact ⟨rfl, by simpa using hn, x⟩
theorem clone_any (A : Option Addr) (l : List UInt8) (n c : Nat) (w : World) (hs : SeenB w A l) (hn : n = l.length) (hl : l.length ≤ 100000) :
    Calls Try.prog 54 #[.slice A n c] w (CopyB w l) := by
  rcases A with _ | ad
  · have hl : l = [] := by
      rcases l with _ | ⟨b, l⟩
      · rfl
      · obtain ⟨_, e, _⟩ := hs.get (k := 0) (by simp); cases e
    subst hl
    subst hn
    have heq := fun W => Go.run_eql_slice_nil (P := Try.prog) W 22 5 none 0 c Try.underlying22
    go_enter Try.func54, Try.ntmps54
    go_wp2_with fail
    go_ret
    exact ⟨none, 0, rfl, SeenB.nil, Ext.refl _⟩
  · obtain ⟨v, w1, hrun, hown, _⟩ := run_putB (P := Try.prog) 22 22 5 Try.underlying22 uint8_info (OwnB.lit 5 w w [] #[] 0 rfl rfl (by simp) (Ext.refl _)) (some ad) l n c (hs.ext ((Ext.refl _).alloc _)) hn (by simp; omega)
    obtain ⟨A, c', rfl, _, hA⟩ := hown.seen
    have HH := Lib.hid hn
    have heq := fun W => Go.run_eql_slice_nil (P := Try.prog) W 22 5 (some ad) n c Try.underlying22
    clear hn
    go_enter Try.func54, Try.ntmps54
    go_wp2_with (at_builtin; refine wpList_ran rfl _ _ rfl hrun ?_)
    go_ret
    exact ⟨A, c', by simp, by simpa using hA, hown.2⟩
theorem take_no (A : Option Addr) (m c : Nat) (size : Int) (w : World) (h : (size < 1 ∨ 4 < size) ∨ ((1 ≤ size ∧ size ≤ 4) ∧ (m : Int) < size)) :
    Calls Try.prog 51 #[.slice A m c, .int .i64 size] w (Ret w (.tuple #[.int .i64 0, .slice none 0 0, .int .i64 60])) := by
  rcases h with h | ⟨⟨h1, h2⟩, h⟩
  · go_enter Try.func51, Try.ntmps51
    go_wp2_with (go_at_call 48; refine (may_no _ _ h).mono ?_; rintro e w1 ⟨rfl, rfl⟩)
    go_ret3
    exact ⟨rfl, (Ext.refl _).alloc _⟩
  · go_enter Try.func51, Try.ntmps51
    go_wp2_with (go_at_call 48; refine (may_yes _ _ h1 h2).mono ?_; rintro e w1 ⟨rfl, rfl⟩)
    go_ret3
    exact ⟨rfl, (Ext.refl _).alloc _⟩
set_option maxRecDepth 100000 in
set_option maxHeartbeats 2000000 in
theorem take_yes (A : Option Addr) (l : List UInt8) (c n z : Nat) (w : World) (hs : SeenB w A l) (hn : n = l.length) (hc : n ≤ c) (hl : l.length ≤ 100000) (h1 : 1 ≤ z) (h2 : z ≤ 4) (h3 : z ≤ n) :
    Calls Try.prog 51 #[.slice A n c, .int .i64 z] w (GivesT w (num (l.take z)) (l.drop z)) := by
  have HN := Lib.hid hn
  have d1 : decide ((n : Int) < (z : Int)) = false := by simp; omega
  clear hn
  go_enter Try.func51, Try.ntmps51
  go_wp2_with (go_at_call 48; refine (may_yes _ _ (by omega) (by omega)).mono ?_; rintro e w1 ⟨rfl, rfl⟩)
  have c0 : (w.alloc (.cells #[.slice A n c] 22)).cell? ⟨w.heap.size, 0, none⟩ = some (.slice A n c) := by simp
  refine (down_take _ z (w.heap.size + 1) w.heap.size n c A l (w.alloc (.cells #[.slice A n c] 22)) _ rfl HN.out (by simp [go_sem]) (by simp [go_sem]) c0 (hs.ext ((Ext.refl _).alloc _)) ((Ext.refl _).alloc _) (by simp) h2 (by rw [← HN.out]; exact h3)).mono ?_
  rintro e w3 ⟨rfl, hn3, x3⟩
  have hb3 := x3.at c0
  have x3' : Ext w w3 := ((Ext.refl _).alloc _).trans x3
  have hs3 := hs.ext x3'
  have hcut := hs3.cut (k := z) (cap := c) (by rw [← HN.out]; exact h3) (by rw [← HN.out]; exact hc)
  clear hs c0 x3
  generalize w.heap.size = bw at *
  generalize num (l.take z) = N at *
  unfold cutA at hcut
  by_cases hcz : c = z
  · rw [if_pos hcz] at hcut
    subst hcz
    go_wp2_with fail
    go_region_held3 (fun w' => w'.cell? ⟨bw, 0, none⟩ = some (.slice A n c) ∧ w'.cell? ⟨bw + 1, 0, none⟩ = some (.int .i64 N) ∧ Ext w3 w')
      ((go_split_ands; first | (refine ⟨x1.at ?_, x1.at ?_, Ext.trans ?_ x1⟩ <;> with_reducible assumption) | (refine ⟨?_, ?_, ?_⟩ <;> first | with_reducible assumption | exact (Ext.refl _).drew | (simp only [World.cell?_drew]; with_reducible assumption))))
      ((go_at_call 54; go_split_ands; refine (clone_any _ (l.drop c) _ _ _ (hcut.ext (by assumption)) (by rw [List.length_drop, ← HN.out]; omega) (by simp; omega)).mono ?_; rintro e w1 ⟨A1, c1, rfl, s1, x1⟩))
    go_split_ands
    go_wp2_with fail
    go_ret3
    exact ⟨A1, c1, by simp, s1, x3'.trans (by assumption)⟩
  · rw [if_neg hcz] at hcut
    go_wp2_with fail
    go_region_held3 (fun w' => w'.cell? ⟨bw, 0, none⟩ = some (.slice A n c) ∧ w'.cell? ⟨bw + 1, 0, none⟩ = some (.int .i64 N) ∧ Ext w3 w')
      ((go_split_ands; first | (refine ⟨x1.at ?_, x1.at ?_, Ext.trans ?_ x1⟩ <;> with_reducible assumption) | (refine ⟨?_, ?_, ?_⟩ <;> first | with_reducible assumption | exact (Ext.refl _).drew | (simp only [World.cell?_drew]; with_reducible assumption))))
      ((go_at_call 54; go_split_ands; refine (clone_any _ (l.drop z) _ _ _ (hcut.ext (by assumption)) (by rw [List.length_drop, ← HN.out]) (by simp; omega)).mono ?_; rintro e w1 ⟨A1, c1, rfl, s1, x1⟩))
    go_split_ands
    go_wp2_with fail
    go_ret3
    exact ⟨A1, c1, by simp, s1, x3'.trans (by assumption)⟩
theorem putfix_no (A : Option Addr) (m c : Nat) (n : Int) (w : World) (h : n < -2147483648 ∨ 2147483648 ≤ n) :
    Calls Try.prog 37 #[.slice A m c, .int .i64 n] w (Ret w (.tuple #[.slice none 0 0, .int .i64 60])) := by
  rcases h with h | h
  · go_enter Try.func37, Try.ntmps37
    go_wp2_with fail
    go_ret2
    exact ⟨rfl, Ext.refl _⟩
  · have h' : ¬ n < -2147483648 := by omega
    go_enter Try.func37, Try.ntmps37
    go_wp2_with fail
    go_ret2
    exact ⟨rfl, Ext.refl _⟩
theorem putfix_yes (A : Option Addr) (l : List UInt8) (m c : Nat) (n : Int) (w : World) (hs : SeenB w A l) (hm : m = l.length) (hl : l.length ≤ 100000) (h1 : -2147483648 ≤ n) (h2 : n < 2147483648) :
    Calls Try.prog 37 #[.slice A m c, .int .i64 n] w (GivesB w (l ++ be (up32 n).toNat 4)) := by
  subst hm
  have hu := up32_in h1 h2
  by_cases h : n < 0
  · have e : up32 n = n + 4294967296 := if_pos h
    rw [e] at hu ⊢
    obtain ⟨hu1, hu2⟩ := hu
    clear e
    go_enter Try.func37, Try.ntmps37
    go_wp2_with fail
    refine (put_yes A l c 4 (n + 4294967296) _ hs hl (by omega) (by omega) hu1 hu2).mono ?_; rintro e w1 ⟨A1, c1, rfl, hc1, s1, x1⟩
    go_wp2_with fail
    go_ret2
    exact ⟨A1, c1, by simp, hc1, s1, x1⟩
  · have e : up32 n = n := if_neg h
    rw [e] at hu ⊢
    obtain ⟨hu1, hu2⟩ := hu
    clear e
    go_enter Try.func37, Try.ntmps37
    go_wp2_with fail
    refine (put_yes A l c 4 n _ hs hl (by omega) (by omega) hu1 hu2).mono ?_; rintro e w1 ⟨A1, c1, rfl, hc1, s1, x1⟩
    go_wp2_with fail
    go_ret2
    exact ⟨A1, c1, by simp, hc1, s1, x1⟩
theorem takefix_no (A : Option Addr) (m c : Nat) (w : World) (h : m < 4) :
    Calls Try.prog 41 #[.slice A m c] w (Ret w (.tuple #[.int .i64 0, .slice none 0 0, .int .i64 60])) := by
  go_enter Try.func41, Try.ntmps41
  go_wp2_with fail
  refine (take_no A m c 4 _ (.inr ⟨⟨by omega, by omega⟩, by omega⟩)).mono ?_; rintro e w1 ⟨rfl, x1⟩
  go_wp2_with fail
  go_ret3
  exact ⟨rfl, x1⟩
theorem takefix_yes (A : Option Addr) (l : List UInt8) (c n : Nat) (w : World) (hs : SeenB w A l) (hn : n = l.length) (hc : n ≤ c) (hl : l.length ≤ 100000) (h3 : 4 ≤ n) :
    Calls Try.prog 41 #[.slice A n c] w (GivesT w (down32 (num (l.take 4))) (l.drop 4)) := by
  have T := take_yes A l c n 4 w hs hn hc hl (by omega) (by omega) h3
  have hb := num_lt (l.take 4)
  rw [List.length_take, Nat.min_eq_left (by omega)] at hb
  obtain ⟨N, hN⟩ : ∃ N : Int, N = (num (l.take 4) : Int) := ⟨_, rfl⟩
  have h0 : 0 ≤ N := by omega
  have h1 : N < 4294967296 := by omega
  have T := Lib.hid T
  have HN := Lib.hid hn
  clear hn hb
  rw [← hN] at T ⊢
  clear hN
  by_cases h : 2147483648 ≤ N
  · have e : down32 N = N - 4294967296 := if_pos h
    rw [e]
    clear e
    go_enter Try.func41, Try.ntmps41
    go_wp2_with fail
    refine T.out.mono ?_; rintro e w1 ⟨A1, c1, rfl, s1, x1⟩
    go_wp2_with fail
    go_ret3
    exact ⟨A1, c1, by simp, s1, x1⟩
  · have e : down32 N = N := if_neg h
    rw [e]
    clear e
    go_enter Try.func41, Try.ntmps41
    go_wp2_with fail
    refine T.out.mono ?_; rintro e w1 ⟨A1, c1, rfl, s1, x1⟩
    go_wp2_with fail
    go_ret3
    exact ⟨A1, c1, by simp, s1, x1⟩
end L06
end Go.Proofs.Ytggedodfkjdegaa

