/- Contracts of layer 6 (pack): Put. -/
import Derived.Test.YtalanmgcacacaaaPack06
import Derived.Deep.QuietTactic
import Derived.BigQuiet
namespace Go.Proofs.Ytalanmgcacacaaa
open Go.RowKit
namespace L06

theorem may_yes (n : Int) (w : World) (h1 : 1 ≤ n) (h2 : n ≤ 4) : Calls Try.prog 18 #[.int .i64 n] w (fun e w' => e = .returned (.bool true) ∧ w' = w) := by
  go_enter Try.func18, Try.ntmps18
  go_wp2_with fail
  go_ret
  exact ⟨rfl, rfl⟩
theorem may_no (n : Int) (w : World) (h : n < 1 ∨ 4 < n) : Calls Try.prog 18 #[.int .i64 n] w (fun e w' => e = .returned (.bool false) ∧ w' = w) := by
  rcases h with h | h
  · go_enter Try.func18, Try.ntmps18
    go_wp2_with fail
    go_ret
    exact ⟨rfl, rfl⟩
  · have h' : ¬ n < 1 := by omega
    go_enter Try.func18, Try.ntmps18
    go_wp2_with fail
    go_ret
    exact ⟨ret_bool (by simp; omega), rfl⟩

/-- A list of bytes, and no error. -/
def GivesB (w : World) (l : List UInt8) (e : Ending) (w' : World) : Prop :=
  ∃ A c, e = .returned (.tuple #[.slice A l.length c, .int .i64 0]) ∧ l.length ≤ c ∧ SeenB w' A l ∧ Ext w w'

theorem put_no (A : Option Addr) (m c : Nat) (n size : Int) (w : World) (h : (size < 1 ∨ 4 < size) ∨ ((1 ≤ size ∧ size ≤ 4) ∧ (n < 0 ∨ (256 : Int) ^ size.toNat ≤ n))) :
    Calls Try.prog 10 #[.slice A m c, .int .i64 n, .int .i64 size] w (Ret w (.tuple #[.slice none 0 0, .int .i64 60])) := by
  rcases h with h | ⟨⟨h1, h2⟩, h⟩
  · go_enter Try.func10, Try.ntmps10
    go_wp2_with fail
    go_quiet ((go_at_call 18; exact Calls.quiet_of_same (may_no _ _ h)))
    go_wp2_with fail
    go_ret2
    exact ⟨rfl, ((Ext.refl _).alloc _).drewN _⟩
  · by_cases hn : n < 0
    · go_enter Try.func10, Try.ntmps10
      go_wp2_with fail
      go_quiet ((go_at_call 18; exact Calls.quiet_of_same (may_yes _ _ h1 h2)))
      go_wp2_with fail
      go_ret2
      exact ⟨rfl, ((Ext.refl _).alloc _).drewN _⟩
    · have hp : (256 : Int) ^ size.toNat ≤ n := by omega
      have hc : decide (n < 0) = false := by simpa using hn
      rcases (show size = 1 ∨ size = 2 ∨ size = 3 ∨ size = 4 by omega) with rfl | rfl | rfl | rfl
      all_goals
        simp at hp
        go_enter Try.func10, Try.ntmps10
        go_wp2_with fail
        go_quiet ((go_at_call 18; exact Calls.quiet_of_same (may_yes _ _ (by omega) (by omega))))
        go_wp2_with fail
        go_ret2
        exact ⟨rfl, ((Ext.refl _).alloc _).drewN _⟩

theorem run_copyB {P : Program} {w w0 : World} (dT sT ty e t : TypeId) (hu : P.underlying dT = some (.slice e)) (hsz : (P.info? e).map (·.size) = some 1)
    (g n dc : Nat) (A : Option Addr) (l : List UInt8) (c : Nat) (hx : SeenB w A l) (cs : List Value) (hg : Blk w g t cs) (hl : l.length ≤ n) (hn : n ≤ cs.length) (h0 : Ext w0 w) (hlt : w0.heap.size ≤ g) :
    ∃ w', (Builtin.copy_ #[dT, sT] ty #[.slice (some ⟨g, 0, none⟩) n dc, .slice A l.length c]).run P w = .ok (.int .i64 l.length) w' ∧ Blk w' g t (bv l ++ cs.drop l.length) ∧ Ext w0 w' := by
  rcases Nat.eq_zero_or_pos l.length with h | h
  · obtain rfl : l = [] := List.eq_nil_of_length_eq_zero h
    exact ⟨w, run_copy_none w dT sT ty e _ A n dc 0 c hu hsz (by simp), by simpa [bv] using hg, h0⟩
  · obtain ⟨ad, rfl, _, _⟩ := hx.get h
    refine ⟨_, ?_, setRow_heap w g cs.toArray (bv l ++ cs.drop l.length).toArray t _ hg, below_setRow h0 hlt _⟩
    have := run_copy_row (P := P) w dT sT ty e g 0 n dc ad l.length c cs.toArray t (bv l) hu hsz hg (by rw [bv_length]; exact (Nat.min_eq_left hl).symm)
      (fun j v hv => by
        obtain ⟨ad', e, _, hc⟩ := hx j v hv
        obtain rfl : ad = ad' := by simpa using e
        exact hc) (by simp [bv_length]; omega) (bv_one l)
    rw [this]
    simp [bv_length, goInt]

theorem down_put_i (i m : Int) (z : Nat) (bn bb g cap : Nat) (w : World) (X : List UInt8) (hi : i = z)
    (hn : w.cell? ⟨bn, 0, none⟩ = some (.int .i64 m)) (hb : w.cell? ⟨bb, 0, none⟩ = some (.slice (some ⟨g, X.length, none⟩) z cap))
    (hbn : bn ≠ g) (hbb : bb ≠ g) (hg : Blk w g 5 (bv (X ++ List.replicate z 0))) (hz : z ≤ 4) (hn0 : 0 ≤ m) (hn1 : m < 4294967296) :
    Calls Try.prog 19 #[.int .i64 i, .func (.func 20) #[] #[.pointer (some ⟨bn, 0, none⟩), .pointer (some ⟨bb, 0, none⟩)]] w
      (fun e w' => e = .returned (.tuple #[]) ∧ Blk w' g 5 (bv (X ++ be m.toNat z)) ∧ Far g w w') := by
  subst hi
  refine down_put m.toNat z bn bb g cap w X (by rw [hn, Int.toNat_of_nonneg hn0]) hb hbn hbb (by rw [putRow_zero, be_length]; exact hg) hz (by omega)

theorem uint8_info : (Try.prog.info? 5).map (fun i => (i.zero, i.size, i.bytes)) = some (some (.int .u8 0), 1, 1) := by kernel_rfl

theorem row_is {w : World} {g : Nat} {t : TypeId} {l : List UInt8} {cs : List Value} {z : Nat} (e : cs = bv (List.replicate (l.length + z) 0)) (h : Blk w g t (bv l ++ cs.drop l.length)) : Blk w g t (bv (l ++ List.replicate z 0)) := by
  subst e
  have : (bv (List.replicate (l.length + z) 0)).drop l.length = bv (List.replicate z 0) := by simp [bv]
  rwa [this, ← bv_append] at h
theorem gives_put {w w' : World} {g : Nat} {t : TypeId} (l : List UInt8) (n z : Nat) (h : Blk w' g t (bv (l ++ be n z))) (x : Ext w w') :
    GivesB w (l ++ be n z) (.returned (.tuple #[.slice (some ⟨g, 0, none⟩) (l.length + z) (l.length + z), .int .i64 0])) w' := by
  have e : (l ++ be n z).length = l.length + z := by rw [List.length_append, be_length]
  exact ⟨_, l.length + z, by rw [e], by rw [e]; exact Nat.le_refl _, h.seen rfl, x⟩

set_option maxRecDepth 100000 in
set_option maxHeartbeats 2000000 in
theorem put_yes (A : Option Addr) (l : List UInt8) (c z : Nat) (n : Int) (w : World) (hs : SeenB w A l) (hl : l.length ≤ 100000) (h1 : 1 ≤ z) (h2 : z ≤ 4) (hn0 : 0 ≤ n) (hn : n < 256 ^ z) :
    Calls Try.prog 10 #[.slice A l.length c, .int .i64 n, .int .i64 z] w (GivesB w (l ++ be n.toNat z)) := by
  obtain ⟨cs, hm, hcs⟩ := make_bytes Try.prog 22 5 (l.length + z) Try.underlying22 uint8_info (by omega)
  have HCS := Lib.hid hcs
  clear hcs
  have c2 : decide (n < 0) = false := by simp; omega
  rcases (show z = 1 ∨ z = 2 ∨ z = 3 ∨ z = 4 by omega) with rfl | rfl | rfl | rfl
  · simp only [Int.natCast_add, Int.cast_ofNat_Int] at hm
    have hni : n < 256 := by omega
    clear hn
    go_enter Try.func10, Try.ntmps10
    go_wp2_with fail
    go_quiet ((go_at_call 18; exact Calls.quiet_of_same (may_yes _ _ (by omega) (by omega))))
    have HX : Ext w ((w.alloc (.cells #[.int .i64 n] 3)).drewN nq) := ((Ext.refl _).alloc _).drewN _
    have HC : ((w.alloc (.cells #[.int .i64 n] 3)).drewN nq).cell? ⟨w.heap.size, 0, none⟩ = some (.int .i64 n) := by simp [go_sem]
    have HL : w.heap.size < ((w.alloc (.cells #[.int .i64 n] 3)).drewN nq).heap.size := by simp [go_sem]
    generalize (w.alloc (.cells #[.int .i64 n] 3)).drewN nq = w1 at *
    obtain ⟨w2, hcopy, hg2, x2⟩ := run_copyB (P := Try.prog) (w0 := w1) 22 22 3 5 5 Try.underlying22 (by kernel_rfl) w1.heap.size (l.length + 1) (l.length + 1) A l c (hs.ext (HX.trans ((Ext.refl _).alloc (.cells cs 5)))) cs.toList (Blk.new w1 5 cs) (by omega) (by rw [HCS.out]; simp [bv]) ((Ext.refl _).alloc _) (Nat.le_refl _)
    have hc2 := x2.at HC
    have hl2 := x2.grows _ HL
    have gl2 := hg2.lt
    go_wp2_with fail
    refine (down_put_i _ n 1 w.heap.size w2.heap.size w1.heap.size 1 _ l (by rfl) (by simp [go_sem, hc2, hl2]) (by simp [go_sem]) (by omega) (by omega) (row_is HCS.out (hg2.ext ((Ext.refl _).alloc _))) (by omega) hn0 (by omega)).mono ?_
    rintro e w3 ⟨rfl, hg3, hf⟩
    have hw3 : Ext w w3 := HX.trans (hf w1 (x2.alloc _) (Nat.le_refl _))
    clear hcopy hc2 HC
    go_wp2_with fail
    go_ret2
    exact gives_put l n.toNat 1 hg3 hw3
  · simp only [Int.natCast_add, Int.cast_ofNat_Int] at hm
    have hni : n < 65536 := by omega
    clear hn
    go_enter Try.func10, Try.ntmps10
    go_wp2_with fail
    go_quiet ((go_at_call 18; exact Calls.quiet_of_same (may_yes _ _ (by omega) (by omega))))
    have HX : Ext w ((w.alloc (.cells #[.int .i64 n] 3)).drewN nq) := ((Ext.refl _).alloc _).drewN _
    have HC : ((w.alloc (.cells #[.int .i64 n] 3)).drewN nq).cell? ⟨w.heap.size, 0, none⟩ = some (.int .i64 n) := by simp [go_sem]
    have HL : w.heap.size < ((w.alloc (.cells #[.int .i64 n] 3)).drewN nq).heap.size := by simp [go_sem]
    generalize (w.alloc (.cells #[.int .i64 n] 3)).drewN nq = w1 at *
    obtain ⟨w2, hcopy, hg2, x2⟩ := run_copyB (P := Try.prog) (w0 := w1) 22 22 3 5 5 Try.underlying22 (by kernel_rfl) w1.heap.size (l.length + 2) (l.length + 2) A l c (hs.ext (HX.trans ((Ext.refl _).alloc (.cells cs 5)))) cs.toList (Blk.new w1 5 cs) (by omega) (by rw [HCS.out]; simp [bv]) ((Ext.refl _).alloc _) (Nat.le_refl _)
    have hc2 := x2.at HC
    have hl2 := x2.grows _ HL
    have gl2 := hg2.lt
    go_wp2_with fail
    refine (down_put_i _ n 2 w.heap.size w2.heap.size w1.heap.size 2 _ l (by rfl) (by simp [go_sem, hc2, hl2]) (by simp [go_sem]) (by omega) (by omega) (row_is HCS.out (hg2.ext ((Ext.refl _).alloc _))) (by omega) hn0 (by omega)).mono ?_
    rintro e w3 ⟨rfl, hg3, hf⟩
    have hw3 : Ext w w3 := HX.trans (hf w1 (x2.alloc _) (Nat.le_refl _))
    clear hcopy hc2 HC
    go_wp2_with fail
    go_ret2
    exact gives_put l n.toNat 2 hg3 hw3
  · simp only [Int.natCast_add, Int.cast_ofNat_Int] at hm
    have hni : n < 16777216 := by omega
    clear hn
    go_enter Try.func10, Try.ntmps10
    go_wp2_with fail
    go_quiet ((go_at_call 18; exact Calls.quiet_of_same (may_yes _ _ (by omega) (by omega))))
    have HX : Ext w ((w.alloc (.cells #[.int .i64 n] 3)).drewN nq) := ((Ext.refl _).alloc _).drewN _
    have HC : ((w.alloc (.cells #[.int .i64 n] 3)).drewN nq).cell? ⟨w.heap.size, 0, none⟩ = some (.int .i64 n) := by simp [go_sem]
    have HL : w.heap.size < ((w.alloc (.cells #[.int .i64 n] 3)).drewN nq).heap.size := by simp [go_sem]
    generalize (w.alloc (.cells #[.int .i64 n] 3)).drewN nq = w1 at *
    obtain ⟨w2, hcopy, hg2, x2⟩ := run_copyB (P := Try.prog) (w0 := w1) 22 22 3 5 5 Try.underlying22 (by kernel_rfl) w1.heap.size (l.length + 3) (l.length + 3) A l c (hs.ext (HX.trans ((Ext.refl _).alloc (.cells cs 5)))) cs.toList (Blk.new w1 5 cs) (by omega) (by rw [HCS.out]; simp [bv]) ((Ext.refl _).alloc _) (Nat.le_refl _)
    have hc2 := x2.at HC
    have hl2 := x2.grows _ HL
    have gl2 := hg2.lt
    go_wp2_with fail
    refine (down_put_i _ n 3 w.heap.size w2.heap.size w1.heap.size 3 _ l (by rfl) (by simp [go_sem, hc2, hl2]) (by simp [go_sem]) (by omega) (by omega) (row_is HCS.out (hg2.ext ((Ext.refl _).alloc _))) (by omega) hn0 (by omega)).mono ?_
    rintro e w3 ⟨rfl, hg3, hf⟩
    have hw3 : Ext w w3 := HX.trans (hf w1 (x2.alloc _) (Nat.le_refl _))
    clear hcopy hc2 HC
    go_wp2_with fail
    go_ret2
    exact gives_put l n.toNat 3 hg3 hw3
  · simp only [Int.natCast_add, Int.cast_ofNat_Int] at hm
    have hni : n < 4294967296 := by omega
    clear hn
    go_enter Try.func10, Try.ntmps10
    go_wp2_with fail
    go_quiet ((go_at_call 18; exact Calls.quiet_of_same (may_yes _ _ (by omega) (by omega))))
    have HX : Ext w ((w.alloc (.cells #[.int .i64 n] 3)).drewN nq) := ((Ext.refl _).alloc _).drewN _
    have HC : ((w.alloc (.cells #[.int .i64 n] 3)).drewN nq).cell? ⟨w.heap.size, 0, none⟩ = some (.int .i64 n) := by simp [go_sem]
    have HL : w.heap.size < ((w.alloc (.cells #[.int .i64 n] 3)).drewN nq).heap.size := by simp [go_sem]
    generalize (w.alloc (.cells #[.int .i64 n] 3)).drewN nq = w1 at *
    obtain ⟨w2, hcopy, hg2, x2⟩ := run_copyB (P := Try.prog) (w0 := w1) 22 22 3 5 5 Try.underlying22 (by kernel_rfl) w1.heap.size (l.length + 4) (l.length + 4) A l c (hs.ext (HX.trans ((Ext.refl _).alloc (.cells cs 5)))) cs.toList (Blk.new w1 5 cs) (by omega) (by rw [HCS.out]; simp [bv]) ((Ext.refl _).alloc _) (Nat.le_refl _)
    have hc2 := x2.at HC
    have hl2 := x2.grows _ HL
    have gl2 := hg2.lt
    go_wp2_with fail
    refine (down_put_i _ n 4 w.heap.size w2.heap.size w1.heap.size 4 _ l (by rfl) (by simp [go_sem, hc2, hl2]) (by simp [go_sem]) (by omega) (by omega) (row_is HCS.out (hg2.ext ((Ext.refl _).alloc _))) (by omega) hn0 (by omega)).mono ?_
    rintro e w3 ⟨rfl, hg3, hf⟩
    have hw3 : Ext w w3 := HX.trans (hf w1 (x2.alloc _) (Nat.le_refl _))
    clear hcopy hc2 HC
    go_wp2_with fail
    go_ret2
    exact gives_put l n.toNat 4 hg3 hw3
end L06
end Go.Proofs.Ytalanmgcacacaaa

