/- Contracts of layer 6 (pack): how numbers are put. -/
import Derived.Test.YtalanmgcacacaaaPackMath06
import Derived.StillTailTactics
namespace Go.Proofs.Ytalanmgcacacaaa
open Go.RowKit
namespace L06

/-- What lies below block g is as it was, wherever one looks from. -/
def Far (g : Nat) (w w' : World) : Prop := ∀ w0, Ext w0 w → w0.heap.size ≤ g → Ext w0 w'
theorem Far.refl (g : Nat) (w : World) : Far g w w := fun _ h _ => h
theorem Far.trans {g : Nat} {a b c : World} (h : Far g a b) (k : Far g b c) : Far g a c := fun w0 x l => k w0 (h w0 x l) l
theorem Far.put (g : Nat) (w : World) (p : Addr) (hp : p.block = g) (u : Value) : Far g w (w.setCell p u).drew := fun _ x l => (x.setCell (by omega) u).drew

set_option maxHeartbeats 1000000 in
theorem put1_any (k s n : Int) (bn bb g o z cap : Nat) (w : World) (cs : List Value)
    (hn : w.cell? ⟨bn, 0, none⟩ = some (.int .i64 n)) (hb : w.cell? ⟨bb, 0, none⟩ = some (.slice (some ⟨g, o, none⟩) z cap))
    (hg : Blk w g 5 cs) (hz : o + z ≤ cs.length) (_ : z ≤ 4) (hk0 : 0 ≤ k) (hk : k < z) (hs0 : 0 ≤ s) (hs : s ≤ 24) (_ : 0 ≤ n) (_ : n < 4294967296) :
    Calls Try.prog 20 #[.int .i64 k, .int .i64 s, .pointer (some ⟨bn, 0, none⟩), .pointer (some ⟨bb, 0, none⟩)] w
      (fun e w' => e = .returned (.tuple #[]) ∧ w' = (w.setCell ⟨g, o + k.toNat, none⟩ (.int .u8 (n / 2 ^ s.toNat % 256))).drew) := by
  have f1 := hg.free (o + k.toNat)
  have c1 : w.cell? ⟨g, o + k.toNat, none⟩ = some (cs[o + k.toNat]'(by omega)) := by rw [hg.cell]; exact List.getElem?_eq_getElem _
  clear hg
  go_enter Try.func20, Try.ntmps20
  go_wp2_with fail
  go_still_tail 7, (by kernel_rfl)
  change wpList _ _ _ _ _ w.drew
  go_wp2_with fail
  go_end0
  exact ⟨rfl, rfl⟩

theorem byte_at (n z k : Nat) (h : k < z) : ((n : Int) / 2 ^ (8 * (z - 1 - k)) % 256) = (((be n z)[k]'(by rw [be_length]; exact h)).toNat : Int) := by
  rw [be_get]
  have e2 : (2 : Int) ^ (8 * (z - 1 - k)) = ((256 ^ (z - 1 - k) : Nat) : Int) := by rw [Int.pow_mul]; norm_cast
  rw [e2, ← Int.natCast_ediv]
  simp

set_option maxHeartbeats 1000000 in
theorem down_put (n z : Nat) (bn bb g cap : Nat) (w : World) (X : List UInt8)
    (hn : w.cell? ⟨bn, 0, none⟩ = some (.int .i64 n)) (hb : w.cell? ⟨bb, 0, none⟩ = some (.slice (some ⟨g, X.length, none⟩) z cap))
    (hbn : bn ≠ g) (hbb : bb ≠ g) (hg : Blk w g 5 (bv (putRow X (be n z) 0))) (hz : z ≤ 4) (hn1 : n < 4294967296) :
    Calls Try.prog 19 #[.int .i64 z, .func (.func 20) #[] #[.pointer (some ⟨bn, 0, none⟩), .pointer (some ⟨bb, 0, none⟩)]] w
      (fun e w' => e = .returned (.tuple #[]) ∧ Blk w' g 5 (bv (X ++ be n z)) ∧ Far g w w') := by
  go_enter Try.func19, Try.ntmps19
  go_wp2_with fail
  go_loopw [6] (fun i wr => ∃ k : Nat, k ≤ z ∧ i = .int .i64 k ∧ wr.cell? ⟨bn, 0, none⟩ = some (.int .i64 n) ∧ wr.cell? ⟨bb, 0, none⟩ = some (.slice (some ⟨g, X.length, none⟩) z cap) ∧ Blk wr g 5 (bv (putRow X (be n z) k)) ∧ Far g w wr) (fun i _ => z - (intOf i).toNat)
  case atStart => exact ⟨0, by omega, rfl, hn, hb, hg, Far.refl _ _⟩
  case round =>
    clear hn hb hg
    obtain ⟨k, hk, rfl, hn, hb, hg, hf⟩ := hrel
    by_cases hlt : k < z
    · have hs := byte_at n z k hlt
      have hl : (putRow X (be n z) k).length = X.length + z := by simp [putRow, be_length]; omega
      have hc : (X.length : Nat) + z ≤ (bv (putRow X (be n z) k)).length := by rw [bv_length, hl]; exact Nat.le_refl _
      have step := putRow_step X (be n z) k (by rw [be_length]; exact hlt)
      have HS := Lib.hid hs
      have HT := Lib.hid step
      clear hs step hl
      go_wp2_with fail
      refine (put1_any _ _ _ _ _ _ _ _ _ wr _ hn hb hg hc hz (by omega) (by omega) (by omega) (by omega) (by omega) (by omega)).mono ?_; rintro e w1 ⟨rfl, rfl⟩
      go_wp2_with fail
      go_roundw
      case rel =>
        have hstep := hg.set (X.length + k) (.int .u8 ((be n z)[k]'(by rw [be_length]; exact hlt)).toNat)
        rw [HT.out] at hstep
        refine ⟨k + 1, by omega, by go_num, (World.cell?_setCell_other wr _ _ _ (by first | (simp; done) | (simp; omega))).trans hn, (World.cell?_setCell_other wr _ _ _ (by first | (simp; done) | (simp; omega))).trans hb, ?_, hf.trans (Far.put g wr ⟨g, _, none⟩ rfl _)⟩
        rw [HS.out]
        exact hstep
      case measure => simp [intOf]; omega
    · obtain rfl : k = z := by omega
      go_wp2_with fail
      go_end0
      refine ⟨rfl, ?_, hf⟩
      have e := putRow_all X (be n k)
      rw [be_length] at e
      rwa [e] at hg
end L06
end Go.Proofs.Ytalanmgcacacaaa

