/- The document's Same of layouts. -/
import Derived.Test.YteflkagilhmeiaaDoorChk14
import Derived.Deep.CutBlock
import Derived.Deep.DeepCutAuto
import Derived.BigQuiet
namespace Go.Proofs.YteflkagilhmeiaaDoor
open Go.RowKit
namespace L14

/-- The same layout, of whatever list of lines. -/
def LEq (L M : LayD) : Prop := L.n = M.n ∧ (∀ k, k < 21 → k ≠ 4 → L.v k = M.v k) ∧ ∀ i, i < L.n → L.sh i = M.sh i
theorem layC_eq {L M : LayD} (h : LEq L M) (A : Option Addr) (c : Nat) : layC M A c = layC ⟨L.v, L.n, M.sh⟩ A c := by
  obtain ⟨h1, h2, _⟩ := h
  have e : ∀ k, k < 21 → k ≠ 4 → M.v k = L.v k := fun k a b => (h2 k a b).symm
  simp only [layC, h1, e 0 (by decide) (by decide), e 1 (by decide) (by decide), e 2 (by decide) (by decide), e 3 (by decide) (by decide), e 5 (by decide) (by decide), e 6 (by decide) (by decide), e 7 (by decide) (by decide), e 8 (by decide) (by decide), e 9 (by decide) (by decide), e 10 (by decide) (by decide), e 11 (by decide) (by decide), e 12 (by decide) (by decide), e 13 (by decide) (by decide), e 14 (by decide) (by decide), e 15 (by decide) (by decide), e 16 (by decide) (by decide), e 17 (by decide) (by decide), e 18 (by decide) (by decide), e 19 (by decide) (by decide), e 20 (by decide) (by decide)]

set_option maxRecDepth 100000 in
set_option maxHeartbeats 8000000 in
theorem rsame_yes (L M : LayD) (A B : Option Addr) (c d : Nat) (w : World) (h : LEq L M) (ha : SeenP w A L.n L.sh) (hb : SeenP w B M.n M.sh) (hn : L.n ≤ 1000000) : Calls Tryd.prog 13 #[.agg (layC L A c).toArray, .agg (layC M B d).toArray] w (Ret w (.bool true)) := by
  rw [layC_eq h]
  have HE := Lib.hid h.2.2
  have HN := Lib.hid h.1
  clear h
  obtain ⟨W2, hW2⟩ : ∃ W2, W2 = (w.alloc (.cells (layC L A c).toArray 24)).alloc (.cells (layC ⟨L.v, L.n, M.sh⟩ B d).toArray 24) := ⟨_, rfl⟩
  have x2 : Ext w W2 := by rw [hW2]; exact ((Ext.refl w).alloc _).alloc _
  have k0 : Blk W2 w.heap.size 24 (layC L A c) := by rw [hW2]; exact (Blk.lit _ _ _ _ rfl).ext ((Ext.refl _).alloc _)
  have k1 : Blk W2 (w.heap.size + 1) 24 (layC ⟨L.v, L.n, M.sh⟩ B d) := by rw [hW2]; exact Blk.lit _ _ _ _ (by simp)
  have HA := Lib.hid (ha.ext x2)
  have HB := Lib.hid (hb.ext x2)
  have X2 := Lib.hid x2
  clear ha hb x2
  go_enter Tryd.func13, Tryd.ntmps13
  go_upto_region 1 with (fail)
  rw [← hW2]
  generalize hr1 : w.heap.size + 1 = r1 at *
  generalize hr0 : w.heap.size = r0 at *
  clear hW2 hr1 hr0
  obtain ⟨V, hV⟩ : ∃ V, V = Value.agg (layC L A c).toArray := ⟨_, rfl⟩
  obtain ⟨U, hU⟩ : ∃ U, U = Value.agg (layC ⟨L.v, L.n, M.sh⟩ B d).toArray := ⟨_, rfl⟩
  rw [← hV, ← hU]
  clear hV hU
  have a0 : W2.cell? ⟨r0, 0, none⟩ = some (.int .i64 (L.v 0)) := k0.cell 0
  have b0 : W2.cell? ⟨r1, 0, none⟩ = some (.int .i64 (L.v 0)) := k1.cell 0
  have a1 : W2.cell? ⟨r0, 1, none⟩ = some (.int .i64 (L.v 1)) := k0.cell 1
  have b1 : W2.cell? ⟨r1, 1, none⟩ = some (.int .i64 (L.v 1)) := k1.cell 1
  have a2 : W2.cell? ⟨r0, 2, none⟩ = some (.int .i64 (L.v 2)) := k0.cell 2
  have b2 : W2.cell? ⟨r1, 2, none⟩ = some (.int .i64 (L.v 2)) := k1.cell 2
  have a3 : W2.cell? ⟨r0, 3, none⟩ = some (.int .i64 (L.v 3)) := k0.cell 3
  have b3 : W2.cell? ⟨r1, 3, none⟩ = some (.int .i64 (L.v 3)) := k1.cell 3
  have a4 : W2.cell? ⟨r0, 4, none⟩ = some (.slice A L.n c) := k0.cell 4
  have b4 : W2.cell? ⟨r1, 4, none⟩ = some (.slice B L.n d) := k1.cell 4
  have a5 : W2.cell? ⟨r0, 5, none⟩ = some (.int .i64 (L.v 5)) := k0.cell 5
  have b5 : W2.cell? ⟨r1, 5, none⟩ = some (.int .i64 (L.v 5)) := k1.cell 5
  have a6 : W2.cell? ⟨r0, 6, none⟩ = some (.int .i64 (L.v 6)) := k0.cell 6
  have b6 : W2.cell? ⟨r1, 6, none⟩ = some (.int .i64 (L.v 6)) := k1.cell 6
  have a7 : W2.cell? ⟨r0, 7, none⟩ = some (.int .i64 (L.v 7)) := k0.cell 7
  have b7 : W2.cell? ⟨r1, 7, none⟩ = some (.int .i64 (L.v 7)) := k1.cell 7
  have a8 : W2.cell? ⟨r0, 8, none⟩ = some (.int .i64 (L.v 8)) := k0.cell 8
  have b8 : W2.cell? ⟨r1, 8, none⟩ = some (.int .i64 (L.v 8)) := k1.cell 8
  have a9 : W2.cell? ⟨r0, 9, none⟩ = some (.int .i64 (L.v 9)) := k0.cell 9
  have b9 : W2.cell? ⟨r1, 9, none⟩ = some (.int .i64 (L.v 9)) := k1.cell 9
  have a10 : W2.cell? ⟨r0, 10, none⟩ = some (.int .i64 (L.v 10)) := k0.cell 10
  have b10 : W2.cell? ⟨r1, 10, none⟩ = some (.int .i64 (L.v 10)) := k1.cell 10
  have a11 : W2.cell? ⟨r0, 11, none⟩ = some (.int .i64 (L.v 11)) := k0.cell 11
  have b11 : W2.cell? ⟨r1, 11, none⟩ = some (.int .i64 (L.v 11)) := k1.cell 11
  have a12 : W2.cell? ⟨r0, 12, none⟩ = some (.int .i64 (L.v 12)) := k0.cell 12
  have b12 : W2.cell? ⟨r1, 12, none⟩ = some (.int .i64 (L.v 12)) := k1.cell 12
  have a13 : W2.cell? ⟨r0, 13, none⟩ = some (.int .i64 (L.v 13)) := k0.cell 13
  have b13 : W2.cell? ⟨r1, 13, none⟩ = some (.int .i64 (L.v 13)) := k1.cell 13
  have a14 : W2.cell? ⟨r0, 14, none⟩ = some (.int .i64 (L.v 14)) := k0.cell 14
  have b14 : W2.cell? ⟨r1, 14, none⟩ = some (.int .i64 (L.v 14)) := k1.cell 14
  have a15 : W2.cell? ⟨r0, 15, none⟩ = some (.int .i64 (L.v 15)) := k0.cell 15
  have b15 : W2.cell? ⟨r1, 15, none⟩ = some (.int .i64 (L.v 15)) := k1.cell 15
  have a16 : W2.cell? ⟨r0, 16, none⟩ = some (.int .i64 (L.v 16)) := k0.cell 16
  have b16 : W2.cell? ⟨r1, 16, none⟩ = some (.int .i64 (L.v 16)) := k1.cell 16
  have a17 : W2.cell? ⟨r0, 17, none⟩ = some (.int .i64 (L.v 17)) := k0.cell 17
  have b17 : W2.cell? ⟨r1, 17, none⟩ = some (.int .i64 (L.v 17)) := k1.cell 17
  have a18 : W2.cell? ⟨r0, 18, none⟩ = some (.int .i64 (L.v 18)) := k0.cell 18
  have b18 : W2.cell? ⟨r1, 18, none⟩ = some (.int .i64 (L.v 18)) := k1.cell 18
  have a19 : W2.cell? ⟨r0, 19, none⟩ = some (.int .i64 (L.v 19)) := k0.cell 19
  have b19 : W2.cell? ⟨r1, 19, none⟩ = some (.int .i64 (L.v 19)) := k1.cell 19
  have a20 : W2.cell? ⟨r0, 20, none⟩ = some (.int .i64 (L.v 20)) := k0.cell 20
  have b20 : W2.cell? ⟨r1, 20, none⟩ = some (.int .i64 (L.v 20)) := k1.cell 20
  clear k0 k1

  go_wp2_with fail
  go_loopw [5] (fun i wr => ∃ k q : Nat, k ≤ L.n ∧ i = .int .i64 k ∧ wr = W2.drewN q) (fun i _ => 1000001 - (intOf i).toNat)
  case atStart => exact ⟨0, 0, Nat.zero_le _, rfl, rfl⟩
  case round =>
    obtain ⟨k, q, hk, rfl, rfl⟩ := hrel
    by_cases hlt : k < L.n
    · have hk64 : (k : Int) < (L.n : Int) := by omega
      obtain ⟨ad, hA, s0, s1⟩ := HA.out.get hlt
      obtain ⟨ae, hB, t0, t1⟩ := HB.out.get (show k < M.n by rw [← HN.out]; exact hlt)
      rw [← HE.out k hlt] at t0 t1
      rw [hA] at a4
      rw [hB] at b4
      have HAE := Lib.hid hA
      have HBE := Lib.hid hB
      clear hA hB
      go_wp2_with fail
      go_quiet (fail)
      go_wp2_with fail
      go_roundw
      case rel => exact ⟨k + 1, _, by omega, by go_num, rfl⟩
      case measure => simp [intOf]; omega
    · have hk64 : ¬ (k : Int) < (L.n : Int) := by omega
      go_wp2_with fail
      go_ret
      exact ⟨rfl, X2.out.drewN q⟩
/-- Some answer, and all that was there is as it was. -/
def RetB (w : World) (e : Ending) (w' : World) : Prop := (∃ b, e = .returned (.bool b)) ∧ Ext w w'
set_option maxRecDepth 100000 in
set_option maxHeartbeats 8000000 in
theorem rsame_zero (L M : LayD) (A B : Option Addr) (c d : Nat) (w : World) (hM : M.n = 0) (ha : SeenP w A L.n L.sh) (hb : SeenP w B M.n M.sh) : Calls Tryd.prog 13 #[.agg (layC L A c).toArray, .agg (layC M B d).toArray] w (RetB w) := by
  obtain ⟨W2, hW2⟩ : ∃ W2, W2 = (w.alloc (.cells (layC L A c).toArray 24)).alloc (.cells (layC M B d).toArray 24) := ⟨_, rfl⟩
  have x2 : Ext w W2 := by rw [hW2]; exact ((Ext.refl w).alloc _).alloc _
  have k0 : Blk W2 w.heap.size 24 (layC L A c) := by rw [hW2]; exact (Blk.lit _ _ _ _ rfl).ext ((Ext.refl _).alloc _)
  have k1 : Blk W2 (w.heap.size + 1) 24 (layC M B d) := by rw [hW2]; exact Blk.lit _ _ _ _ (by simp)
  have HA := Lib.hid (ha.ext x2)
  have HB := Lib.hid (hb.ext x2)
  have X2 := Lib.hid x2
  clear ha hb x2
  go_enter Tryd.func13, Tryd.ntmps13
  go_upto_region 1 with (fail)
  rw [← hW2]
  generalize hr1 : w.heap.size + 1 = r1 at *
  generalize hr0 : w.heap.size = r0 at *
  clear hW2 hr1 hr0
  obtain ⟨V, hV⟩ : ∃ V, V = Value.agg (layC L A c).toArray := ⟨_, rfl⟩
  obtain ⟨U, hU⟩ : ∃ U, U = Value.agg (layC M B d).toArray := ⟨_, rfl⟩
  rw [← hV, ← hU]
  clear hV hU
  have a0 : W2.cell? ⟨r0, 0, none⟩ = some (.int .i64 (L.v 0)) := k0.cell 0
  have b0 : W2.cell? ⟨r1, 0, none⟩ = some (.int .i64 (M.v 0)) := k1.cell 0
  have a1 : W2.cell? ⟨r0, 1, none⟩ = some (.int .i64 (L.v 1)) := k0.cell 1
  have b1 : W2.cell? ⟨r1, 1, none⟩ = some (.int .i64 (M.v 1)) := k1.cell 1
  have a2 : W2.cell? ⟨r0, 2, none⟩ = some (.int .i64 (L.v 2)) := k0.cell 2
  have b2 : W2.cell? ⟨r1, 2, none⟩ = some (.int .i64 (M.v 2)) := k1.cell 2
  have a3 : W2.cell? ⟨r0, 3, none⟩ = some (.int .i64 (L.v 3)) := k0.cell 3
  have b3 : W2.cell? ⟨r1, 3, none⟩ = some (.int .i64 (M.v 3)) := k1.cell 3
  have a4 : W2.cell? ⟨r0, 4, none⟩ = some (.slice A L.n c) := k0.cell 4
  have b4 : W2.cell? ⟨r1, 4, none⟩ = some (.slice B M.n d) := k1.cell 4
  have a5 : W2.cell? ⟨r0, 5, none⟩ = some (.int .i64 (L.v 5)) := k0.cell 5
  have b5 : W2.cell? ⟨r1, 5, none⟩ = some (.int .i64 (M.v 5)) := k1.cell 5
  have a6 : W2.cell? ⟨r0, 6, none⟩ = some (.int .i64 (L.v 6)) := k0.cell 6
  have b6 : W2.cell? ⟨r1, 6, none⟩ = some (.int .i64 (M.v 6)) := k1.cell 6
  have a7 : W2.cell? ⟨r0, 7, none⟩ = some (.int .i64 (L.v 7)) := k0.cell 7
  have b7 : W2.cell? ⟨r1, 7, none⟩ = some (.int .i64 (M.v 7)) := k1.cell 7
  have a8 : W2.cell? ⟨r0, 8, none⟩ = some (.int .i64 (L.v 8)) := k0.cell 8
  have b8 : W2.cell? ⟨r1, 8, none⟩ = some (.int .i64 (M.v 8)) := k1.cell 8
  have a9 : W2.cell? ⟨r0, 9, none⟩ = some (.int .i64 (L.v 9)) := k0.cell 9
  have b9 : W2.cell? ⟨r1, 9, none⟩ = some (.int .i64 (M.v 9)) := k1.cell 9
  have a10 : W2.cell? ⟨r0, 10, none⟩ = some (.int .i64 (L.v 10)) := k0.cell 10
  have b10 : W2.cell? ⟨r1, 10, none⟩ = some (.int .i64 (M.v 10)) := k1.cell 10
  have a11 : W2.cell? ⟨r0, 11, none⟩ = some (.int .i64 (L.v 11)) := k0.cell 11
  have b11 : W2.cell? ⟨r1, 11, none⟩ = some (.int .i64 (M.v 11)) := k1.cell 11
  have a12 : W2.cell? ⟨r0, 12, none⟩ = some (.int .i64 (L.v 12)) := k0.cell 12
  have b12 : W2.cell? ⟨r1, 12, none⟩ = some (.int .i64 (M.v 12)) := k1.cell 12
  have a13 : W2.cell? ⟨r0, 13, none⟩ = some (.int .i64 (L.v 13)) := k0.cell 13
  have b13 : W2.cell? ⟨r1, 13, none⟩ = some (.int .i64 (M.v 13)) := k1.cell 13
  have a14 : W2.cell? ⟨r0, 14, none⟩ = some (.int .i64 (L.v 14)) := k0.cell 14
  have b14 : W2.cell? ⟨r1, 14, none⟩ = some (.int .i64 (M.v 14)) := k1.cell 14
  have a15 : W2.cell? ⟨r0, 15, none⟩ = some (.int .i64 (L.v 15)) := k0.cell 15
  have b15 : W2.cell? ⟨r1, 15, none⟩ = some (.int .i64 (M.v 15)) := k1.cell 15
  have a16 : W2.cell? ⟨r0, 16, none⟩ = some (.int .i64 (L.v 16)) := k0.cell 16
  have b16 : W2.cell? ⟨r1, 16, none⟩ = some (.int .i64 (M.v 16)) := k1.cell 16
  have a17 : W2.cell? ⟨r0, 17, none⟩ = some (.int .i64 (L.v 17)) := k0.cell 17
  have b17 : W2.cell? ⟨r1, 17, none⟩ = some (.int .i64 (M.v 17)) := k1.cell 17
  have a18 : W2.cell? ⟨r0, 18, none⟩ = some (.int .i64 (L.v 18)) := k0.cell 18
  have b18 : W2.cell? ⟨r1, 18, none⟩ = some (.int .i64 (M.v 18)) := k1.cell 18
  have a19 : W2.cell? ⟨r0, 19, none⟩ = some (.int .i64 (L.v 19)) := k0.cell 19
  have b19 : W2.cell? ⟨r1, 19, none⟩ = some (.int .i64 (M.v 19)) := k1.cell 19
  have a20 : W2.cell? ⟨r0, 20, none⟩ = some (.int .i64 (L.v 20)) := k0.cell 20
  have b20 : W2.cell? ⟨r1, 20, none⟩ = some (.int .i64 (M.v 20)) := k1.cell 20
  clear k0 k1

  rw [hM] at b4
  clear HA HB
  by_cases h0 : L.n = 0
  · rw [h0] at a4
    clear h0
    go_wp2_with fail
    go_loopw [5] (fun i wr => i = .int .i64 0 ∧ wr = W2) (fun _ _ => 0)
    case atStart => exact ⟨rfl, rfl⟩
    case round =>
      obtain ⟨rfl, rfl⟩ := hrel
      go_upto_region 8 with (fail)
      go_cut [6] from 33 to 86 (fun v wx => (∃ b, v = .bool b) ∧ wr = wx)
      case first =>
        go_wp2_with fail
        all_goals
          go_meet
          exact ⟨⟨_, rfl⟩, rfl⟩
      case rest =>
        obtain ⟨⟨b, rfl⟩, rfl⟩ := hcut
        go_upto_region 9 with (fail)
        go_cut [7] from 87 to 126 (fun v wx => (∃ b, v = .bool b) ∧ wr = wx)
        case first =>
          go_wp2_with fail
          all_goals
            go_meet
            exact ⟨⟨_, rfl⟩, rfl⟩
        case rest =>
          obtain ⟨⟨b', rfl⟩, rfl⟩ := hcut
          go_wp2_with fail
          all_goals
            go_ret
            exact ⟨⟨_, rfl⟩, X2.out⟩
  · have hne : ((L.n : Int) == 0) = false := by simp; omega
    have hlt : 0 < (L.n : Int) := by omega
    go_wp2_with fail
    go_ret
    exact ⟨⟨_, rfl⟩, X2.out⟩
end L14
end Go.Proofs.YteflkagilhmeiaaDoor

