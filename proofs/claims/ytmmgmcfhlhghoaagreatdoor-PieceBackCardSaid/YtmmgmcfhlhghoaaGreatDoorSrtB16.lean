/- sort.insertionSort_func, siftDown_func, heapSort_func, by a function that makes memory of its own. Any program. -/
import Derived.Test.YtmmgmcfhlhghoaaGreatDoorSrtA16
import Derived.Sort.WalkB2
import Derived.Sort.WalkB3
import Derived.Sort.WalkB12
import Derived.Deep.LoopGhost
namespace Go.Proofs.YtmmgmcfhlhghoaaGreatDoor
open Go.Shelf Go.RowKit
open Go.Sort hiding Below
open Go.Lib hiding intOf
namespace Srt16
variable {P : Program} {ρ : Ren} {α : Type} [Inhabited α] {g sf size blk base : Nat} {V : Value} {sb : Array Value} {lt : α → α → Bool} {S : Array α → World → Prop}

set_option maxHeartbeats 2000000 in
set_option maxRecDepth 100000 in
theorem ins_any (L : LaysGg.n26 P ρ) (K : Srt P g sf V sb lt size blk base S) {d : Array α} {w : World} (h : S d w) (a b : Nat) (hab : a ≤ b) (hb : b ≤ size) :
    Calls P (ρ.f 26) #[.agg #[.func (.func g) #[V] #[], .func (.func sf) #[] sb], .int .i64 a, .int .i64 b] w (Done S blk w (Sort.insertionSort lt d a b) (.tuple #[])) := by
  have mixed := L.mixed; have t0 := L.t0; have a0 := L.a0; have z0 := L.z0; have v0 := L.v0; have t3 := L.t3; have a3 := L.a3; have z3 := L.z3; have v3 := L.v3; have t4 := L.t4; have a4 := L.a4; have z4 := L.z4; have v4 := L.v4; have t26 := L.t26; have a26 := L.a26; have z26 := L.z26; have v26 := L.v26; have t37 := L.t37; have a37 := L.a37; have z37 := L.z37; have v37 := L.v37; have t44 := L.t44; have a44 := L.a44; have z44 := L.z44; have v44 := L.v44
  have u44 := run_underlying L.t44
  have eg := K.enter
  have hz := K.small
  have HI := Lib.hid (K.start h (ρ.t 44))
  have HK := Lib.hid K
  clear K h
  go_enter L.f26, BodyGg.n26_ntmps ρ
  go_wp2_with fail
  go_loopw [6] (fun vi wr => ∃ (i : Nat) (dk : Array α), vi = .int .i64 i ∧ a < i ∧ i ≤ b + 1 ∧ Hid (In g sf V sb blk S w.heap.size w dk wr) ∧ Hid (insOuter lt a b i dk = insOuter lt a b (a + 1) d)) (fun vi _ => b + 1 - (intOf vi).toNat)
  case atStart => exact ⟨a + 1, d, by go_num, by omega, by omega, HI, Lib.hid rfl⟩
  case round =>
    obtain ⟨i, dk, rfl, hai, hib, HR, HO⟩ := hrel
    clear HI
    by_cases hlt : i < b
    · have hltz : (i : Int) < (b : Int) := by omega
      go_wp2_with fail
      go_loopw [7] (fun vj wr2 => ∃ (j : Nat) (dj : Array α), vj = .int .i64 j ∧ a ≤ j ∧ j ≤ i ∧ Hid (In g sf V sb blk S w.heap.size w dj wr2) ∧ Hid (insInner lt a j dj = insInner lt a i dk)) (fun vj _ => (intOf vj).toNat)
      case atStart => exact ⟨i, dk, rfl, by omega, Nat.le_refl _, HR, Lib.hid rfl⟩
      case round =>
        obtain ⟨j, dj, rfl, haj, hji, HW, HJ⟩ := hrel
        clear HR
        have c0 := HW.out.c0
        have out : (j ≤ a ∨ lt dj[j]! dj[j - 1]! = false) → ∀ wq, Hid (In g sf V sb blk S w.heap.size w dj wq) → ∃ (i' : Nat) (dk' : Array α), Value.int .i64 ((i : Int) + 1) = .int .i64 (i' : Nat) ∧ a < i' ∧ i' ≤ b + 1 ∧ Hid (In g sf V sb blk S w.heap.size w dk' wq) ∧ Hid (insOuter lt a b i' dk' = insOuter lt a b (a + 1) d) := fun hs wq q =>
          ⟨i + 1, dj, by go_num, by omega, by omega, q, Lib.hid (by rw [← HO.out, insOuter_go _ _ _ _ _ hlt, ← HJ.out, insInner_stop _ _ _ _ hs])⟩
        have OUT := Lib.hid out
        clear out
        by_cases hja : a < j
        · have hjz : (a : Int) < (j : Int) := by omega
          cases hlv : lt dj[j]! dj[j - 1]! with
          | true =>
            have hl := HW.out.less HK.out j (j - 1) (j : Int) ((j : Int) - 1) _ rfl (by omega) (by omega) (by omega) hlv
            go_wp2_with (go_at_fn g; refine hl.mono ?_; rintro e w1 ⟨rfl, q1⟩; have c1 := q1.c1; obtain ⟨w2, hs, Q2⟩ := q1.swap HK.out (by omega) j (j - 1) (j : Int) ((j : Int) - 1) rfl (by omega) (by omega) (by omega); clear q1)
            go_roundw
            case rel =>
              exact ⟨j - 1, swp dj j (j - 1), by congr 1 <;> omega, by omega, by omega, Q2, Lib.hid (by rw [← HJ.out, insInner_go lt a j dj hja hlv])⟩
            case measure => simp [intOf]; omega
          | false =>
            have hl := HW.out.less HK.out j (j - 1) (j : Int) ((j : Int) - 1) _ rfl (by omega) (by omega) (by omega) hlv
            go_wp2_with (go_at_fn g; refine hl.mono ?_; rintro e w1 ⟨rfl, q1⟩; have Q1 := Lib.hid q1; clear q1)
            go_roundw
            case rel => exact OUT.out (Or.inr hlv) _ Q1
            case measure => simp [intOf]; omega
        · have hjz : ¬ (a : Int) < (j : Int) := by omega
          go_wp2_with fail
          go_roundw
          case rel => exact OUT.out (Or.inl (by omega)) _ HW
          case measure => simp [intOf]; omega
    · have hltz : ¬ (i : Int) < (b : Int) := by omega
      go_wp2_with fail
      go_end0
      have q := HR.out
      rw [show dk = Sort.insertionSort lt d a b by unfold Sort.insertionSort; rw [← HO.out, insOuter_stop _ _ _ _ _ hlt]] at q
      exact q.done
end Srt16
end Go.Proofs.YtmmgmcfhlhghoaaGreatDoor

