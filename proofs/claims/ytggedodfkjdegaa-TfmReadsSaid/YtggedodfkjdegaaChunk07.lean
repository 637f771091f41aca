/- slices.Chunk over a slice of integers, four by four. -/
import Derived.Test.YtggedodfkjdegaaFenced
import Derived.Test.YtggedodfkjdegaaKeep
import Derived.WalkKit
import Derived.ProofKit
namespace Go.Proofs.Ytggedodfkjdegaa
open Go.RowKit
namespace L07

attribute [local go_sem] Oper.semAt_some

/-- slices.Chunk(s, 4): both are boxed; the function value captures the boxes. -/
theorem chunk_any (A : Option Addr) (n c : Nat) (w : World) : Calls Try.prog 30 #[.slice A n c, .int .i64 4] w (fun e w' =>
    e = .returned (.func (.func 43) #[] #[.pointer (some ⟨w.heap.size, 0, none⟩), .pointer (some ⟨w.heap.size + 1, 0, none⟩)]) ∧ w' = (w.alloc (.cells #[.slice A n c] 25)).alloc (.cells #[.int .i64 4] 3)) := by
  go_enter Try.func30, Try.ntmps30
  go_wp2_with fail
  go_ret
  exact ⟨rfl, rfl⟩

/-- Blocks b and b + 1 are as they were. -/
def KpC (b : Nat) (W W' : World) : Prop := W'.heap[b]? = W.heap[b]? ∧ W'.heap[b + 1]? = W.heap[b + 1]?
theorem KpC.trans {b : Nat} {A B C : World} (h : KpC b A B) (k : KpC b B C) : KpC b A C := ⟨k.1.trans h.1, k.2.trans h.2⟩
/-- What has come when k rounds are over. -/
def upC (N k : Nat) : List (Fin N) := (List.finRange N).take k
theorem upC_succ {N k : Nat} (h : k < N) : upC N (k + 1) = upC N k ++ [⟨k, h⟩] := by
  unfold upC
  rw [List.take_succ_eq_append_getElem (by simpa using h)]
  simp
theorem upC_length {N k : Nat} (h : k ≤ N) : (upC N k).length = k := by simp [upC, h]
theorem upC_all (N : Nat) : upC N N = List.finRange N := by unfold upC; exact List.take_of_length_le (by simp)

set_option maxRecDepth 100000 in
set_option maxHeartbeats 4000000 in
theorem chunk1_in (n l b N c : Nat) (A : Option Addr) (ad : Addr) (M : Nat) (hM : Hid (M = 4 * N)) (hA : 0 < N → A = some ad) (hc : M ≤ c) (_ : c ≤ 9223372036854775807) (hMm : M ≤ 1000000000) (J Jx : List (Fin N) → World → Prop) (hD : ∀ pre W, J pre W → J pre W.drew)
    (hY : ∀ pre x W, J pre W → pre.length < N → YieldAt Fence.wide (n - 1) Try.prog l #[.slice (some (ad.add (4 * x.val))) 4 4] W fun e W' =>
      (e = .returned (.bool true) ∧ J (pre ++ [x]) W' ∧ KpC b W W') ∨ (e = .returned (.bool false) ∧ Jx (pre ++ [x]) W'))
    (W : World) (hs : W.heap[b]? = some (.cells #[.slice A M c] 25 (0, 0))) (h4 : W.heap[b + 1]? = some (.cells #[.int .i64 4] 3 (0, 0))) (h0 : J [] W) :
    CallsIn Fence.wide n Try.prog 43 #[.func (.yield l) #[] #[], .pointer (some ⟨b, 0, none⟩), .pointer (some ⟨b + 1, 0, none⟩)] W fun e W' => (∃ v, e = .returned v) ∧
      ((∃ ys, ys = List.finRange N ∧ J ys W') ∨ (∃ pre, True ∧ Jx pre W')) := by
  refine callsIn_of_wp Try.func43 rfl trivial ?_ rfl
  simp only [Try.ntmps43, List.size_toArray, List.length_cons, List.length_nil, Nat.reduceAdd, Nat.reduceSub, Array.replicate_succ, Array.replicate_zero, List.push_toArray, List.append_toArray, List.nil_append, List.cons_append]
  gi_wp2
  gi_loopw [4] (fun i wr => ∃ k j : Nat, k ≤ N ∧ Hid (j = 4 * k) ∧ i = .int .i64 j ∧ J (upC N k) wr ∧ KpC b W wr) (fun i _ => M - (intOf i).toNat)
  case atStart => exact ⟨0, 0, Nat.zero_le _, rfl, rfl, h0, rfl, rfl⟩
  case round =>
    obtain ⟨k, j, hk, hj, rfl, hJ, kp⟩ := hrel
    have hs' : Boxed wr b 25 (.slice A M c) := kp.1.trans hs
    have h4' : Boxed wr (b + 1) 3 (.int .i64 4) := kp.2.trans h4
    have q0 := hs'.cell
    have q1 := h4'.cell
    by_cases hlt : k < N
    · obtain rfl := hA (by omega)
      have hlj : j < M := by have := hj.out; have := hM.out; omega
      have hlj4 : j + 4 ≤ M := by have := hj.out; have := hM.out; omega
      have hjM : (j : Int) ≤ (M : Int) := by omega
      have hcj : ¬ c = j := by omega
      have hcj' : ¬ j = c := by omega
      have hmn : (4 : Int) ≤ ((M - j : Nat) : Int) := by omega
      obtain ⟨fn, tmps, assign, body, hy, hR⟩ := hY _ ⟨k, hlt⟩ wr.drew (hD _ _ hJ) (by rw [upC_length hk]; exact hlt)
      dsimp only at hy
      rw [← hj.out] at hy
      gi_wp2
      refine wpIn_region_plain (S := (fun w' => w'.cell? ⟨b, 0, none⟩ = some (.slice (some ad) M c) ∧ w'.cell? ⟨b + 1, 0, none⟩ = some (.int .i64 4))) (by kernel_rfl) (by kernel_rfl) ⟨q0, q1⟩ (fun h0 => ?_)
      refine wpAnyH_take (i := 0) (oi := ?_) (v := ?_) ?_ (by kernel_rfl) (by kernel_rfl) (by kernel_rfl) ?_ ?_ h0 ?_
      rotate_left 2
      · simp only [List.getElem?_toArray, List.getElem?_cons_zero]; rfl
      · exact fun _ _ _ h => h
      · refine Or.inl ⟨by rfl, ?_⟩
        intro w hSw
        (try dsimp only at hSw)
        go_simp
        (try with_reducible rfl)
      (try simp only [Act.put, List.setIfInBounds_toArray, List.set_cons_zero, List.set_cons_succ])
      refine wpAnyH_take (i := 1) (oi := ?_) (v := ?_) ?_ (by kernel_rfl) (by kernel_rfl) (by kernel_rfl) ?_ ?_ h0 ?_
      rotate_left 2
      · simp only [List.getElem?_toArray, List.getElem?_cons_zero, List.getElem?_cons_succ]; rfl
      · exact fun _ _ _ h => h
      · refine Or.inl ⟨by rfl, ?_⟩
        intro w hSw
        (try dsimp only at hSw)
        go_simp
        (try with_reducible rfl)
      (try simp only [Act.put, List.setIfInBounds_toArray, List.set_cons_zero, List.set_cons_succ])
      refine wpAnyH_take (i := 2) (oi := ?_) (v := ?_) ?_ (by kernel_rfl) (by kernel_rfl) (by kernel_rfl) ?_ ?_ h0 ?_
      rotate_left 2
      · simp only [List.getElem?_toArray, List.getElem?_cons_zero, List.getElem?_cons_succ]; rfl
      · exact fun _ _ _ h => h
      · refine Or.inl ⟨by rfl, ?_⟩
        intro w hSw
        (try dsimp only at hSw)
        go_simp
        (try with_reducible rfl)
      (try simp only [Act.put, List.setIfInBounds_toArray, List.set_cons_zero, List.set_cons_succ])
      refine wpAnyH_take (i := 3) (oi := ?_) (v := ?_) ?_ (by kernel_rfl) (by kernel_rfl) (by kernel_rfl) ?_ ?_ h0 ?_
      rotate_left 2
      · simp only [List.getElem?_toArray, List.getElem?_cons_zero, List.getElem?_cons_succ]; rfl
      · exact fun _ _ _ h => h
      · refine Or.inl ⟨by rfl, ?_⟩
        intro w hSw
        (try dsimp only at hSw)
        go_simp
        (try with_reducible rfl)
      (try simp only [Act.put, List.setIfInBounds_toArray, List.set_cons_zero, List.set_cons_succ])
      refine wpAnyH_take (i := 4) (oi := ?_) (v := ?_) ?_ (by kernel_rfl) (by kernel_rfl) (by kernel_rfl) ?_ ?_ h0 ?_
      rotate_left 2
      · simp only [List.getElem?_toArray, List.getElem?_cons_zero, List.getElem?_cons_succ]; rfl
      · exact fun _ _ _ h => h
      · refine Or.inl ⟨by rfl, ?_⟩
        intro w hSw
        (try dsimp only at hSw)
        go_simp
        (try with_reducible rfl)
      (try simp only [Act.put, List.setIfInBounds_toArray, List.set_cons_zero, List.set_cons_succ])
      refine wpAnyH_take (i := 5) (oi := ?_) (v := ?_) ?_ (by kernel_rfl) (by kernel_rfl) (by kernel_rfl) ?_ ?_ h0 ?_
      rotate_left 2
      · simp only [List.getElem?_toArray, List.getElem?_cons_zero, List.getElem?_cons_succ]; rfl
      · exact fun _ _ _ h => h
      · refine Or.inl ⟨by rfl, ?_⟩
        intro w hSw
        (try dsimp only at hSw)
        go_simp
        (try with_reducible rfl)
      (try simp only [Act.put, List.setIfInBounds_toArray, List.set_cons_zero, List.set_cons_succ])
      refine wpAnyH_take (i := 6) (oi := ?_) (v := ?_) ?_ (by kernel_rfl) (by kernel_rfl) (by kernel_rfl) ?_ ?_ h0 ?_
      rotate_left 2
      · simp only [List.getElem?_toArray, List.getElem?_cons_zero, List.getElem?_cons_succ]; rfl
      · exact fun _ _ _ h => h
      · refine Or.inl ⟨by rfl, ?_⟩
        intro w hSw
        (try dsimp only at hSw)
        go_simp
        (try with_reducible rfl)
      (try simp only [Act.put, List.setIfInBounds_toArray, List.set_cons_zero, List.set_cons_succ])
      refine wpAnyH_done (by kernel_rfl) ?_ _
      refine OnlyN.normal ?_
      have hm4 : ¬ ((M - j : Nat) : Int) < 4 := by omega
      simp only [if_neg hm4]
      clear h0
      have q0 : wr.drew.cell? ⟨b, 0, none⟩ = some (.slice (some ad) M c) := q0
      have q1 : wr.drew.cell? ⟨b + 1, 0, none⟩ = some (.int .i64 4) := q1
      have kp : KpC b W wr.drew := kp
      generalize wr.drew = wd at *
      gi_wp2
      refine ⟨fun h => by simp [Fence.wide] at h, hR.mono ?_⟩
      rintro e W3 (⟨rfl, hJ3, hk3⟩ | ⟨rfl, hJx3⟩)
      · have kp3 := kp.trans hk3
        have b3 : Boxed W3 (b + 1) 3 (.int .i64 4) := kp3.2.trans h4
        have q3 := b3.cell
        gi_wp2
        go_roundw
        case rel => exact ⟨k + 1, j + 4, by omega, by show j + 4 = 4 * (k + 1); have := hj.out; omega, by go_num, by rw [upC_succ hlt]; exact hJ3, kp3⟩
        case measure => simp [intOf]; omega
      · gi_wp2
        refine bodyPost_ret (results_none rfl _ _ _) rfl ?_
        exact ⟨⟨_, rfl⟩, .inr ⟨_, trivial, hJx3⟩⟩
    · obtain rfl : k = N := by omega
      obtain rfl : j = M := by have := hj.out; have := hM.out; omega
      gi_wp2
      go_end0
      exact ⟨⟨_, rfl⟩, .inl ⟨_, upC_all k, hJ⟩⟩
end L07
end Go.Proofs.Ytggedodfkjdegaa

