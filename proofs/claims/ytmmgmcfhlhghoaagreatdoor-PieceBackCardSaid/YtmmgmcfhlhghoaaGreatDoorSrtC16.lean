/- sort.siftDown_func, heapSort_func, by a function that makes memory of its own. Any program. -/
import Derived.Test.YtmmgmcfhlhghoaaGreatDoorSrtA16
import Derived.Sort.WalkB2
import Derived.Sort.WalkB3
import Derived.Sort.WalkB12
import Derived.Deep.LoopGhost
namespace Go.Proofs.YtmmgmcfhlhghoaaGreatDoor
open Go.Shelf Go.RowKit
open Go.Sort hiding Below
open Go.Lib hiding intOf
namespace Srt16
variable {P : Program} {ρ : Ren} {α : Type} [Inhabited α] {g sf size blk base : Nat} {V : Value} {sb : Array Value} {lt : α → α → Bool} {S : Array α → World → Prop}

set_option maxHeartbeats 4000000 in
set_option maxRecDepth 1000000 in
theorem sift_any (L : LaysGg.n34 P ρ) (K : Srt P g sf V sb lt size blk base S) {d : Array α} {w : World} (h : S d w) (lo hi first : Nat) (hlo : lo ≤ hi) (hb : first + hi ≤ size) :
    Calls P (ρ.f 34) #[.agg #[.func (.func g) #[V] #[], .func (.func sf) #[] sb], .int .i64 lo, .int .i64 hi, .int .i64 first] w (Done S blk w (siftDown lt hi first lo d) (.tuple #[])) := by
  have mixed := L.mixed; have t0 := L.t0; have a0 := L.a0; have z0 := L.z0; have v0 := L.v0; have t3 := L.t3; have a3 := L.a3; have z3 := L.z3; have v3 := L.v3; have t4 := L.t4; have a4 := L.a4; have z4 := L.z4; have v4 := L.v4; have t26 := L.t26; have a26 := L.a26; have z26 := L.z26; have v26 := L.v26; have t37 := L.t37; have a37 := L.a37; have z37 := L.z37; have v37 := L.v37; have t44 := L.t44; have a44 := L.a44; have z44 := L.z44; have v44 := L.v44
  have u44 := run_underlying L.t44
  have eg := K.enter
  have hz := K.small
  have HI := Lib.hid (K.start h (ρ.t 44))
  have HK := Lib.hid K
  clear K h
  go_enter L.f34, BodyGg.n34_ntmps ρ
  go_wp2_with fail
  go_loopg [8] (hi - lo) (fun kx s8 wr => ∃ (root : Nat) (dk : Array α), s8 = .int .i64 root ∧ root ≤ hi ∧ hi - root ≤ kx ∧ Hid (In g sf V sb blk S w.heap.size w dk wr) ∧ Hid (siftDown lt hi first root dk = siftDown lt hi first lo d))
  case atStart => exact ⟨lo, d, rfl, hlo, Nat.le_refl _, HI, Lib.hid rfl⟩
  case round =>
    obtain ⟨root, dk, rfl, hr, hkx, HR, HE⟩ := hrel
    clear HI
    have c0 := HR.out.c0
    have c1 := HR.out.c1
    by_cases h0 : hi ≤ 2 * root + 1
    · have h0z : (hi : Int) ≤ 2 * (root : Int) + 1 := by omega
      go_wp2_with fail
      go_end0
      have q := HR.out
      rw [show dk = siftDown lt hi first lo d by rw [← HE.out, sd_end lt dk h0]] at q
      exact q.done
    · have h0z : ¬ ((hi : Int) ≤ 2 * (root : Int) + 1) := by omega
      by_cases h1 : 2 * root + 2 < hi
      · have h1z : 2 * (root : Int) + 1 + 1 < (hi : Int) := by omega
        cases hL : lt dk[first + (2 * root + 1)]! dk[first + (2 * root + 2)]! with
        | true =>
          have hl1 := HR.out.less HK.out (first + (2 * root + 1)) (first + (2 * root + 2)) ((first : Int) + (2 * (root : Int) + 1)) ((first : Int) + (2 * (root : Int) + 1) + 1) _ (by omega) (by omega) (by omega) (by omega) hL
          cases hG : lt dk[first + root]! dk[first + (2 * root + 2)]! with
          | true =>
            go_wp2_with (first | (go_at_fn g; refine hl1.mono ?_; rintro e w1 ⟨rfl, q1⟩; have hl2 := q1.less HK.out (first + root) (first + (2 * root + 2)) ((first : Int) + (root : Int)) ((first : Int) + (2 * (root : Int) + 1 + 1)) _ (by omega) (by omega) (by omega) (by omega) hG; have d0 := q1.c0; clear q1) | (go_at_fn g; refine hl2.mono ?_; rintro e w2 ⟨rfl, q2⟩; have d1 := q2.c1; obtain ⟨w3, hs, Q3⟩ := q2.swap HK.out (by omega) (first + root) (first + (2 * root + 2)) ((first : Int) + (root : Int)) ((first : Int) + (2 * (root : Int) + 1 + 1)) (by omega) (by omega) (by omega) (by omega); clear q2))
            go_roundg (hi - (2 * root + 2))
            case measure => omega
            case rel => exact ⟨2 * root + 2, swp dk (first + root) (first + (2 * root + 2)), by go_num, by omega, Nat.le_refl _, Q3, Lib.hid (by rw [← HE.out, sd_right_go lt dk h1 hL hG])⟩
          | false =>
            go_wp2_with (first | (go_at_fn g; refine hl1.mono ?_; rintro e w1 ⟨rfl, q1⟩; have hl2 := q1.less HK.out (first + root) (first + (2 * root + 2)) ((first : Int) + (root : Int)) ((first : Int) + (2 * (root : Int) + 1 + 1)) _ (by omega) (by omega) (by omega) (by omega) hG; have d0 := q1.c0; clear q1) | (go_at_fn g; refine hl2.mono ?_; rintro e w2 ⟨rfl, q2⟩; have Q2 := Lib.hid q2; clear q2))
            (try simp only [Exit.inBlock, Exit.then]); refine bodyPost_ret (results_none rfl _ _ _) rfl ?_
            have q := Q2.out
            rw [show dk = siftDown lt hi first lo d by rw [← HE.out, sd_right_stop lt dk h1 hL hG]] at q
            exact q.done
        | false =>
          have hl1 := HR.out.less HK.out (first + (2 * root + 1)) (first + (2 * root + 2)) ((first : Int) + (2 * (root : Int) + 1)) ((first : Int) + (2 * (root : Int) + 1) + 1) _ (by omega) (by omega) (by omega) (by omega) hL
          cases hG : lt dk[first + root]! dk[first + (2 * root + 1)]! with
          | true =>
            go_wp2_with (first | (go_at_fn g; refine hl1.mono ?_; rintro e w1 ⟨rfl, q1⟩; have hl2 := q1.less HK.out (first + root) (first + (2 * root + 1)) ((first : Int) + (root : Int)) ((first : Int) + (2 * (root : Int) + 1)) _ (by omega) (by omega) (by omega) (by omega) hG; have d0 := q1.c0; clear q1) | (go_at_fn g; refine hl2.mono ?_; rintro e w2 ⟨rfl, q2⟩; have d1 := q2.c1; obtain ⟨w3, hs, Q3⟩ := q2.swap HK.out (by omega) (first + root) (first + (2 * root + 1)) ((first : Int) + (root : Int)) ((first : Int) + (2 * (root : Int) + 1)) (by omega) (by omega) (by omega) (by omega); clear q2))
            go_roundg (hi - (2 * root + 1))
            case measure => omega
            case rel => exact ⟨2 * root + 1, swp dk (first + root) (first + (2 * root + 1)), by go_num, by omega, Nat.le_refl _, Q3, Lib.hid (by rw [← HE.out, sd_left_go lt dk (by omega) (fun _ => hL) hG])⟩
          | false =>
            go_wp2_with (first | (go_at_fn g; refine hl1.mono ?_; rintro e w1 ⟨rfl, q1⟩; have hl2 := q1.less HK.out (first + root) (first + (2 * root + 1)) ((first : Int) + (root : Int)) ((first : Int) + (2 * (root : Int) + 1)) _ (by omega) (by omega) (by omega) (by omega) hG; have d0 := q1.c0; clear q1) | (go_at_fn g; refine hl2.mono ?_; rintro e w2 ⟨rfl, q2⟩; have Q2 := Lib.hid q2; clear q2))
            (try simp only [Exit.inBlock, Exit.then]); refine bodyPost_ret (results_none rfl _ _ _) rfl ?_
            have q := Q2.out
            rw [show dk = siftDown lt hi first lo d by rw [← HE.out, sd_left_stop lt dk (by omega) (fun _ => hL) hG]] at q
            exact q.done
      · have h1z : ¬ (2 * (root : Int) + 1 + 1 < (hi : Int)) := by omega
        cases hG : lt dk[first + root]! dk[first + (2 * root + 1)]! with
        | true =>
          have hl2 := HR.out.less HK.out (first + root) (first + (2 * root + 1)) ((first : Int) + (root : Int)) ((first : Int) + (2 * (root : Int) + 1)) _ (by omega) (by omega) (by omega) (by omega) hG
          go_wp2_with (go_at_fn g; refine hl2.mono ?_; rintro e w2 ⟨rfl, q2⟩; have d1 := q2.c1; obtain ⟨w3, hs, Q3⟩ := q2.swap HK.out (by omega) (first + root) (first + (2 * root + 1)) ((first : Int) + (root : Int)) ((first : Int) + (2 * (root : Int) + 1)) (by omega) (by omega) (by omega) (by omega); clear q2)
          go_roundg (hi - (2 * root + 1))
          case measure => omega
          case rel => exact ⟨2 * root + 1, swp dk (first + root) (first + (2 * root + 1)), by go_num, by omega, Nat.le_refl _, Q3, Lib.hid (by rw [← HE.out, sd_left_go lt dk (by omega) (fun h => absurd h h1) hG])⟩
        | false =>
          have hl2 := HR.out.less HK.out (first + root) (first + (2 * root + 1)) ((first : Int) + (root : Int)) ((first : Int) + (2 * (root : Int) + 1)) _ (by omega) (by omega) (by omega) (by omega) hG
          go_wp2_with (go_at_fn g; refine hl2.mono ?_; rintro e w2 ⟨rfl, q2⟩; have Q2 := Lib.hid q2; clear q2)
          (try simp only [Exit.inBlock, Exit.then]); refine bodyPost_ret (results_none rfl _ _ _) rfl ?_
          have q := Q2.out
          rw [show dk = siftDown lt hi first lo d by rw [← HE.out, sd_left_stop lt dk (by omega) (fun h => absurd h h1) hG]] at q
          exact q.done

set_option maxHeartbeats 4000000 in
set_option maxRecDepth 1000000 in
theorem heap_any (L : LaysGg.n27 P ρ) (K : Srt P g sf V sb lt size blk base S) (h2 : 2 ≤ size) {d : Array α} {w : World} (h : S d w) (a b : Nat) (hab : a ≤ b) (hb : b ≤ size) :
    Calls P (ρ.f 27) #[.agg #[.func (.func g) #[V] #[], .func (.func sf) #[] sb], .int .i64 a, .int .i64 b] w (Done S blk w (heapSort lt d a b) (.tuple #[])) := by
  have mixed := L.mixed; have t0 := L.t0; have a0 := L.a0; have z0 := L.z0; have v0 := L.v0; have t3 := L.t3; have a3 := L.a3; have z3 := L.z3; have v3 := L.v3; have t4 := L.t4; have a4 := L.a4; have z4 := L.z4; have v4 := L.v4; have t26 := L.t26; have a26 := L.a26; have z26 := L.z26; have v26 := L.v26; have t37 := L.t37; have a37 := L.a37; have z37 := L.z37; have v37 := L.v37; have t44 := L.t44; have a44 := L.a44; have z44 := L.z44; have v44 := L.v44
  have u44 := run_underlying L.t44
  have e34 : ∀ args w, (callFunc (ρ.f 34) args).run P w = .ok (.enter (ρ.f 34) args) w := enters_of L.f34 (by kernel_rfl) rfl
  have ecast : ((b - a : Nat) : Int) = (b : Int) - (a : Int) := by omega
  have hz := K.small
  have HI := Lib.hid (K.start h (ρ.t 44))
  have HK := Lib.hid K
  clear K h
  go_enter L.f27, BodyGg.n27_ntmps ρ
  go_wp2_with fail
  go_loopg [9] ((b - a - 1) / 2 + 1) (fun kx s9 wr => s9 = .int .i64 ((kx : Int) - 1) ∧ kx ≤ (b - a - 1) / 2 + 1 ∧ ∃ (dk : Array α), Hid (In g sf V sb blk S w.heap.size w dk wr) ∧ Hid (heapBuild lt (b - a) a kx dk = heapBuild lt (b - a) a ((b - a - 1) / 2 + 1) d))
  case atStart => exact ⟨by rw [half_start hab], Nat.le_refl _, d, HI, Lib.hid rfl⟩
  case round =>
    obtain ⟨rfl, hkk, dk, HR, HE⟩ := hrel
    clear HI
    have c0 := HR.out.c0
    have c1 := HR.out.c1
    cases gk with
    | zero =>
      have HB : Hid (dk = heapBuild lt (b - a) a ((b - a - 1) / 2 + 1) d) := HE.out
      clear HE hkk
      go_wp2_with fail
      go_loopg [10] (b - a) (fun kx s10 wr2 => s10 = .int .i64 ((kx : Int) - 1) ∧ kx ≤ b - a ∧ ∃ (dj : Array α), Hid (In g sf V sb blk S w.heap.size w dj wr2) ∧ Hid (heapPop lt a kx dj = heapPop lt a (b - a) dk))
      case atStart => exact ⟨by rw [ecast], Nat.le_refl _, dk, HR, Lib.hid rfl⟩
      case round =>
        clear HR c0 c1
        obtain ⟨rfl, hkk, dj, HR, HE⟩ := hrel
        have c0 := HR.out.c0
        have c1 := HR.out.c1
        cases gk with
        | zero =>
          go_wp2_with fail
          go_end0
          have q := HR.out
          rw [show dj = heapSort lt d a b by rw [heapSort, ← HB.out, ← HE.out]; rfl] at q
          exact q.done
        | succ kx =>
          obtain ⟨w2, hs, Q2⟩ := HR.out.swap HK.out (by omega) a (a + kx) (a : Int) ((a : Int) + (kx : Int)) rfl (by omega) (by omega) (by omega)
          have d0 := Q2.out.c0
          have d1 := Q2.out.c1
          have hcall := sift_any (P := P) (ρ := ρ) { L with } HK.out Q2.out.s 0 kx a (Nat.zero_le _) (by omega)
          go_wp2_with (go_at_fn (ρ.f 34); refine hcall.mono ?_; rintro e w1 ⟨rfl, q3, x3⟩)
          go_roundg kx
          case measure => omega
          case rel => exact ⟨by simp, by omega, siftDown lt kx a 0 (swp dj a (a + kx)), Lib.hid (Q2.out.call q3 x3), HE⟩
    | succ kx =>
      have hcall := sift_any (P := P) (ρ := ρ) { L with } HK.out HR.out.s kx (b - a) a (by omega) (by omega)
      rw [ecast] at hcall
      go_wp2_with (go_at_fn (ρ.f 34); refine hcall.mono ?_; rintro e w1 ⟨rfl, q3, x3⟩)
      go_roundg kx
      case measure => omega
      case rel => exact ⟨by simp, by omega, siftDown lt (b - a) a kx dk, Lib.hid (HR.out.call q3 x3), HE⟩
end Srt16
end Go.Proofs.YtmmgmcfhlhghoaaGreatDoor

