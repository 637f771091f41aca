/- sort.partialInsertionSort_func, by a function that makes memory of its own. Any program. -/
import Derived.Test.YtmmgmcfhlhghoaaGreatDoorSrtA16
import Derived.Sort.WalkA6
import Derived.Sort.WalkB2
import Derived.Deep.LoopGhost
namespace Go.Proofs.YtmmgmcfhlhghoaaGreatDoor
open Go.Shelf Go.RowKit
open Go.Sort hiding Below
open Go.Lib hiding intOf
namespace Srt16
variable {P : Program} {ρ : Ren} {α : Type} [Inhabited α] {g sf size blk base : Nat} {V : Value} {sb : Array Value} {lt : α → α → Bool} {S : Array α → World → Prop}

set_option maxHeartbeats 16000000 in
set_option maxRecDepth 1000000 in
theorem partIns_any (L : LaysGg.n31 P ρ) (K : Srt P g sf V sb lt size blk base S) {d : Array α} {w : World} (h : S d w) (a b : Nat) (hab : a < b) (hb : b ≤ size) :
    Calls P (ρ.f 31) #[.agg #[.func (.func g) #[V] #[], .func (.func sf) #[] sb], .int .i64 a, .int .i64 b] w (Done S blk w (Sort.partialInsertionSort lt d a b).1 (.bool (Sort.partialInsertionSort lt d a b).2)) := by
  have mixed := L.mixed; have t0 := L.t0; have a0 := L.a0; have z0 := L.z0; have v0 := L.v0; have t3 := L.t3; have a3 := L.a3; have z3 := L.z3; have v3 := L.v3; have t4 := L.t4; have a4 := L.a4; have z4 := L.z4; have v4 := L.v4; have t26 := L.t26; have a26 := L.a26; have z26 := L.z26; have v26 := L.v26; have t37 := L.t37; have a37 := L.a37; have z37 := L.z37; have v37 := L.v37; have t44 := L.t44; have a44 := L.a44; have z44 := L.z44; have v44 := L.v44
  have u44 := run_underlying L.t44
  have eg := K.enter
  have hz := K.small
  have HI := Lib.hid (K.start h (ρ.t 44))
  have HK := Lib.hid K
  clear K h
  go_enter L.f31, BodyGg.n31_ntmps ρ
  go_wp2_with fail
  go_loopg [7, 8] 5 (fun g1 vi vs wx => ∃ (i s : Nat) (dk : Array α), vi = .int .i64 i ∧ vs = .int .i64 s ∧ s ≤ 5 ∧ 5 - s ≤ g1 ∧ a < i ∧ i ≤ b ∧ Hid (In g sf V sb blk S w.heap.size w dk wx) ∧ Hid (partialIns lt a b (5 - s) i dk = partialIns lt a b 5 (a + 1) d))
  case atStart => exact ⟨a + 1, 0, d, by go_num, rfl, by omega, by omega, by omega, by omega, HI, Lib.hid rfl⟩
  case round =>
    obtain ⟨i, s, dk, rfl, rfl, hs5, hg1, hai, hib, HR, HO⟩ := hrel
    clear HI
    by_cases hs : s < 5
    · have hsz5 : (s : Int) < 5 := by omega
      go_wp2_with fail
      go_loopg [7] (b - i) (fun g2 vi wx => ∃ (kx : Nat), vi = .int .i64 kx ∧ i ≤ kx ∧ kx ≤ b ∧ b - kx ≤ g2 ∧ Hid (In g sf V sb blk S w.heap.size w dk wx) ∧ Hid (scanSorted lt dk b kx = scanSorted lt dk b i))
      case atStart => exact ⟨i, rfl, Nat.le_refl _, hib, Nat.le_refl _, HR, Lib.hid rfl⟩
      case round =>
        obtain ⟨kx, rfl, hik, hkb, hg2, HW, HSc⟩ := hrel
        clear HR
        have c0 := HW.out.c0
        by_cases hkb' : kx < b
        · have hkz : (kx : Int) < (b : Int) := by omega
          cases hlv : lt dk[kx]! dk[kx - 1]! with
          | false =>
            have hl := HW.out.less HK.out kx (kx - 1) (kx : Int) ((kx : Int) - 1) _ rfl (by omega) (by omega) (by omega) hlv
            go_wp2_with (go_at_fn g; refine hl.mono ?_; rintro e w1 ⟨rfl, q1⟩; have q1s := Lib.hid q1; clear q1)
            go_roundg (b - (kx + 1))
            case measure => omega
            case rel => exact ⟨kx + 1, by go_num, by omega, by omega, Nat.le_refl _, q1s, Lib.hid (by rw [← HSc.out, scanSorted_go lt dk b kx hkb' hlv])⟩
          | true =>
            have hl := HW.out.less HK.out kx (kx - 1) (kx : Int) ((kx : Int) - 1) _ rfl (by omega) (by omega) (by omega) hlv
            have HSK : Hid (scanSorted lt dk b i = kx) := by show _ = _; rw [← HSc.out, scanSorted_stop lt dk b kx (Or.inr hlv)]
            have hkne : ((kx : Int) == (b : Int)) = false := beq_eq_false_iff_ne.2 (by omega)
            by_cases h50 : b - a < 50
            · have h50z : (b : Int) - (a : Int) < 50 := by omega
              go_wp2_with (go_at_fn g; refine hl.mono ?_; rintro e w1 ⟨rfl, q1⟩; have q1s := Lib.hid q1; clear q1)
              go_ret
              rw [show Sort.partialInsertionSort lt d a b = (dk, false) by unfold Sort.partialInsertionSort; rw [← HO.out, pi_short lt a b s i dk hs (by rw [HSK.out]; omega) h50]]
              exact q1s.out.done
            · have h50z : ¬ ((b : Int) - (a : Int) < 50) := by omega
              by_cases hka : kx - a ≥ 2
              · have hkaz : (2 : Int) ≤ (kx : Int) - (a : Int) := by omega
                go_wp2_with (go_at_fn g; refine hl.mono ?_; rintro e w1 ⟨rfl, q1⟩; have d1 := q1.c1; obtain ⟨w1s, hsw1, q1s⟩ := q1.swap HK.out (by omega) kx (kx - 1) (kx : Int) ((kx : Int) - 1) rfl (by omega) (by omega) (by omega); clear q1)
                go_loopg [9] (kx - 1) (fun g3 vj wx => ∃ (j : Nat) (dj : Array α), vj = .int .i64 j ∧ j ≤ kx - 1 ∧ j ≤ g3 ∧ Hid (In g sf V sb blk S w.heap.size w dj wx) ∧ Hid (shiftDown lt j dj = shiftDown lt (kx - 1) (swp dk kx (kx - 1))))
                case atStart => exact ⟨kx - 1, swp dk kx (kx - 1), by congr 1; omega, Nat.le_refl _, Nat.le_refl _, q1s, Lib.hid rfl⟩
                case round =>
                  clear q1s
                  obtain ⟨j, dj, rfl, hjk, hg3, HY, HDn⟩ := hrel
                  have c0 := HY.out.c0
                  by_cases hj1 : 1 ≤ j
                  · have hj1z : (1 : Int) ≤ (j : Int) := by omega
                    cases hlv2 : lt dj[j]! dj[j - 1]! with
                    | true =>
                      have hl2 := HY.out.less HK.out j (j - 1) (j : Int) ((j : Int) - 1) _ rfl (by omega) (by omega) (by omega) hlv2
                      go_wp2_with (go_at_fn g; refine hl2.mono ?_; rintro e w3 ⟨rfl, q3⟩; have d1 := q3.c1; obtain ⟨w3s, hsw3, q3s⟩ := q3.swap HK.out (by omega) j (j - 1) (j : Int) ((j : Int) - 1) rfl (by omega) (by omega) (by omega); clear q3)
                      go_roundg (j - 1)
                      case measure => omega
                      case rel => exact ⟨j - 1, swp dj j (j - 1), by congr 1; omega, by omega, Nat.le_refl _, q3s, Lib.hid (by rw [← HDn.out, shiftDown_go lt j dj hj1 hlv2])⟩
                    | false =>
                      have hl2 := HY.out.less HK.out j (j - 1) (j : Int) ((j : Int) - 1) _ rfl (by omega) (by omega) (by omega) hlv2
                      have HD : Hid (fixDown lt a kx (swp dk kx (kx - 1)) = dj) := by show _ = _; unfold fixDown; rw [if_pos hka, ← HDn.out, shiftDown_stop lt j dj (Or.inr hlv2)]
                      by_cases hbk : b - kx ≥ 2
                      · have hbkz : (2 : Int) ≤ (b : Int) - (kx : Int) := by omega
                        go_wp2_with (go_at_fn g; refine hl2.mono ?_; rintro e w3 ⟨rfl, q3⟩; have q3s := Lib.hid q3; clear q3)
                        go_loopg [10] (b - (kx + 1)) (fun g4 vj wx => ∃ (ju : Nat) (du : Array α), vj = .int .i64 ju ∧ kx + 1 ≤ ju ∧ ju ≤ b ∧ b - ju ≤ g4 ∧ Hid (In g sf V sb blk S w.heap.size w du wx) ∧ Hid (shiftUp lt b ju du = shiftUp lt b (kx + 1) dj))
                        case atStart => exact ⟨kx + 1, dj, by go_num, Nat.le_refl _, by omega, Nat.le_refl _, q3s, Lib.hid rfl⟩
                        case round =>
                          obtain ⟨ju, du, rfl, hkj, hjb, hg4, HV, HU⟩ := hrel
                          have c0 := HV.out.c0
                          by_cases hjb' : ju < b
                          · have hjz : (ju : Int) < (b : Int) := by omega
                            cases hlv3 : lt du[ju]! du[ju - 1]! with
                            | true =>
                              have hl3 := HV.out.less HK.out ju (ju - 1) (ju : Int) ((ju : Int) - 1) _ rfl (by omega) (by omega) (by omega) hlv3
                              go_wp2_with (go_at_fn g; refine hl3.mono ?_; rintro e w5 ⟨rfl, q5⟩; have d1 := q5.c1; obtain ⟨w5s, hsw5, q5s⟩ := q5.swap HK.out (by omega) ju (ju - 1) (ju : Int) ((ju : Int) - 1) rfl (by omega) (by omega) (by omega); clear q5)
                              go_roundg (b - (ju + 1))
                              case measure => omega
                              case rel => exact ⟨ju + 1, swp du ju (ju - 1), by go_num, by omega, by omega, Nat.le_refl _, q5s, Lib.hid (by rw [← HU.out, shiftUp_go lt b ju du hjb' hlv3])⟩
                            | false =>
                              have hl3 := HV.out.less HK.out ju (ju - 1) (ju : Int) ((ju : Int) - 1) _ rfl (by omega) (by omega) (by omega) hlv3
                              go_wp2_with (go_at_fn g; refine hl3.mono ?_; rintro e w5 ⟨rfl, q5⟩; have q5s := Lib.hid q5; clear q5)
                              go_roundg (5 - (s + 1))
                              case measure => omega
                              case rel => exact ⟨kx, s + 1, du, rfl, by go_num, by omega, Nat.le_refl _, by omega, by omega, q5s, Lib.hid (by rw [← HO.out, pi_go lt a b s i kx dk hs HSK.out (by omega) h50, HD.out, show fixUp lt b kx dj = du from by unfold fixUp; rw [if_pos hbk, ← HU.out, shiftUp_stop lt b ju du (Or.inr hlv3)]])⟩
                          · have hjz : ¬ (ju : Int) < (b : Int) := by omega
                            go_wp2_with fail
                            go_roundg (5 - (s + 1))
                            case measure => omega
                            case rel => exact ⟨kx, s + 1, du, rfl, by go_num, by omega, Nat.le_refl _, by omega, by omega, HV, Lib.hid (by rw [← HO.out, pi_go lt a b s i kx dk hs HSK.out (by omega) h50, HD.out, show fixUp lt b kx dj = du from by unfold fixUp; rw [if_pos hbk, ← HU.out, shiftUp_stop lt b ju du (Or.inl hjb')]])⟩
                      · have hbkz : ¬ (2 : Int) ≤ (b : Int) - (kx : Int) := by omega
                        go_wp2_with (go_at_fn g; refine hl2.mono ?_; rintro e w3 ⟨rfl, q3⟩; have q3s := Lib.hid q3; clear q3)
                        go_roundg (5 - (s + 1))
                        case measure => omega
                        case rel => exact ⟨kx, s + 1, dj, rfl, by go_num, by omega, Nat.le_refl _, by omega, by omega, q3s, Lib.hid (by rw [← HO.out, pi_go lt a b s i kx dk hs HSK.out (by omega) h50, HD.out, show fixUp lt b kx dj = dj from by unfold fixUp; rw [if_neg hbk]])⟩
                  · have hj1z : ¬ (1 : Int) ≤ (j : Int) := by omega
                    have HD : Hid (fixDown lt a kx (swp dk kx (kx - 1)) = dj) := by show _ = _; unfold fixDown; rw [if_pos hka, ← HDn.out, shiftDown_stop lt j dj (Or.inl (by omega))]
                    by_cases hbk : b - kx ≥ 2
                    · have hbkz : (2 : Int) ≤ (b : Int) - (kx : Int) := by omega
                      go_wp2_with fail
                      go_loopg [10] (b - (kx + 1)) (fun g4 vj wx => ∃ (ju : Nat) (du : Array α), vj = .int .i64 ju ∧ kx + 1 ≤ ju ∧ ju ≤ b ∧ b - ju ≤ g4 ∧ Hid (In g sf V sb blk S w.heap.size w du wx) ∧ Hid (shiftUp lt b ju du = shiftUp lt b (kx + 1) dj))
                      case atStart => exact ⟨kx + 1, dj, by go_num, Nat.le_refl _, by omega, Nat.le_refl _, HY, Lib.hid rfl⟩
                      case round =>
                        obtain ⟨ju, du, rfl, hkj, hjb, hg4, HV, HU⟩ := hrel
                        have c0 := HV.out.c0
                        by_cases hjb' : ju < b
                        · have hjz : (ju : Int) < (b : Int) := by omega
                          cases hlv3 : lt du[ju]! du[ju - 1]! with
                          | true =>
                            have hl3 := HV.out.less HK.out ju (ju - 1) (ju : Int) ((ju : Int) - 1) _ rfl (by omega) (by omega) (by omega) hlv3
                            go_wp2_with (go_at_fn g; refine hl3.mono ?_; rintro e w5 ⟨rfl, q5⟩; have d1 := q5.c1; obtain ⟨w5s, hsw5, q5s⟩ := q5.swap HK.out (by omega) ju (ju - 1) (ju : Int) ((ju : Int) - 1) rfl (by omega) (by omega) (by omega); clear q5)
                            go_roundg (b - (ju + 1))
                            case measure => omega
                            case rel => exact ⟨ju + 1, swp du ju (ju - 1), by go_num, by omega, by omega, Nat.le_refl _, q5s, Lib.hid (by rw [← HU.out, shiftUp_go lt b ju du hjb' hlv3])⟩
                          | false =>
                            have hl3 := HV.out.less HK.out ju (ju - 1) (ju : Int) ((ju : Int) - 1) _ rfl (by omega) (by omega) (by omega) hlv3
                            go_wp2_with (go_at_fn g; refine hl3.mono ?_; rintro e w5 ⟨rfl, q5⟩; have q5s := Lib.hid q5; clear q5)
                            go_roundg (5 - (s + 1))
                            case measure => omega
                            case rel => exact ⟨kx, s + 1, du, rfl, by go_num, by omega, Nat.le_refl _, by omega, by omega, q5s, Lib.hid (by rw [← HO.out, pi_go lt a b s i kx dk hs HSK.out (by omega) h50, HD.out, show fixUp lt b kx dj = du from by unfold fixUp; rw [if_pos hbk, ← HU.out, shiftUp_stop lt b ju du (Or.inr hlv3)]])⟩
                        · have hjz : ¬ (ju : Int) < (b : Int) := by omega
                          go_wp2_with fail
                          go_roundg (5 - (s + 1))
                          case measure => omega
                          case rel => exact ⟨kx, s + 1, du, rfl, by go_num, by omega, Nat.le_refl _, by omega, by omega, HV, Lib.hid (by rw [← HO.out, pi_go lt a b s i kx dk hs HSK.out (by omega) h50, HD.out, show fixUp lt b kx dj = du from by unfold fixUp; rw [if_pos hbk, ← HU.out, shiftUp_stop lt b ju du (Or.inl hjb')]])⟩
                    · have hbkz : ¬ (2 : Int) ≤ (b : Int) - (kx : Int) := by omega
                      go_wp2_with fail
                      go_roundg (5 - (s + 1))
                      case measure => omega
                      case rel => exact ⟨kx, s + 1, dj, rfl, by go_num, by omega, Nat.le_refl _, by omega, by omega, HY, Lib.hid (by rw [← HO.out, pi_go lt a b s i kx dk hs HSK.out (by omega) h50, HD.out, show fixUp lt b kx dj = dj from by unfold fixUp; rw [if_neg hbk]])⟩
              · have hkaz : ¬ (2 : Int) ≤ (kx : Int) - (a : Int) := by omega
                have HD : Hid (fixDown lt a kx (swp dk kx (kx - 1)) = swp dk kx (kx - 1)) := by show _ = _; unfold fixDown; rw [if_neg hka]
                by_cases hbk : b - kx ≥ 2
                · have hbkz : (2 : Int) ≤ (b : Int) - (kx : Int) := by omega
                  go_wp2_with (go_at_fn g; refine hl.mono ?_; rintro e w1 ⟨rfl, q1⟩; have d1 := q1.c1; obtain ⟨w1s, hsw1, q1s⟩ := q1.swap HK.out (by omega) kx (kx - 1) (kx : Int) ((kx : Int) - 1) rfl (by omega) (by omega) (by omega); clear q1)
                  go_loopg [10] (b - (kx + 1)) (fun g4 vj wx => ∃ (ju : Nat) (du : Array α), vj = .int .i64 ju ∧ kx + 1 ≤ ju ∧ ju ≤ b ∧ b - ju ≤ g4 ∧ Hid (In g sf V sb blk S w.heap.size w du wx) ∧ Hid (shiftUp lt b ju du = shiftUp lt b (kx + 1) (swp dk kx (kx - 1))))
                  case atStart => exact ⟨kx + 1, (swp dk kx (kx - 1)), by go_num, Nat.le_refl _, by omega, Nat.le_refl _, q1s, Lib.hid rfl⟩
                  case round =>
                    obtain ⟨ju, du, rfl, hkj, hjb, hg4, HV, HU⟩ := hrel
                    have c0 := HV.out.c0
                    by_cases hjb' : ju < b
                    · have hjz : (ju : Int) < (b : Int) := by omega
                      cases hlv3 : lt du[ju]! du[ju - 1]! with
                      | true =>
                        have hl3 := HV.out.less HK.out ju (ju - 1) (ju : Int) ((ju : Int) - 1) _ rfl (by omega) (by omega) (by omega) hlv3
                        go_wp2_with (go_at_fn g; refine hl3.mono ?_; rintro e w5 ⟨rfl, q5⟩; have d1 := q5.c1; obtain ⟨w5s, hsw5, q5s⟩ := q5.swap HK.out (by omega) ju (ju - 1) (ju : Int) ((ju : Int) - 1) rfl (by omega) (by omega) (by omega); clear q5)
                        go_roundg (b - (ju + 1))
                        case measure => omega
                        case rel => exact ⟨ju + 1, swp du ju (ju - 1), by go_num, by omega, by omega, Nat.le_refl _, q5s, Lib.hid (by rw [← HU.out, shiftUp_go lt b ju du hjb' hlv3])⟩
                      | false =>
                        have hl3 := HV.out.less HK.out ju (ju - 1) (ju : Int) ((ju : Int) - 1) _ rfl (by omega) (by omega) (by omega) hlv3
                        go_wp2_with (go_at_fn g; refine hl3.mono ?_; rintro e w5 ⟨rfl, q5⟩; have q5s := Lib.hid q5; clear q5)
                        go_roundg (5 - (s + 1))
                        case measure => omega
                        case rel => exact ⟨kx, s + 1, du, rfl, by go_num, by omega, Nat.le_refl _, by omega, by omega, q5s, Lib.hid (by rw [← HO.out, pi_go lt a b s i kx dk hs HSK.out (by omega) h50, HD.out, show fixUp lt b kx (swp dk kx (kx - 1)) = du from by unfold fixUp; rw [if_pos hbk, ← HU.out, shiftUp_stop lt b ju du (Or.inr hlv3)]])⟩
                    · have hjz : ¬ (ju : Int) < (b : Int) := by omega
                      go_wp2_with fail
                      go_roundg (5 - (s + 1))
                      case measure => omega
                      case rel => exact ⟨kx, s + 1, du, rfl, by go_num, by omega, Nat.le_refl _, by omega, by omega, HV, Lib.hid (by rw [← HO.out, pi_go lt a b s i kx dk hs HSK.out (by omega) h50, HD.out, show fixUp lt b kx (swp dk kx (kx - 1)) = du from by unfold fixUp; rw [if_pos hbk, ← HU.out, shiftUp_stop lt b ju du (Or.inl hjb')]])⟩
                · exfalso; omega
        · obtain rfl : kx = b := by omega
          have hkz : ¬ (kx : Int) < (kx : Int) := by omega
          go_wp2_with fail
          go_ret
          rw [show Sort.partialInsertionSort lt d a kx = (dk, true) by unfold Sort.partialInsertionSort; rw [← HO.out, pi_true lt a kx s i dk hs (by rw [← HSc.out, scanSorted_stop lt dk kx kx (Or.inl (by omega))])]]
          exact HW.out.done
    · obtain rfl : s = 5 := by omega
      go_wp2_with fail
      go_ret
      rw [show Sort.partialInsertionSort lt d a b = (dk, false) by unfold Sort.partialInsertionSort; rw [← HO.out, pi_end]]
      exact HR.out.done
end Srt16
end Go.Proofs.YtmmgmcfhlhghoaaGreatDoor

