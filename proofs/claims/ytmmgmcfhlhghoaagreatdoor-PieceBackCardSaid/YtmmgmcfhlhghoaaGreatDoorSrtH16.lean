/- sort.pdqsort_func, whole, by a function that makes memory of its own. Any program. -/
import Derived.Test.YtmmgmcfhlhghoaaGreatDoorSrtB16
import Derived.Test.YtmmgmcfhlhghoaaGreatDoorSrtC16
import Derived.Test.YtmmgmcfhlhghoaaGreatDoorSrtD16
import Derived.Test.YtmmgmcfhlhghoaaGreatDoorSrtE16
import Derived.Test.YtmmgmcfhlhghoaaGreatDoorSrtG16
import Derived.Sort.Walk13
import Derived.Sort.AssemblyPlain
import Derived.Deep.LoopGhost
namespace Go.Proofs.YtmmgmcfhlhghoaaGreatDoor
open Go.Shelf Go.RowKit
open Go.Sort hiding Below
open Go.Lib hiding intOf
namespace Srt16
variable {P : Program} {ρ : Ren} {α : Type} [Inhabited α] {g sf size blk base : Nat} {V : Value} {sb : Array Value} {lt : α → α → Bool} {S : Array α → World → Prop}

set_option maxHeartbeats 12800000 in
set_option maxRecDepth 1000000 in
theorem pdq_any (L : LaysGg.n14 P ρ) (K : Srt P g sf V sb lt size blk base S) (hO : SWO lt)
    (BP : 2 ≤ size → ∀ (d : Array α) (w : World), S d w → ∀ a b : Nat, a ≤ b → b ≤ size → Calls P (ρ.f 28) #[.agg #[.func (.func g) #[V] #[], .func (.func sf) #[] sb], .int .i64 a, .int .i64 b] w (Done S blk w (breakPatterns d a b) (.tuple #[])))
    (RV : 2 ≤ size → ∀ (d : Array α) (w : World), S d w → ∀ a b : Nat, a ≤ b → b ≤ size → Calls P (ρ.f 30) #[.agg #[.func (.func g) #[V] #[], .func (.func sf) #[] sb], .int .i64 a, .int .i64 b] w (Done S blk w (reverseRange d a b) (.tuple #[]))) :
    ∀ (N a b limit : Nat) (d : Array α) (w : World), b - a < N → S d w → a ≤ b → b ≤ size → limit < 4611686018427387904 → Sort.Below lt a b d →
    Calls P (ρ.f 14) #[.agg #[.func (.func g) #[V] #[], .func (.func sf) #[] sb], .int .i64 a, .int .i64 b, .int .i64 limit] w (Done S blk w (pdq lt d a b limit true true) (.tuple #[])) := by
  have mixed := L.mixed; have t0 := L.t0; have a0 := L.a0; have z0 := L.z0; have v0 := L.v0; have t3 := L.t3; have a3 := L.a3; have z3 := L.z3; have v3 := L.v3; have t4 := L.t4; have a4 := L.a4; have z4 := L.z4; have v4 := L.v4; have t5 := L.t5; have a5 := L.a5; have z5 := L.z5; have v5 := L.v5; have t9 := L.t9; have a9 := L.a9; have z9 := L.z9; have v9 := L.v9; have t26 := L.t26; have a26 := L.a26; have z26 := L.z26; have v26 := L.v26; have t37 := L.t37; have a37 := L.a37; have z37 := L.z37; have v37 := L.v37; have t41 := L.t41; have a41 := L.a41; have z41 := L.z41; have v41 := L.v41; have t44 := L.t44; have a44 := L.a44; have z44 := L.z44; have v44 := L.v44; have t49 := L.t49; have a49 := L.a49; have z49 := L.z49; have v49 := L.v49; have t51 := L.t51; have a51 := L.a51; have z51 := L.z51; have v51 := L.v51; have t53 := L.t53; have a53 := L.a53; have z53 := L.z53; have v53 := L.v53; have t54 := L.t54; have a54 := L.a54; have z54 := L.z54; have v54 := L.v54; have t58 := L.t58; have a58 := L.a58; have z58 := L.z58; have v58 := L.v58; have t60 := L.t60; have a60 := L.a60; have z60 := L.z60; have v60 := L.v60; have t64 := L.t64; have a64 := L.a64; have z64 := L.z64; have v64 := L.v64; have t66 := L.t66; have a66 := L.a66; have z66 := L.z66; have v66 := L.v66; have t67 := L.t67; have a67 := L.a67; have z67 := L.z67; have v67 := L.v67
  have u44 := run_underlying L.t44
  have e26 : ∀ args w, (callFunc (ρ.f 26) args).run P w = .ok (.enter (ρ.f 26) args) w := enters_of L.f26 (by kernel_rfl) rfl
  have e27 : ∀ args w, (callFunc (ρ.f 27) args).run P w = .ok (.enter (ρ.f 27) args) w := enters_of L.f27 (by kernel_rfl) rfl
  have e28 : ∀ args w, (callFunc (ρ.f 28) args).run P w = .ok (.enter (ρ.f 28) args) w := enters_of L.f28 (by kernel_rfl) rfl
  have e29 : ∀ args w, (callFunc (ρ.f 29) args).run P w = .ok (.enter (ρ.f 29) args) w := enters_of L.f29 (by kernel_rfl) rfl
  have e30 : ∀ args w, (callFunc (ρ.f 30) args).run P w = .ok (.enter (ρ.f 30) args) w := enters_of L.f30 (by kernel_rfl) rfl
  have e31 : ∀ args w, (callFunc (ρ.f 31) args).run P w = .ok (.enter (ρ.f 31) args) w := enters_of L.f31 (by kernel_rfl) rfl
  have e32 : ∀ args w, (callFunc (ρ.f 32) args).run P w = .ok (.enter (ρ.f 32) args) w := enters_of L.f32 (by kernel_rfl) rfl
  have e33 : ∀ args w, (callFunc (ρ.f 33) args).run P w = .ok (.enter (ρ.f 33) args) w := enters_of L.f33 (by kernel_rfl) rfl
  have e14 : ∀ args w, (callFunc (ρ.f 14) args).run P w = .ok (.enter (ρ.f 14) args) w := enters_of L.f14 (by kernel_rfl) rfl
  have eg := K.enter
  have hz := K.small
  have HK := Lib.hid K
  have HB := Lib.hid BP
  have HV := Lib.hid RV
  clear BP RV K
  intro N
  induction N with
  | zero => intro _ _ _ _ _ h; exact absurd h (Nat.not_lt_zero _)
  | succ N ih =>
    intro a b limit d w hN hS hab hb hlimit hBel0
    have HI := Lib.hid (HK.out.start hS (ρ.t 44))
    have IH := Lib.hid ih
    clear hS ih
    go_enter L.f14, BodyGg.n14_ntmps ρ
    go_wp2_with fail
    go_loopg [1, 2, 3, 8, 9] (b - a) (fun kx s1 s2 s3 s8 s9 wx => ∃ (a' b' lim : Nat) (wb wp : Bool) (dk : Array α), s1 = .int .i64 a' ∧ s2 = .int .i64 b' ∧ s3 = .int .i64 lim ∧ s8 = .bool wb ∧ s9 = .bool wp ∧
      a' ≤ b' ∧ b' ≤ size ∧ b' - a' ≤ kx ∧ kx ≤ b - a ∧ lim ≤ limit ∧ Sort.Below lt a' b' dk ∧ Hid (In g sf V sb blk S w.heap.size w dk wx) ∧ Hid (pdq lt dk a' b' lim wb wp = pdq lt d a b limit true true))
    case atStart => exact ⟨a, b, limit, true, true, d, rfl, rfl, rfl, rfl, rfl, hab, hb, Nat.le_refl _, Nat.le_refl _, Nat.le_refl _, hBel0, HI, Lib.hid rfl⟩
    case round =>
      clear HI hBel0
      obtain ⟨a', b', lim, wb, wp, dk, rfl, rfl, rfl, rfl, rfl, hab', hb', hkx, hkN, hlim, hBel, HR, A⟩ := hrel
      have c0 := HR.out.c0
      have c1 := HR.out.c1
      have hds := HK.out.long HR.out.s
      by_cases h12 : b' - a' ≤ 12
      · have h12z : (b' : Int) - (a' : Int) ≤ 12 := by omega
        have hc := ins_any (P := P) (ρ := ρ) { L with } HK.out HR.out.s a' b' hab' hb'
        go_wp2_with (go_at_fn (ρ.f 26); refine hc.mono ?_; rintro e w1 ⟨rfl, q1, x1⟩; have Q1 := Lib.hid q1; have X1 := Lib.hid x1; clear q1 x1)
        (try simp only [Exit.inBlock, Exit.then]); refine bodyPost_ret (results_none rfl _ _ _) rfl ?_
        rw [← A.out, pdq_small h12]
        exact (HR.out.call Q1.out X1.out).done
      · have h12z : ¬ ((b' : Int) - (a' : Int) ≤ 12) := by omega
        by_cases hl0 : lim = 0
        · subst hl0
          have hc := heap_any (P := P) (ρ := ρ) { L with } HK.out (by omega) HR.out.s a' b' hab' hb'
          go_wp2_with (go_at_fn (ρ.f 27); refine hc.mono ?_; rintro e w1 ⟨rfl, q1, x1⟩; have Q1 := Lib.hid q1; have X1 := Lib.hid x1; clear q1 x1)
          (try simp only [Exit.inBlock, Exit.then]); refine bodyPost_ret (results_none rfl _ _ _) rfl ?_
          rw [← A.out, pdq_heap h12 rfl]
          exact (HR.out.call Q1.out X1.out).done
        · have hl0z : ¬ ((lim : Int) = 0) := by omega
          obtain ⟨s1, B1, hc1, s2, B2, hpv, s3, B3⟩ := rd_facts (lt := lt) (limit := lim) (wb := wb) (wp := wp) hO partialInsertionSort_holds reverseRange_holds (show a' < b' by omega) (show b' ≤ dk.size by omega) hBel
          go_upto_if 35 with fail
          go_cut [3] from 19 (fun s3 wc => s3 = .int .i64 (rd lt dk a' b' lim wb wp).lim ∧ Hid (In g sf V sb blk S w.heap.size w (rd lt dk a' b' lim wb wp).d1 wc))
          case first =>
            cases wb
            · have hc := HB.out (by omega) _ _ HR.out.s a' b' hab' hb'
              go_wp2_with (go_at_fn (ρ.f 28); refine hc.mono ?_; rintro e w1 ⟨rfl, q1, x1⟩; have Q1 := Lib.hid q1; have X1 := Lib.hid x1; clear q1 x1)
              go_meet
              case rel =>
                refine ⟨?_, Lib.hid (HR.out.call Q1.out X1.out)⟩
                show Value.int .i64 ((lim : Int) - 1) = Value.int .i64 ((lim - 1 : Nat) : Int)
                congr 1
                omega
            · go_wp2_with fail
              go_meet
              case rel => exact ⟨rfl, HR⟩
          case rest =>
            clear HR c0 c1
            obtain ⟨rfl, HR⟩ := hcut
            have c0 := HR.out.c0
            have c1 := HR.out.c1
            have hc := pivot_any (P := P) (ρ := ρ) { L with } HK.out HR.out.s a' b' (by omega) hb'
            rw [show choosePivot lt (rd lt dk a' b' lim wb wp).d1 a' b' = (rd lt dk a' b' lim wb wp).c from rfl] at hc
            go_upto_if 50 with (go_at_fn (ρ.f 29); refine hc.mono ?_; rintro e w2 ⟨rfl, q2, x2⟩; have Q2 := Lib.hid q2; have X2 := Lib.hid x2; clear q2 x2)
            have HR2 := Lib.hid (HR.out.ext HK.out X2.out)
            clear HR c0 c1 Q2
            have c0 := HR2.out.c0
            have c1 := HR2.out.c1
            go_cut [11, 12] from 19 (fun s11 s12 wc => s11 = .int .i64 (rd lt dk a' b' lim wb wp).pivot ∧ s12 = .int .i64 (hintCode (rd lt dk a' b' lim wb wp).hint) ∧ Hid (In g sf V sb blk S w.heap.size w (rd lt dk a' b' lim wb wp).d2 wc))
            case first =>
              by_cases hh : (rd lt dk a' b' lim wb wp).c.2 = .decreasing
              · have hcode : hintCode (rd lt dk a' b' lim wb wp).c.2 = 2 := by rw [hh]; rfl
                obtain ⟨e2, epv, eht⟩ := rd_dec hh
                have hc18 := HV.out (by omega) _ _ HR2.out.s a' b' hab' hb'
                go_wp2_with (go_at_fn (ρ.f 30); refine hc18.mono ?_; rintro e w3 ⟨rfl, q3, x3⟩; have Q3 := Lib.hid q3; have X3 := Lib.hid x3; clear q3 x3)
                go_meet
                case rel =>
                  refine ⟨?_, by rw [eht]; rfl, ?_⟩
                  · rw [epv]
                    congr 1
                    omega
                  · rw [e2]; exact Lib.hid (HR2.out.call Q3.out X3.out)
              · have hcode : ¬ (hintCode (rd lt dk a' b' lim wb wp).c.2 = 2) := fun h => hh (hintCode_two h)
                obtain ⟨e2, epv, eht⟩ := rd_not hh
                go_wp2_with fail
                go_meet
                case rel => exact ⟨by rw [epv], by rw [eht], by rw [e2]; exact HR2⟩
            case rest =>
              clear HR2 X2 c0 c1
              obtain ⟨rfl, rfl, HR⟩ := hcut
              have c0 := HR.out.c0
              have c1 := HR.out.c1
              go_upto_region 16 with fail
              go_cut [12, 68] from 19 (fun s12 s68 wx => s12 = .int .i64 (hintCode (rd lt dk a' b' lim wb wp).hint) ∧ s68 = .bool (wb && wp && decide ((rd lt dk a' b' lim wb wp).hint = .increasing)) ∧ wx = wc)
              case first =>
                cases wb <;> cases wp <;> cases hh3 : (rd lt dk a' b' lim _ _).hint <;>
                  (have hcode3 := congrArg hintCode hh3
                   simp only [hintCode] at hcode3
                   go_wp2_with fail
                   go_meet
                   exact ⟨by simp [hh3, hintCode], by simp [hh3, hintCode], rfl⟩)
              case rest =>
                obtain ⟨rfl, rfl, rfl⟩ := hcut
                go_upto_if 68 with fail
                go_cut [] from 19 (fun wx => (rd lt dk a' b' lim wb wp).pi.2 = false ∧ Hid (In g sf V sb blk S w.heap.size w (rd lt dk a' b' lim wb wp).pi.1 wx))
                case first =>
                  cases h68 : (wb && wp && decide ((rd lt dk a' b' lim wb wp).hint = .increasing))
                  · have epi := rd_pi_no h68
                    go_wp2_with fail
                    go_meet
                    case rel => exact ⟨by rw [epi], by rw [epi]; exact HR⟩
                  · have epi := rd_pi_yes h68
                    have hc19 := partIns_any (P := P) (ρ := ρ) { L with } HK.out HR.out.s a' b' (by omega) hb'
                    rw [← epi] at hc19
                    go_wp2_with (go_at_fn (ρ.f 31); refine hc19.mono ?_; rintro e w4 ⟨rfl, q4, x4⟩; have Q4 := Lib.hid q4; have X4 := Lib.hid x4; clear q4 x4)
                    all_goals first
                      | (have hp2 : (rd lt dk a' b' lim wb wp).pi.2 = false := by rw [epi]; assumption
                         go_meet
                         exact ⟨hp2, Lib.hid (HR.out.call Q4.out X4.out)⟩)
                      | (have hp2 : (rd lt dk a' b' lim wb wp).pi.2 = true := by rw [epi]; assumption
                         (try simp only [Exit.inBlock, Exit.then]); refine bodyPost_ret (results_none rfl _ _ _) rfl ?_
                         rw [← A.out, pdq_done h12 hl0 hp2]
                         exact (HR.out.call Q4.out X4.out).done)
                case rest =>
                  clear HR c0 c1
                  obtain ⟨hp2, HR⟩ := hcut
                  have c0 := HR.out.c0
                  have c1 := HR.out.c1
                  go_upto_region 18 with fail
                  go_cut [83] from 19 (fun s83 wx => s83 = .bool (decide (a' > 0) && !lt (rd lt dk a' b' lim wb wp).pi.1[a' - 1]! (rd lt dk a' b' lim wb wp).pi.1[(rd lt dk a' b' lim wb wp).pivot]!) ∧ Hid (In g sf V sb blk S w.heap.size w (rd lt dk a' b' lim wb wp).pi.1 wx))
                  case first =>
                    rcases Nat.eq_zero_or_pos a' with ha0 | ha0
                    · have ha0z : decide ((a' : Int) > 0) = false := decide_eq_false (by omega)
                      go_wp2_with fail
                      go_meet
                      case rel => exact ⟨by simp [ha0], HR⟩
                    · have ha0z : (a' : Int) > 0 := by omega
                      cases hlv : lt (rd lt dk a' b' lim wb wp).pi.1[a' - 1]! (rd lt dk a' b' lim wb wp).pi.1[(rd lt dk a' b' lim wb wp).pivot]! <;>
                        (have hl := HR.out.less HK.out (a' - 1) (rd lt dk a' b' lim wb wp).pivot ((a' : Int) - 1) ((rd lt dk a' b' lim wb wp).pivot : Int) _ (by omega) rfl (by omega) (by omega) hlv
                         go_wp2_with (go_at_fn g; refine hl.mono ?_; rintro e w5 ⟨rfl, q5⟩; have Q5 := Lib.hid q5; clear q5)
                         go_meet
                         exact ⟨by simp [ha0, hlv], Q5⟩)
                  case rest =>
                    clear HR c0 c1
                    obtain ⟨rfl, HR⟩ := hcut
                    have c0 := HR.out.c0
                    have c1 := HR.out.c1
                    cases h87 : (decide (a' > 0) && !lt (rd lt dk a' b' lim wb wp).pi.1[a' - 1]! (rd lt dk a' b' lim wb wp).pi.1[(rd lt dk a' b' lim wb wp).pivot]!)
                    · obtain ⟨mid, ap, d4, hx⟩ : ∃ mid ap d4, Sort.partition lt (rd lt dk a' b' lim wb wp).pi.1 a' b' (rd lt dk a' b' lim wb wp).pivot = (mid, ap, d4) := ⟨_, _, _, rfl⟩
                      obtain ⟨r1, r2, r3, r4, r5, r6, r7⟩ := round_part hO (partition_holds lt) hpv.1 hpv.2 (show b' ≤ (rd lt dk a' b' lim wb wp).pi.1.size by omega) B3 hx
                      have hc22 := part_any (P := P) (ρ := ρ) { L with } HK.out (by omega) HR.out.s a' b' (rd lt dk a' b' lim wb wp).pivot hpv.1 hpv.2 hb'
                      rw [hx] at hc22
                      have X : Hid (Sort.partition lt (rd lt dk a' b' lim wb wp).pi.1 a' b' (rd lt dk a' b' lim wb wp).pivot = (mid, ap, d4)) := hx
                      clear hx
                      go_upto_if 109 with (go_at_fn (ρ.f 33); refine hc22.mono ?_; rintro e w7 ⟨rfl, q7, x7⟩; have Q7 := Lib.hid q7; have X7 := Lib.hid x7; clear q7 x7)
                      have hx := X.out
                      have HR7 := Lib.hid (HR.out.call Q7.out X7.out)
                      clear HR c0 c1 Q7 X7
                      have c0 := HR7.out.c0
                      have c1 := HR7.out.c1
                      have hs4 := HK.out.long HR7.out.s
                      by_cases h4 : mid - a' < b' - mid
                      · have h4z : (mid : Int) - (a' : Int) < (b' : Int) - (mid : Int) := by omega
                        have hih := IH.out a' mid (rd lt dk a' b' lim wb wp).lim d4 _ (by omega) HR7.out.s (by omega) (by omega) (Nat.lt_of_le_of_lt (Nat.le_trans rd_lim_le hlim) hlimit) r4
                        obtain ⟨pL, sL⟩ := pdq_sorts lt hO d4 a' mid (rd lt dk a' b' lim wb wp).lim true true (by omega) (by omega) r4
                        go_wp2_with (go_at_fn (ρ.f 14); refine hih.mono ?_; rintro e w8 ⟨rfl, q8, x8⟩; have Q8 := Lib.hid q8; have X8 := Lib.hid x8; clear q8 x8)
                        go_roundg (b' - (mid + 1))
                        case measure => omega
                        case rel =>
                          refine ⟨mid + 1, b', (rd lt dk a' b' lim wb wp).lim, decide (mid - a' ≥ (b' - a') / 8), ap, pdq lt d4 a' mid (rd lt dk a' b' lim wb wp).lim true true, by simp, rfl, rfl, ?_, rfl, by omega, by omega, Nat.le_refl _, by omega, Nat.le_trans rd_lim_le hlim, (r6 _ pL sL).1, Lib.hid (HR7.out.call Q8.out X8.out), ?_⟩
                          · exact congrArg Value.bool (eighth (by omega) (by omega))
                          · exact Lib.hid (by rw [← A.out, pdq_left h12 hl0 hp2 h87 (by rw [hx]; exact ⟨r1, r2⟩) (by rw [hx]; exact h4), hx])
                      · have h4z : ¬ ((mid : Int) - (a' : Int) < (b' : Int) - (mid : Int)) := by omega
                        have hih := IH.out (mid + 1) b' (rd lt dk a' b' lim wb wp).lim d4 _ (by omega) HR7.out.s (by omega) (by omega) (Nat.lt_of_le_of_lt (Nat.le_trans rd_lim_le hlim) hlimit) r5
                        rw [show ((mid + 1 : Nat) : Int) = (mid : Int) + 1 by omega] at hih
                        obtain ⟨pL, sL⟩ := pdq_sorts lt hO d4 (mid + 1) b' (rd lt dk a' b' lim wb wp).lim true true (by omega) (by omega) r5
                        go_wp2_with (go_at_fn (ρ.f 14); refine hih.mono ?_; rintro e w8 ⟨rfl, q8, x8⟩; have Q8 := Lib.hid q8; have X8 := Lib.hid x8; clear q8 x8)
                        go_roundg (mid - a')
                        case measure => omega
                        case rel =>
                          refine ⟨a', mid, (rd lt dk a' b' lim wb wp).lim, decide (b' - mid ≥ (b' - a') / 8), ap, pdq lt d4 (mid + 1) b' (rd lt dk a' b' lim wb wp).lim true true, rfl, rfl, rfl, ?_, rfl, by omega, by omega, Nat.le_refl _, by omega, Nat.le_trans rd_lim_le hlim, (r7 _ pL sL).1, Lib.hid (HR7.out.call Q8.out X8.out), ?_⟩
                          · exact congrArg Value.bool (eighth (by omega) (by omega))
                          · exact Lib.hid (by rw [← A.out, pdq_right h12 hl0 hp2 h87 (by rw [hx]; exact ⟨r1, r2⟩) (by rw [hx]; exact h4), hx])
                    · have h87' := h87
                      simp only [Bool.and_eq_true, decide_eq_true_eq, Bool.not_eq_true'] at h87'
                      obtain ⟨mid, d4, hx⟩ : ∃ mid d4, Sort.partitionEqual lt (rd lt dk a' b' lim wb wp).pi.1 a' b' (rd lt dk a' b' lim wb wp).pivot = (mid, d4) := ⟨_, _, rfl⟩
                      obtain ⟨r1, r2, r3, r4, _⟩ := round_eq hO (partitionEqual_holds lt) h87'.1 hpv.1 hpv.2 (show b' ≤ (rd lt dk a' b' lim wb wp).pi.1.size by omega) B3 h87'.2 hx
                      have hc21 := partEq_any (P := P) (ρ := ρ) { L with } HK.out (by omega) HR.out.s a' b' (rd lt dk a' b' lim wb wp).pivot hpv.1 hpv.2 hb'
                      rw [hx] at hc21
                      have X : Hid (Sort.partitionEqual lt (rd lt dk a' b' lim wb wp).pi.1 a' b' (rd lt dk a' b' lim wb wp).pivot = (mid, d4)) := hx
                      clear hx
                      go_wp2_with (go_at_fn (ρ.f 32); refine hc21.mono ?_; rintro e w7 ⟨rfl, q7, x7⟩; have Q7 := Lib.hid q7; have X7 := Lib.hid x7; clear q7 x7)
                      go_roundg (b' - mid)
                      case measure => omega
                      case rel =>
                        have hx := X.out
                        exact ⟨mid, b', (rd lt dk a' b' lim wb wp).lim, wb, wp, d4, rfl, rfl, rfl, rfl, rfl, r2, hb', Nat.le_refl _, by omega, Nat.le_trans rd_lim_le hlim, r4, Lib.hid (HR.out.call Q7.out X7.out), Lib.hid (by rw [← A.out, pdq_eq h12 hl0 hp2 h87 (by rw [hx]; exact ⟨r1, r2⟩), hx])⟩
end Srt16
end Go.Proofs.YtmmgmcfhlhghoaaGreatDoor

