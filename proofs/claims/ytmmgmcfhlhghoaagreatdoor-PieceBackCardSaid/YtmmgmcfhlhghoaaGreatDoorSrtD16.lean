/- sort.partitionEqual_func, partition_func, by a function that makes memory of its own. Any program. -/
import Derived.Test.YtmmgmcfhlhghoaaGreatDoorSrtA16
import Derived.Sort.WalkC4
namespace Go.Proofs.YtmmgmcfhlhghoaaGreatDoor
open Go.Shelf Go.RowKit
open Go.Sort hiding Below
open Go.Lib hiding intOf
namespace Srt16
variable {P : Program} {ρ : Ren} {α : Type} [Inhabited α] {g sf size blk base : Nat} {V : Value} {sb : Array Value} {lt : α → α → Bool} {S : Array α → World → Prop}

set_option maxHeartbeats 6400000 in
set_option maxRecDepth 100000 in
theorem partEq_any (L : LaysGg.n32 P ρ) (K : Srt P g sf V sb lt size blk base S) (h2 : 2 ≤ size) {d : Array α} {w : World} (h : S d w) (a b pivot : Nat) (hap : a ≤ pivot) (hpb : pivot < b) (hb : b ≤ size) :
    Calls P (ρ.f 32) #[.agg #[.func (.func g) #[V] #[], .func (.func sf) #[] sb], .int .i64 a, .int .i64 b, .int .i64 pivot] w (Done S blk w (Sort.partitionEqual lt d a b pivot).2 (.int .i64 (Sort.partitionEqual lt d a b pivot).1)) := by
  have mixed := L.mixed; have t0 := L.t0; have a0 := L.a0; have z0 := L.z0; have v0 := L.v0; have t3 := L.t3; have a3 := L.a3; have z3 := L.z3; have v3 := L.v3; have t4 := L.t4; have a4 := L.a4; have z4 := L.z4; have v4 := L.v4; have t26 := L.t26; have a26 := L.a26; have z26 := L.z26; have v26 := L.v26; have t37 := L.t37; have a37 := L.a37; have z37 := L.z37; have v37 := L.v37; have t44 := L.t44; have a44 := L.a44; have z44 := L.z44; have v44 := L.v44
  have u44 := run_underlying L.t44
  have eg := K.enter
  have hz := K.small
  obtain ⟨w0, hs0, HI⟩ := (K.start h (ρ.t 44)).swap K h2 a pivot (a : Int) (pivot : Int) rfl rfl (by omega) (by omega)
  have HK := Lib.hid K
  clear K h
  go_enter L.f32, BodyGg.n32_ntmps ρ
  go_wp2_with fail
  go_loopw [9, 10] (fun vi vj wx => ∃ (i j : Nat) (dk : Array α), vi = .int .i64 i ∧ vj = .int .i64 j ∧ a < i ∧ i ≤ j + 1 ∧ j < b ∧ Hid (In g sf V sb blk S w.heap.size w dk wx) ∧ Hid (partEqLoop lt a i j dk = partEqLoop lt a (a + 1) (b - 1) (swp d a pivot))) (fun vi vj _ => (intOf vj).toNat + 1 - (intOf vi).toNat)
  case atStart => exact ⟨a + 1, b - 1, swp d a pivot, by go_num, by go_num, by omega, by omega, by omega, HI, Lib.hid rfl⟩
  case round =>
    obtain ⟨i, j, dk, rfl, rfl, hai, hij, hjb, HR, AE⟩ := hrel
    clear hs0 HI
    go_wp2_with fail
    go_loopw [9] (fun vi wx => ∃ (i' : Nat), vi = .int .i64 i' ∧ i ≤ i' ∧ i' ≤ j + 1 ∧ Hid (In g sf V sb blk S w.heap.size w dk wx) ∧ Hid (scanUp (fun x => !lt dk[a]! x) dk j i' = scanUp (fun x => !lt dk[a]! x) dk j i)) (fun vi _ => j + 1 - (intOf vi).toNat)
    case atStart => exact ⟨i, rfl, Nat.le_refl _, hij, HR, Lib.hid rfl⟩
    case round =>
      obtain ⟨i', rfl, hii, hij', HW, hsc⟩ := hrel
      clear HR
      have c0 := HW.out.c0
      by_cases hle : i' ≤ j
      · have hlez : (i' : Int) ≤ (j : Int) := by omega
        cases hlv : lt dk[a]! dk[i']! with
        | false =>
          have hl := HW.out.less HK.out a i' (a : Int) (i' : Int) _ rfl rfl (by omega) (by omega) hlv
          go_wp2_with (go_at_fn g; refine hl.mono ?_; rintro e w1 ⟨rfl, q1⟩; have Q1 := Lib.hid q1; clear q1)
          go_roundw
          case rel => exact ⟨i' + 1, by go_num, by omega, by omega, Q1, Lib.hid ((scanUp_go (fun x => !lt dk[a]! x) dk j i' hle (by simp [hlv])).symm.trans hsc.out)⟩
          case measure => simp [intOf]; omega
        | true =>
          have hl := HW.out.less HK.out a i' (a : Int) (i' : Int) _ rfl rfl (by omega) (by omega) hlv
          have hi2 : Hid (i' = scanUp (fun x => !lt dk[a]! x) dk j i) := (scanUp_end (fun x => !lt dk[a]! x) dk j i' (Or.inr (by simp [hlv]))).symm.trans hsc.out
          go_wp2_with (go_at_fn g; refine hl.mono ?_; rintro e w1 ⟨rfl, q1⟩; have Q1 := Lib.hid q1; clear q1)
          clear c0 hsc HW
          go_loopw [10] (fun vj wx => ∃ (j' : Nat), vj = .int .i64 j' ∧ j' ≤ j ∧ i' ≤ j' + 1 ∧ Hid (In g sf V sb blk S w.heap.size w dk wx) ∧ Hid (scanDown (fun x => lt dk[a]! x) dk i' j' = scanDown (fun x => lt dk[a]! x) dk i' j)) (fun vj _ => (intOf vj).toNat)
          case atStart => exact ⟨j, rfl, Nat.le_refl _, hij', Q1, Lib.hid rfl⟩
          case round =>
            clear Q1
            obtain ⟨j', rfl, hjj, hij2, HV, hsd⟩ := hrel
            have c0 := HV.out.c0
            by_cases hle2 : i' ≤ j'
            · have hle2z : (i' : Int) ≤ (j' : Int) := by omega
              cases hlv2 : lt dk[a]! dk[j']! with
              | true =>
                have hl := HV.out.less HK.out a j' (a : Int) (j' : Int) _ rfl rfl (by omega) (by omega) hlv2
                go_wp2_with (go_at_fn g; refine hl.mono ?_; rintro e w1 ⟨rfl, q1⟩; have Q1 := Lib.hid q1; clear q1)
                go_roundw
                case rel => exact ⟨j' - 1, by go_num, by omega, by omega, Q1, Lib.hid ((scanDown_go (fun x => lt dk[a]! x) dk i' j' hle2 (by omega) (by simp [hlv2])).symm.trans hsd.out)⟩
                case measure => simp [intOf]; omega
              | false =>
                have hj2 : Hid (j' = scanDown (fun x => lt dk[a]! x) dk i' j) := (scanDown_end (fun x => lt dk[a]! x) dk i' j' (Or.inr (by simp [hlv2]))).symm.trans hsd.out
                have hlt3 := scans_lt lt a i j dk (by omega) hi2.out hj2.out hle2
                have hl := HV.out.less HK.out a j' (a : Int) (j' : Int) _ rfl rfl (by omega) (by omega) hlv2
                clear hsd
                go_wp2_with (go_at_fn g; refine hl.mono ?_; rintro e w1 ⟨rfl, q1⟩; have c1 := q1.c1; obtain ⟨w3, hs, Q3⟩ := q1.swap HK.out (by omega) i' j' (i' : Int) (j' : Int) rfl rfl (by omega) (by omega); clear q1)
                go_roundw
                case rel => exact ⟨i' + 1, j' - 1, swp dk i' j', by go_num, by go_num, by omega, by omega, by omega, Q3, Lib.hid (by rw [← AE.out]; exact (partEq_go lt a i j dk hi2.out hj2.out (by omega)).symm)⟩
                case measure => simp [intOf]; omega
            · have hle2z : ¬ (i' : Int) ≤ (j' : Int) := by omega
              have hj2 : Hid (j' = scanDown (fun x => lt dk[a]! x) dk i' j) := (scanDown_end (fun x => lt dk[a]! x) dk i' j' (Or.inl hle2)).symm.trans hsd.out
              clear hsd
              go_wp2_with fail
              go_ret
              have e := partEq_break lt a i j dk hi2.out hj2.out (by omega)
              rw [show Sort.partitionEqual lt d a b pivot = (i', dk) by unfold Sort.partitionEqual; rw [← AE.out, e]]
              exact HV.out.done
      · have hlez : ¬ (i' : Int) ≤ (j : Int) := by omega
        have hi2 : Hid (i' = scanUp (fun x => !lt dk[a]! x) dk j i) := (scanUp_end (fun x => !lt dk[a]! x) dk j i' (Or.inl hle)).symm.trans hsc.out
        go_wp2_with fail
        clear c0 hsc
        go_loopw [10] (fun vj wx => ∃ (j' : Nat), vj = .int .i64 j' ∧ j' ≤ j ∧ i' ≤ j' + 1 ∧ Hid (In g sf V sb blk S w.heap.size w dk wx) ∧ Hid (scanDown (fun x => lt dk[a]! x) dk i' j' = scanDown (fun x => lt dk[a]! x) dk i' j)) (fun vj _ => (intOf vj).toNat)
        case atStart => exact ⟨j, rfl, Nat.le_refl _, hij', HW, Lib.hid rfl⟩
        case round =>
          clear HW
          obtain ⟨j', rfl, hjj, hij2, HV, hsd⟩ := hrel
          have c0 := HV.out.c0
          by_cases hle2 : i' ≤ j'
          · exfalso; omega
          · have hle2z : ¬ (i' : Int) ≤ (j' : Int) := by omega
            have hj2 : Hid (j' = scanDown (fun x => lt dk[a]! x) dk i' j) := (scanDown_end (fun x => lt dk[a]! x) dk i' j' (Or.inl hle2)).symm.trans hsd.out
            clear hsd
            go_wp2_with fail
            go_ret
            have e := partEq_break lt a i j dk hi2.out hj2.out (by omega)
            rw [show Sort.partitionEqual lt d a b pivot = (i', dk) by unfold Sort.partitionEqual; rw [← AE.out, e]]
            exact HV.out.done

set_option maxHeartbeats 12800000 in
set_option maxRecDepth 100000 in
theorem part_any (L : LaysGg.n33 P ρ) (K : Srt P g sf V sb lt size blk base S) (h2 : 2 ≤ size) {d : Array α} {w : World} (h : S d w) (a b pivot : Nat) (hap : a ≤ pivot) (hpb : pivot < b) (hb : b ≤ size) :
    Calls P (ρ.f 33) #[.agg #[.func (.func g) #[V] #[], .func (.func sf) #[] sb], .int .i64 a, .int .i64 b, .int .i64 pivot] w (Done S blk w (Sort.partition lt d a b pivot).2.2 (.tuple #[.int .i64 (Sort.partition lt d a b pivot).1, .bool (Sort.partition lt d a b pivot).2.1])) := by
  have mixed := L.mixed; have t0 := L.t0; have a0 := L.a0; have z0 := L.z0; have v0 := L.v0; have t3 := L.t3; have a3 := L.a3; have z3 := L.z3; have v3 := L.v3; have t4 := L.t4; have a4 := L.a4; have z4 := L.z4; have v4 := L.v4; have t26 := L.t26; have a26 := L.a26; have z26 := L.z26; have v26 := L.v26; have t37 := L.t37; have a37 := L.a37; have z37 := L.z37; have v37 := L.v37; have t44 := L.t44; have a44 := L.a44; have z44 := L.z44; have v44 := L.v44
  have u44 := run_underlying L.t44
  have eg := K.enter
  have hz := K.small
  obtain ⟨w0, hs0, HI⟩ := (K.start h (ρ.t 44)).swap K h2 a pivot (a : Int) (pivot : Int) rfl rfl (by omega) (by omega)
  have HK := Lib.hid K
  clear K h
  obtain ⟨i, hi⟩ : ∃ i : Nat, i = a + 1 := ⟨_, rfl⟩
  obtain ⟨j, hj⟩ : ∃ j : Nat, j = b - 1 := ⟨_, rfl⟩
  obtain ⟨dk, hdk⟩ : ∃ dk : Array α, dk = swp d a pivot := ⟨_, rfl⟩
  rw [← hdk] at HI
  have hai : a < i := by omega
  have hij : i ≤ j + 1 := by omega
  have hjb : j < b := by omega
  have Hi := Lib.hid hi
  have Hj := Lib.hid hj
  have Hdk := Lib.hid hdk
  have HR := HI
  clear HI hi hj hdk
  go_enter L.f33, BodyGg.n33_ntmps ρ
  go_wp2_with fail
  rw [show ((a : Int) + 1) = (i : Int) by have := Hi.out; omega, show ((b : Int) - 1) = (j : Int) by have := Hj.out; omega]
  go_loopw [10] (fun vi wx => ∃ (i' : Nat), vi = .int .i64 i' ∧ i ≤ i' ∧ i' ≤ j + 1 ∧ Hid (In g sf V sb blk S w.heap.size w dk wx) ∧ Hid (scanUp (fun x => lt x dk[a]!) dk j i' = scanUp (fun x => lt x dk[a]!) dk j i)) (fun vi _ => j + 1 - (intOf vi).toNat)
  case atStart => exact ⟨i, rfl, Nat.le_refl _, hij, HR, Lib.hid rfl⟩
  case round =>
    obtain ⟨i', rfl, hii, hij', HW, hsc⟩ := hrel
    clear HR
    have c0 := HW.out.c0
    by_cases hle : i' ≤ j
    · have hlez : (i' : Int) ≤ (j : Int) := by omega
      cases hlv : lt dk[i']! dk[a]! with
      | true =>
        have hl := HW.out.less HK.out i' a (i' : Int) (a : Int) _ rfl rfl (by omega) (by omega) hlv
        go_wp2_with (go_at_fn g; refine hl.mono ?_; rintro e w1 ⟨rfl, q1⟩; have Q1 := Lib.hid q1; clear q1)
        go_roundw
        case rel => exact ⟨i' + 1, by go_num, by omega, by omega, Q1, Lib.hid ((scanUp_go (fun x => lt x dk[a]!) dk j i' hle (by simp [hlv])).symm.trans hsc.out)⟩
        case measure => simp [intOf]; omega
      | false =>
        have hl := HW.out.less HK.out i' a (i' : Int) (a : Int) _ rfl rfl (by omega) (by omega) hlv
        have hi2 : Hid (i' = scanUp (fun x => lt x dk[a]!) dk j i) := (scanUp_end (fun x => lt x dk[a]!) dk j i' (Or.inr (by simp [hlv]))).symm.trans hsc.out
        go_wp2_with (go_at_fn g; refine hl.mono ?_; rintro e w1 ⟨rfl, q1⟩; have Q1 := Lib.hid q1; clear q1)
        clear c0 hsc HW
        go_loopw [11] (fun vj wx => ∃ (j' : Nat), vj = .int .i64 j' ∧ j' ≤ j ∧ i' ≤ j' + 1 ∧ Hid (In g sf V sb blk S w.heap.size w dk wx) ∧ Hid (scanDown (fun x => !lt x dk[a]!) dk i' j' = scanDown (fun x => !lt x dk[a]!) dk i' j)) (fun vj _ => (intOf vj).toNat)
        case atStart => exact ⟨j, rfl, Nat.le_refl _, hij', Q1, Lib.hid rfl⟩
        case round =>
          clear Q1
          obtain ⟨j', rfl, hjj, hij2, HV, hsd⟩ := hrel
          have c0 := HV.out.c0
          by_cases hle2 : i' ≤ j'
          · have hle2z : (i' : Int) ≤ (j' : Int) := by omega
            cases hlv2 : lt dk[j']! dk[a]! with
            | false =>
              have hl := HV.out.less HK.out j' a (j' : Int) (a : Int) _ rfl rfl (by omega) (by omega) hlv2
              go_wp2_with (go_at_fn g; refine hl.mono ?_; rintro e w1 ⟨rfl, q1⟩; have Q1 := Lib.hid q1; clear q1)
              go_roundw
              case rel => exact ⟨j' - 1, by go_num, by omega, by omega, Q1, Lib.hid ((scanDown_go (fun x => !lt x dk[a]!) dk i' j' hle2 (by omega) (by simp [hlv2])).symm.trans hsd.out)⟩
              case measure => simp [intOf]; omega
            | true =>
              have hj2 : Hid (j' = scanDown (fun x => !lt x dk[a]!) dk i' j) := (scanDown_end (fun x => !lt x dk[a]!) dk i' j' (Or.inr (by simp [hlv2]))).symm.trans hsd.out
              have hlt3 := part_scans_lt lt a i j dk (by omega) hi2.out hj2.out hle2
              have hl := HV.out.less HK.out j' a (j' : Int) (a : Int) _ rfl rfl (by omega) (by omega) hlv2
              clear hsd
              go_wp2_with (go_at_fn g; refine hl.mono ?_; rintro e w1 ⟨rfl, q1⟩; have c1 := q1.c1; obtain ⟨w3, hs, Q3⟩ := q1.swap HK.out (by omega) i' j' (i' : Int) (j' : Int) rfl rfl (by omega) (by omega); clear q1)
              rw [decide_eq_false (show ¬ j' < i' by omega)]
              obtain ⟨I0, hI0⟩ : ∃ I0 : Nat, I0 = i' + 1 := ⟨_, rfl⟩
              obtain ⟨J0, hJ0⟩ : ∃ J0 : Nat, J0 = j' - 1 := ⟨_, rfl⟩
              obtain ⟨D0, hD0⟩ : ∃ D0 : Array α, D0 = swp dk i' j' := ⟨_, rfl⟩
              have PF : Hid (Sort.partition lt d a b pivot = ((partLoop lt a I0 J0 D0).1, false, swp (partLoop lt a I0 J0 D0).2 (partLoop lt a I0 J0 D0).1 a)) := by
                show _ = _
                rw [hI0, hJ0, hD0]; exact part_first_go lt d a b pivot Hi.out Hj.out Hdk.out hi2.out hj2.out (by omega)
              go_loopw [10, 11] (fun vi vj wx => ∃ (i j : Nat) (dk : Array α), vi = .int .i64 i ∧ vj = .int .i64 j ∧ a < i ∧ i ≤ j + 1 ∧ j < b ∧ Hid (In g sf V sb blk S w.heap.size w dk wx) ∧ Hid (partLoop lt a i j dk = partLoop lt a I0 J0 D0)) (fun vi vj _ => (intOf vj).toNat + 1 - (intOf vi).toNat)
              case atStart => exact ⟨i' + 1, j' - 1, swp dk i' j', by go_num, by go_num, by omega, by omega, by omega, Q3, Lib.hid (by rw [hI0, hJ0, hD0])⟩
              case round =>
                clear hI0 hJ0 hD0 hs Q3 hj2 hi2 hlt3 c0 hl Hi Hj Hdk HV
                obtain ⟨i, j, dk, rfl, rfl, hai, hij, hjb, HR, AE⟩ := hrel
                go_wp2_with fail
                go_loopw [10] (fun vi wx => ∃ (i' : Nat), vi = .int .i64 i' ∧ i ≤ i' ∧ i' ≤ j + 1 ∧ Hid (In g sf V sb blk S w.heap.size w dk wx) ∧ Hid (scanUp (fun x => lt x dk[a]!) dk j i' = scanUp (fun x => lt x dk[a]!) dk j i)) (fun vi _ => j + 1 - (intOf vi).toNat)
                case atStart => exact ⟨i, rfl, Nat.le_refl _, hij, HR, Lib.hid rfl⟩
                case round =>
                  obtain ⟨i', rfl, hii, hij', HW, hsc⟩ := hrel
                  clear HR
                  have c0 := HW.out.c0
                  by_cases hle : i' ≤ j
                  · have hlez : (i' : Int) ≤ (j : Int) := by omega
                    cases hlv : lt dk[i']! dk[a]! with
                    | true =>
                      have hl := HW.out.less HK.out i' a (i' : Int) (a : Int) _ rfl rfl (by omega) (by omega) hlv
                      go_wp2_with (go_at_fn g; refine hl.mono ?_; rintro e w1 ⟨rfl, q1⟩; have Q1 := Lib.hid q1; clear q1)
                      go_roundw
                      case rel => exact ⟨i' + 1, by go_num, by omega, by omega, Q1, Lib.hid ((scanUp_go (fun x => lt x dk[a]!) dk j i' hle (by simp [hlv])).symm.trans hsc.out)⟩
                      case measure => simp [intOf]; omega
                    | false =>
                      have hl := HW.out.less HK.out i' a (i' : Int) (a : Int) _ rfl rfl (by omega) (by omega) hlv
                      have hi2 : Hid (i' = scanUp (fun x => lt x dk[a]!) dk j i) := (scanUp_end (fun x => lt x dk[a]!) dk j i' (Or.inr (by simp [hlv]))).symm.trans hsc.out
                      go_wp2_with (go_at_fn g; refine hl.mono ?_; rintro e w1 ⟨rfl, q1⟩; have Q1 := Lib.hid q1; clear q1)
                      clear c0 hsc HW
                      go_loopw [11] (fun vj wx => ∃ (j' : Nat), vj = .int .i64 j' ∧ j' ≤ j ∧ i' ≤ j' + 1 ∧ Hid (In g sf V sb blk S w.heap.size w dk wx) ∧ Hid (scanDown (fun x => !lt x dk[a]!) dk i' j' = scanDown (fun x => !lt x dk[a]!) dk i' j)) (fun vj _ => (intOf vj).toNat)
                      case atStart => exact ⟨j, rfl, Nat.le_refl _, hij', Q1, Lib.hid rfl⟩
                      case round =>
                        clear Q1
                        obtain ⟨j', rfl, hjj, hij2, HV, hsd⟩ := hrel
                        have c0 := HV.out.c0
                        by_cases hle2 : i' ≤ j'
                        · have hle2z : (i' : Int) ≤ (j' : Int) := by omega
                          cases hlv2 : lt dk[j']! dk[a]! with
                          | false =>
                            have hl := HV.out.less HK.out j' a (j' : Int) (a : Int) _ rfl rfl (by omega) (by omega) hlv2
                            go_wp2_with (go_at_fn g; refine hl.mono ?_; rintro e w1 ⟨rfl, q1⟩; have Q1 := Lib.hid q1; clear q1)
                            go_roundw
                            case rel => exact ⟨j' - 1, by go_num, by omega, by omega, Q1, Lib.hid ((scanDown_go (fun x => !lt x dk[a]!) dk i' j' hle2 (by omega) (by simp [hlv2])).symm.trans hsd.out)⟩
                            case measure => simp [intOf]; omega
                          | true =>
                            have hj2 : Hid (j' = scanDown (fun x => !lt x dk[a]!) dk i' j) := (scanDown_end (fun x => !lt x dk[a]!) dk i' j' (Or.inr (by simp [hlv2]))).symm.trans hsd.out
                            have hlt3 := part_scans_lt lt a i j dk (by omega) hi2.out hj2.out hle2
                            have hl := HV.out.less HK.out j' a (j' : Int) (a : Int) _ rfl rfl (by omega) (by omega) hlv2
                            clear hsd
                            go_wp2_with (go_at_fn g; refine hl.mono ?_; rintro e w1 ⟨rfl, q1⟩; have c1 := q1.c1; obtain ⟨w3, hs, Q3⟩ := q1.swap HK.out (by omega) i' j' (i' : Int) (j' : Int) rfl rfl (by omega) (by omega); clear q1)
                            go_roundw
                            case rel => exact ⟨i' + 1, j' - 1, swp dk i' j', by go_num, by go_num, by omega, by omega, by omega, Q3, Lib.hid (by rw [← AE.out]; exact (part_go lt a i j dk hi2.out hj2.out (by omega)).symm)⟩
                            case measure => simp [intOf]; omega
                        · have hle2z : ¬ (i' : Int) ≤ (j' : Int) := by omega
                          have hj2 : Hid (j' = scanDown (fun x => !lt x dk[a]!) dk i' j) := (scanDown_end (fun x => !lt x dk[a]!) dk i' j' (Or.inl hle2)).symm.trans hsd.out
                          clear hsd
                          have c1 := HV.out.c1
                          obtain ⟨w3, hs, Q3⟩ := HV.out.swap HK.out (by omega) j' a (j' : Int) (a : Int) rfl rfl (by omega) (by omega)
                          go_wp2_with fail
                          go_ret2
                          have e := part_break lt a i j dk hi2.out hj2.out (by omega)
                          rw [PF.out, ← AE.out, e]
                          exact Q3.out.done
                  · have hlez : ¬ (i' : Int) ≤ (j : Int) := by omega
                    have hi2 : Hid (i' = scanUp (fun x => lt x dk[a]!) dk j i) := (scanUp_end (fun x => lt x dk[a]!) dk j i' (Or.inl hle)).symm.trans hsc.out
                    go_wp2_with fail
                    clear c0 hsc
                    go_loopw [11] (fun vj wx => ∃ (j' : Nat), vj = .int .i64 j' ∧ j' ≤ j ∧ i' ≤ j' + 1 ∧ Hid (In g sf V sb blk S w.heap.size w dk wx) ∧ Hid (scanDown (fun x => !lt x dk[a]!) dk i' j' = scanDown (fun x => !lt x dk[a]!) dk i' j)) (fun vj _ => (intOf vj).toNat)
                    case atStart => exact ⟨j, rfl, Nat.le_refl _, hij', HW, Lib.hid rfl⟩
                    case round =>
                      clear HW
                      obtain ⟨j', rfl, hjj, hij2, HV, hsd⟩ := hrel
                      have c0 := HV.out.c0
                      by_cases hle2 : i' ≤ j'
                      · exfalso; omega
                      · have hle2z : ¬ (i' : Int) ≤ (j' : Int) := by omega
                        have hj2 : Hid (j' = scanDown (fun x => !lt x dk[a]!) dk i' j) := (scanDown_end (fun x => !lt x dk[a]!) dk i' j' (Or.inl hle2)).symm.trans hsd.out
                        clear hsd
                        have c1 := HV.out.c1
                        obtain ⟨w3, hs, Q3⟩ := HV.out.swap HK.out (by omega) j' a (j' : Int) (a : Int) rfl rfl (by omega) (by omega)
                        go_wp2_with fail
                        go_ret2
                        have e := part_break lt a i j dk hi2.out hj2.out (by omega)
                        rw [PF.out, ← AE.out, e]
                        exact Q3.out.done
          · have hle2z : ¬ (i' : Int) ≤ (j' : Int) := by omega
            have hj2 : Hid (j' = scanDown (fun x => !lt x dk[a]!) dk i' j) := (scanDown_end (fun x => !lt x dk[a]!) dk i' j' (Or.inl hle2)).symm.trans hsd.out
            clear hsd
            have c1 := HV.out.c1
            obtain ⟨w3, hs, Q3⟩ := HV.out.swap HK.out (by omega) j' a (j' : Int) (a : Int) rfl rfl (by omega) (by omega)
            go_wp2_with fail
            go_ret2
            have e := part_first_break lt d a b pivot Hi.out Hj.out Hdk.out hi2.out hj2.out (by omega)
            rw [e]
            exact Q3.out.done
    · have hlez : ¬ (i' : Int) ≤ (j : Int) := by omega
      have hi2 : Hid (i' = scanUp (fun x => lt x dk[a]!) dk j i) := (scanUp_end (fun x => lt x dk[a]!) dk j i' (Or.inl hle)).symm.trans hsc.out
      go_wp2_with fail
      clear c0 hsc
      go_loopw [11] (fun vj wx => ∃ (j' : Nat), vj = .int .i64 j' ∧ j' ≤ j ∧ i' ≤ j' + 1 ∧ Hid (In g sf V sb blk S w.heap.size w dk wx) ∧ Hid (scanDown (fun x => !lt x dk[a]!) dk i' j' = scanDown (fun x => !lt x dk[a]!) dk i' j)) (fun vj _ => (intOf vj).toNat)
      case atStart => exact ⟨j, rfl, Nat.le_refl _, hij', HW, Lib.hid rfl⟩
      case round =>
        clear HW
        obtain ⟨j', rfl, hjj, hij2, HV, hsd⟩ := hrel
        have c0 := HV.out.c0
        by_cases hle2 : i' ≤ j'
        · exfalso; omega
        · have hle2z : ¬ (i' : Int) ≤ (j' : Int) := by omega
          have hj2 : Hid (j' = scanDown (fun x => !lt x dk[a]!) dk i' j) := (scanDown_end (fun x => !lt x dk[a]!) dk i' j' (Or.inl hle2)).symm.trans hsd.out
          clear hsd
          have c1 := HV.out.c1
          obtain ⟨w3, hs, Q3⟩ := HV.out.swap HK.out (by omega) j' a (j' : Int) (a : Int) rfl rfl (by omega) (by omega)
          go_wp2_with fail
          go_ret2
          have e := part_first_break lt d a b pivot Hi.out Hj.out Hdk.out hi2.out hj2.out (by omega)
          rw [e]
          exact Q3.out.done
end Srt16
end Go.Proofs.YtmmgmcfhlhghoaaGreatDoor

