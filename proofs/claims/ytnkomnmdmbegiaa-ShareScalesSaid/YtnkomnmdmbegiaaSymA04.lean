/- The library's stable sort: the merge of two sorted runs in place, where one of them is one element alone. -/
import Derived.Test.YtnkomnmdmbegiaaRot04
import Derived.Deep.DeepCutAuto
namespace Go.Proofs.Ytnkomnmdmbegiaa
open Go.RowKit Go.Sort Go.Lib Go.Shelf
namespace L04
variable {P : Program} {α : Type} [Inhabited α]

theorem run_alone {lx : α → α → Bool} (a : Nat) (d : Array α) : SortedIn lx a (a + 1) d := fun i j h1 h2 h3 => by omega

set_option maxHeartbeats 16000000 in
set_option maxRecDepth 1000000 in
theorem symMerge_left (k : Nat) (L : Stable P k) (enc : α → List Value) (cf : α → α → Int) (lx : α → α → Bool) (ah : α → α → Prop) (hS : SWO lx) (hx : ∀ x y, ah x y → ltOf cf y x = lx y x) (g : Nat) (cb : Array Value) (blk off cap : Nat) (d0 : Array α) (w0 : World)
    (eg : ∀ args w, (callFunc g args).run P w = .ok (.enter g args) w) (hcmp : CmpLays P g cb enc k cf blk off d0.size w0) (R : RowK enc k w0 blk off d0)
    (a b : Nat) (d : Array α) (w : World) (hs : d0.size = d.size) (S : SWK enc k w0 blk off d w) (hmb : a + 1 < b) (hb : b ≤ d.size) (hsz : d.size < 4611686018427387904) (H : Runs lx ah a (a + 1) b d) :
    Calls P 31 #[.slice (some ⟨blk, off, none⟩) d.size cap, .int .i64 a, .int .i64 (a + 1 : Nat), .int .i64 b, .func (.func g) #[] cb] w fun e w' => e = .returned (.tuple #[]) ∧ ∃ d', PermIn a b d d' ∧ SortedIn lx a b d' ∧ SWK enc k w0 blk off d' w' := by
  have mixed := L.mixed; have t0 := L.t0; have a0 := L.a0; have z0 := L.z0; have v0 := L.v0; have t3 := L.t3; have a3 := L.a3; have z3 := L.z3; have v3 := L.v3; have t4 := L.t4; have a4 := L.a4; have z4 := L.z4; have v4 := L.v4
  have tu := L.tu; have au := L.au; have zu := L.zu; have vu := L.vu
  have ts := L.ts; have asl := L.asl; have zs := L.zs; have vs := L.vs; have tc := L.tc; have ac := L.ac; have zc := L.zc; have vc := L.vc; have aE := L.aE; have zE := L.zE
  have FG := L.fSym
  have HC : Aside _ := hcmp
  have HX : Aside _ := hx
  clear hcmp L hx
  have S0 : Aside (SWK enc k w0 blk off d w) := S
  have RU : Aside (Runs lx ah a (a + 1) b d) := H
  clear S H
  have hA1 : ((a : Int) + 1) - (a : Int) = 1 := by omega
  go_enter FG, Try.ntmps31
  go_wp2
  go_loopg [10, 11] (b - a) (fun kx s10 s11 wr => ∃ (i j : Nat), s10 = .int .i64 i ∧ s11 = .int .i64 j ∧ a + 1 ≤ i ∧ i ≤ j ∧ j ≤ b ∧ j - i ≤ kx ∧ Aside (SWK enc k w0 blk off d wr) ∧
    Aside ((a + 1 < i → lx d[i - 1]! d[a]! = true) ∧ (j < b → lx d[j]! d[a]! = false)))
  case atStart => exact ⟨a + 1, b, by go_num, rfl, by omega, by omega, by omega, by omega, S0, (⟨fun h => absurd h (by omega), fun h => absurd h (by omega)⟩ : (a + 1 < a + 1 → lx d[a + 1 - 1]! d[a]! = true) ∧ (b < b → lx d[b]! d[a]! = false))⟩
  case round =>
    clear S0
    obtain ⟨i, j, rfl, rfl, hai, hij, hjb, hkx, S1, I⟩ := hrel
    by_cases hlt : i < j
    · have hltz : (i : Int) < (j : Int) := by omega
      have eh : ((i : Int) + (j : Int)) / 2 = (((i + j) / 2 : Nat) : Int) := by omega
      obtain ⟨h, hh⟩ : ∃ h, h = (i + j) / 2 := ⟨_, rfl⟩
      rw [← hh] at eh
      have hb1 : i ≤ h := by omega
      have hb2 : h < j := by omega
      clear hh
      have bh : (h : Int) < (d.size : Int) := by omega
      have ba : (a : Int) < (d.size : Int) := by omega
      obtain ⟨xj, hxj⟩ : ∃ x, x = d[h]! := ⟨_, rfl⟩
      obtain ⟨xp, hxp⟩ : ∃ x, x = d[a]! := ⟨_, rfl⟩
      have lj := S1.out.ld R (by omega) P h (by omega)
      have lp := S1.out.ld R (by omega) P a (by omega)
      rw [← hxj] at lj
      rw [← hxp] at lp
      have hcg := S1.out.cmp HC.out (by omega) xj xp
      have AH : Hid (ltOf cf d[h]! d[a]! = lx d[h]! d[a]!) := HX.out _ _ (RU.out.ahead a h (by omega) (by omega) (by omega) (by omega))
      by_cases hlv : cf xj xp < 0
      · have HL : Hid (lx d[h]! d[a]! = true) := by show _ = _; rw [← AH.out, ← hxj, ← hxp]; exact decide_eq_true hlv
        clear hxj hxp AH
        go_wp2_with fail
        go_quiet_grown (first | (go_at_fn g; refine Calls.grown_of (hcg _ _)))
        have S2 : Aside (SWK enc k w0 blk off d (grow (wr.drewN nq) osq)) := S1.out.grown nq osq
        clear lj lp hcg S1
        generalize grow (wr.drewN nq) osq = w2 at S2 ⊢
        clear nq osq
        go_wp2
        go_roundg (j - (h + 1))
        case measure => omega
        case rel => exact ⟨h + 1, j, by go_num, rfl, by omega, by omega, hjb, Nat.le_refl _, S2, (⟨fun _ => by rw [Nat.add_sub_cancel]; exact HL.out, I.out.2⟩ : (a + 1 < h + 1 → lx d[h + 1 - 1]! d[a]! = true) ∧ (j < b → lx d[j]! d[a]! = false))⟩
      · have HL : Hid (lx d[h]! d[a]! = false) := by show _ = _; rw [← AH.out, ← hxj, ← hxp]; exact decide_eq_false hlv
        clear hxj hxp AH
        go_wp2_with fail
        go_quiet_grown (first | (go_at_fn g; refine Calls.grown_of (hcg _ _)))
        have S2 : Aside (SWK enc k w0 blk off d (grow (wr.drewN nq) osq)) := S1.out.grown nq osq
        clear lj lp hcg S1
        generalize grow (wr.drewN nq) osq = w2 at S2 ⊢
        clear nq osq
        go_wp2
        go_roundg (h - i)
        case measure => omega
        case rel => exact ⟨i, h, rfl, rfl, hai, hb1, by omega, Nat.le_refl _, S2, (⟨I.out.1, fun _ => HL.out⟩ : (a + 1 < i → lx d[i - 1]! d[a]! = true) ∧ (h < b → lx d[h]! d[a]! = false))⟩
    · obtain rfl : i = j := by omega
      have hltz : ¬ (i : Int) < (i : Int) := by omega
      obtain ⟨q, rfl⟩ : ∃ q, i = q + 1 := ⟨i - 1, by omega⟩
      have hM := merged_one hS RU.out (by omega) hjb hb (fun h => I.out.2 h) (fun h => SWO.asymmA hS (I.out.1 h))
      have HM : Aside _ := hM
      clear hM I
      go_wp2
      go_loopg [13] (q - a) (fun kx s13 wr => ∃ (t : Nat), s13 = .int .i64 t ∧ a ≤ t ∧ t ≤ q ∧ q - t ≤ kx ∧ Aside (SWK enc k w0 blk off (rot d a (a + 1) (t + 1)) wr))
      case atStart => exact ⟨a, rfl, Nat.le_refl _, by omega, by omega, by rw [rot_none_right]; exact S1⟩
      case round =>
        clear S1
        obtain ⟨t, rfl, hat, htq, hkx2, S1⟩ := hrel
        by_cases hlt2 : t < q
        · have hltz2 : (t : Int) < (q : Int) := by omega
          go_wp2_with fail
          have ec44 : ((t : Int) + 1).toNat = t + 1 := by omega
          have pc44 : (0 : Int) ≤ (t : Int) + 1 := by omega
          have ba44 : (t : Int) < (d.size : Int) := by omega
          have bc44 : (t : Int) + 1 < (d.size : Int) := by omega
          have rc44 : IntKind.i64.wrap ((t : Int) + 1) = (t : Int) + 1 := by rw [IntKind.wrap_i64]; omega
          have hsr : (rot d a (a + 1) (t + 1)).size = d.size := size_rot _ _ _ _
          have hst := rot_right_step d a t hat (by omega)
          generalize gdk : rot d a (a + 1) (t + 1) = dk at *
          have S3 : Aside (SWK enc k w0 blk off (swp dk t (t + 1)) ((wr.drew.setCells blk (off + t * k) (enc dk[t + 1]!)).setCells blk (off + (t + 1) * k) (enc dk[t]!))) := S1.out.swapped R t (t + 1) (by omega) (by omega)
          have l44a := S1.out.ld1 R (by omega) P t (by omega)
          have l44b := S1.out.ld1 R (by omega) P (t + 1) (by omega)
          have s44a := S1.out.st1 R (by omega) P t (by omega) dk[t + 1]!
          have s44b := S1.out.st2 R (by omega) P t (t + 1) (by omega) (by omega) dk[t + 1]! dk[t]!
          have n44a : (enc dk[t]!).length = k := R.hk _
          have n44b : (enc dk[t + 1]!).length = k := R.hk _
          generalize enc dk[t]! = cI44 at S3 l44a s44b n44a
          generalize enc dk[t + 1]! = cJ44 at S3 l44b s44a s44b n44b
          have HST : Hid (swp dk t (t + 1) = rot d a (a + 1) (t + 2)) := hst
          have GD : Hid (rot d a (a + 1) (t + 1) = dk) := gdk
          clear S1 hst gdk
          go_wp2_with fail
          go_big_region_o
          clear l44a l44b s44a s44b
          generalize (wr.drew.setCells blk (off + t * k) cJ44).setCells blk (off + (t + 1) * k) cI44 = w3 at S3 ⊢
          go_wp2
          go_roundg (q - (t + 1))
          case measure => omega
          case rel => exact ⟨t + 1, by go_num, by omega, by omega, Nat.le_refl _, by rw [show t + 1 + 1 = t + 2 from rfl, ← HST.out]; exact S3⟩
        · have hltz2 : ¬ (t : Int) < (q : Int) := by omega
          obtain rfl : t = q := by omega
          go_wp2
          (try simp only [Exit.inBlock, Exit.then]); refine bodyPost_ret (results_none rfl _ _ _) rfl ?_
          exact ⟨rfl, _, HM.out.1, HM.out.2, S1.out⟩

set_option maxHeartbeats 16000000 in
set_option maxRecDepth 1000000 in
theorem symMerge_right (k : Nat) (L : Stable P k) (enc : α → List Value) (cf : α → α → Int) (lx : α → α → Bool) (ah : α → α → Prop) (hS : SWO lx) (hx : ∀ x y, ah x y → ltOf cf y x = lx y x) (g : Nat) (cb : Array Value) (blk off cap : Nat) (d0 : Array α) (w0 : World)
    (eg : ∀ args w, (callFunc g args).run P w = .ok (.enter g args) w) (hcmp : CmpLays P g cb enc k cf blk off d0.size w0) (R : RowK enc k w0 blk off d0)
    (a m : Nat) (d : Array α) (w : World) (hs : d0.size = d.size) (S : SWK enc k w0 blk off d w) (ham : a + 1 < m) (hb : m + 1 ≤ d.size) (hsz : d.size < 4611686018427387904) (H : Runs lx ah a m (m + 1) d) :
    Calls P 31 #[.slice (some ⟨blk, off, none⟩) d.size cap, .int .i64 a, .int .i64 m, .int .i64 (m + 1 : Nat), .func (.func g) #[] cb] w fun e w' => e = .returned (.tuple #[]) ∧ ∃ d', PermIn a (m + 1) d d' ∧ SortedIn lx a (m + 1) d' ∧ SWK enc k w0 blk off d' w' := by
  have mixed := L.mixed; have t0 := L.t0; have a0 := L.a0; have z0 := L.z0; have v0 := L.v0; have t3 := L.t3; have a3 := L.a3; have z3 := L.z3; have v3 := L.v3; have t4 := L.t4; have a4 := L.a4; have z4 := L.z4; have v4 := L.v4
  have tu := L.tu; have au := L.au; have zu := L.zu; have vu := L.vu
  have ts := L.ts; have asl := L.asl; have zs := L.zs; have vs := L.vs; have tc := L.tc; have ac := L.ac; have zc := L.zc; have vc := L.vc; have aE := L.aE; have zE := L.zE
  have FG := L.fSym
  have HC : Aside _ := hcmp
  have HX : Aside _ := hx
  clear hcmp L hx
  have S0 : Aside (SWK enc k w0 blk off d w) := S
  have RU : Aside (Runs lx ah a m (m + 1) d) := H
  clear S H
  have hA1 : ((m : Int) - (a : Int) == 1) = false := by rw [beq_eq_false_iff_ne]; omega
  have hB1 : ((m : Int) + 1) - (m : Int) = 1 := by omega
  go_enter FG, Try.ntmps31
  go_wp2
  go_loopg [14, 15] (m - a) (fun kx s14 s15 wr => ∃ (i j : Nat), s14 = .int .i64 i ∧ s15 = .int .i64 j ∧ a ≤ i ∧ i ≤ j ∧ j ≤ m ∧ j - i ≤ kx ∧ Aside (SWK enc k w0 blk off d wr) ∧
    Aside ((a < i → lx d[m]! d[i - 1]! = false) ∧ (j < m → lx d[m]! d[j]! = true)))
  case atStart => exact ⟨a, m, rfl, rfl, by omega, by omega, by omega, by omega, S0, (⟨fun h => absurd h (by omega), fun h => absurd h (by omega)⟩ : (a < a → lx d[m]! d[a - 1]! = false) ∧ (m < m → lx d[m]! d[m]! = true))⟩
  case round =>
    clear S0
    obtain ⟨i, j, rfl, rfl, hai, hij, hjb, hkx, S1, I⟩ := hrel
    by_cases hlt : i < j
    · have hltz : (i : Int) < (j : Int) := by omega
      have eh : ((i : Int) + (j : Int)) / 2 = (((i + j) / 2 : Nat) : Int) := by omega
      obtain ⟨h, hh⟩ : ∃ h, h = (i + j) / 2 := ⟨_, rfl⟩
      rw [← hh] at eh
      have hb1 : i ≤ h := by omega
      have hb2 : h < j := by omega
      clear hh
      have bh : (h : Int) < (d.size : Int) := by omega
      have ba : (m : Int) < (d.size : Int) := by omega
      obtain ⟨xj, hxj⟩ : ∃ x, x = d[m]! := ⟨_, rfl⟩
      obtain ⟨xp, hxp⟩ : ∃ x, x = d[h]! := ⟨_, rfl⟩
      have lj := S1.out.ld R (by omega) P m (by omega)
      have lp := S1.out.ld R (by omega) P h (by omega)
      rw [← hxj] at lj
      rw [← hxp] at lp
      have hcg := S1.out.cmp HC.out (by omega) xj xp
      have AH : Hid (ltOf cf d[m]! d[h]! = lx d[m]! d[h]!) := HX.out _ _ (RU.out.ahead h m (by omega) (by omega) (by omega) (by omega))
      by_cases hlv : cf xj xp < 0
      · have HL : Hid (lx d[m]! d[h]! = true) := by show _ = _; rw [← AH.out, ← hxj, ← hxp]; exact decide_eq_true hlv
        clear hxj hxp AH
        go_wp2_with fail
        go_quiet_grown (first | (go_at_fn g; refine Calls.grown_of (hcg _ _)))
        have S2 : Aside (SWK enc k w0 blk off d (grow (wr.drewN nq) osq)) := S1.out.grown nq osq
        clear lj lp hcg S1
        generalize grow (wr.drewN nq) osq = w2 at S2 ⊢
        clear nq osq
        go_wp2
        go_roundg (h - i)
        case measure => omega
        case rel => exact ⟨i, h, rfl, rfl, hai, hb1, by omega, Nat.le_refl _, S2, (⟨I.out.1, fun _ => HL.out⟩ : (a < i → lx d[m]! d[i - 1]! = false) ∧ (h < m → lx d[m]! d[h]! = true))⟩
      · have HL : Hid (lx d[m]! d[h]! = false) := by show _ = _; rw [← AH.out, ← hxj, ← hxp]; exact decide_eq_false hlv
        have hd : decide (cf xj xp < 0) = false := decide_eq_false hlv
        clear hxj hxp AH
        go_wp2_with fail
        go_quiet_grown (first | (go_at_fn g; refine Calls.grown_of (hcg _ _)))
        have S2 : Aside (SWK enc k w0 blk off d (grow (wr.drewN nq) osq)) := S1.out.grown nq osq
        clear lj lp hcg S1
        generalize grow (wr.drewN nq) osq = w2 at S2 ⊢
        clear nq osq
        go_wp2
        go_roundg (j - (h + 1))
        case measure => omega
        case rel => exact ⟨h + 1, j, by go_num, rfl, by omega, by omega, hjb, Nat.le_refl _, S2, (⟨fun _ => by rw [Nat.add_sub_cancel]; exact HL.out, I.out.2⟩ : (a < h + 1 → lx d[m]! d[h + 1 - 1]! = false) ∧ (j < m → lx d[m]! d[j]! = true))⟩
    · obtain rfl : i = j := by omega
      have hltz : ¬ (i : Int) < (i : Int) := by omega
      have hM := merged_last hS RU.out hai hjb hb (fun h => I.out.1 h) (fun h => SWO.asymmA hS (I.out.2 h))
      have HM : Aside _ := hM
      clear hM I
      go_wp2
      go_loopg [17] (m - i) (fun kx s17 wr => ∃ (t : Nat), s17 = .int .i64 t ∧ i ≤ t ∧ t ≤ m ∧ t - i ≤ kx ∧ Aside (SWK enc k w0 blk off (rot d t m (m + 1)) wr))
      case atStart => exact ⟨m, rfl, by omega, by omega, by omega, by rw [rot_none_left _ _ _ (by omega)]; exact S1⟩
      case round =>
        clear S1
        obtain ⟨t', rfl, hat, htq, hkx2, S1⟩ := hrel
        by_cases hlt2 : i < t'
        · obtain ⟨t, rfl⟩ : ∃ t, t' = t + 1 := ⟨t' - 1, by omega⟩
          have hltz2 : (i : Int) < (t : Int) + 1 := by omega
          go_wp2_with fail
          have ec44 : ((t : Int) + 1).toNat = t + 1 := by omega
          have pc44 : (0 : Int) ≤ (t : Int) + 1 := by omega
          have ba44 : (t : Int) < (d.size : Int) := by omega
          have bc44 : (t : Int) + 1 < (d.size : Int) := by omega
          have rc44 : IntKind.i64.wrap ((t : Int)) = (t : Int) := by rw [IntKind.wrap_i64]; omega
          have hsr : (rot d (t + 1) m (m + 1)).size = d.size := size_rot _ _ _ _
          have hst := rot_left_step d t m (by omega) (by omega)
          generalize gdk : rot d (t + 1) m (m + 1) = dk at *
          have S3 : Aside (SWK enc k w0 blk off (swp dk (t + 1) t) ((wr.drew.setCells blk (off + (t + 1) * k) (enc dk[t]!)).setCells blk (off + t * k) (enc dk[t + 1]!))) := S1.out.swapped R (t + 1) t (by omega) (by omega)
          have l44a := S1.out.ld1 R (by omega) P (t + 1) (by omega)
          have l44b := S1.out.ld1 R (by omega) P t (by omega)
          have s44a := S1.out.st1 R (by omega) P (t + 1) (by omega) dk[t]!
          have s44b := S1.out.st2 R (by omega) P (t + 1) t (by omega) (by omega) dk[t]! dk[t + 1]!
          have n44a : (enc dk[t + 1]!).length = k := R.hk _
          have n44b : (enc dk[t]!).length = k := R.hk _
          generalize enc dk[t + 1]! = cI44 at S3 l44a s44b n44a
          generalize enc dk[t]! = cJ44 at S3 l44b s44a s44b n44b
          have HST : Hid (swp dk (t + 1) t = rot d t m (m + 1)) := hst
          have GD : Hid (rot d (t + 1) m (m + 1) = dk) := gdk
          clear S1 hst gdk
          go_wp2_with fail
          go_big_region_o
          clear l44a l44b s44a s44b
          generalize (wr.drew.setCells blk (off + (t + 1) * k) cJ44).setCells blk (off + t * k) cI44 = w3 at S3 ⊢
          go_wp2
          go_roundg (t - i)
          case measure => omega
          case rel => exact ⟨t, by first | rfl | go_num, by omega, by omega, Nat.le_refl _, by rw [← HST.out]; exact S3⟩
        · have hltz2 : ¬ (i : Int) < (t' : Int) := by omega
          obtain rfl : t' = i := by omega
          go_wp2
          (try simp only [Exit.inBlock, Exit.then]); refine bodyPost_ret (results_none rfl _ _ _) rfl ?_
          exact ⟨rfl, _, HM.out.1, HM.out.2, S1.out⟩
end L04
end Go.Proofs.Ytnkomnmdmbegiaa

