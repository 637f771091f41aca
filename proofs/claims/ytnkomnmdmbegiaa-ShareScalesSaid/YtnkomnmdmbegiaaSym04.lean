/- The library's stable sort: the merge of two sorted runs in place. -/
import Derived.Test.YtnkomnmdmbegiaaSymA04
import Derived.Deep.DeepCutAuto
namespace Go.Proofs.Ytnkomnmdmbegiaa
open Go.RowKit Go.Sort Go.Lib Go.Shelf
namespace L04
variable {P : Program} {α : Type} [Inhabited α]

set_option maxHeartbeats 16000000 in
set_option maxRecDepth 1000000 in
theorem symMerge_any (k : Nat) (L : Stable P k) (enc : α → List Value) (cf : α → α → Int) (lx : α → α → Bool) (ah : α → α → Prop) (hS : SWO lx) (hx : ∀ x y, ah x y → ltOf cf y x = lx y x) (g : Nat) (cb : Array Value) (blk off cap : Nat) (d0 : Array α) (w0 : World)
    (eg : ∀ args w, (callFunc g args).run P w = .ok (.enter g args) w) (hcmp : CmpLays P g cb enc k cf blk off d0.size w0) (R : RowK enc k w0 blk off d0) :
    ∀ (N a m b : Nat) (d : Array α) (w : World), b - a ≤ N → d0.size = d.size → SWK enc k w0 blk off d w → a < m → m < b → b ≤ d.size → d.size < 4611686018427387904 → Runs lx ah a m b d →
    Calls P 31 #[.slice (some ⟨blk, off, none⟩) d.size cap, .int .i64 a, .int .i64 m, .int .i64 b, .func (.func g) #[] cb] w fun e w' => e = .returned (.tuple #[]) ∧ ∃ d', PermIn a b d d' ∧ SortedIn lx a b d' ∧ SWK enc k w0 blk off d' w' := by
  have mixed := L.mixed; have t0 := L.t0; have a0 := L.a0; have z0 := L.z0; have v0 := L.v0; have t3 := L.t3; have a3 := L.a3; have z3 := L.z3; have v3 := L.v3; have t4 := L.t4; have a4 := L.a4; have z4 := L.z4; have v4 := L.v4
  have tu := L.tu; have au := L.au; have zu := L.zu; have vu := L.vu
  have ts := L.ts; have asl := L.asl; have zs := L.zs; have vs := L.vs; have tc := L.tc; have ac := L.ac; have zc := L.zc; have vc := L.vc; have aE := L.aE; have zE := L.zE
  have FG := L.fSym
  have eR : ∀ args w, (callFunc 36 args).run P w = .ok (.enter 36 args) w := enters_of L.fRot (by kernel_rfl) rfl
  have eY : ∀ args w, (callFunc 31 args).run P w = .ok (.enter 31 args) w := enters_of L.fSym (by kernel_rfl) rfl
  have LL : Hid _ := L
  have HC : Aside _ := hcmp
  have HX : Aside _ := hx
  clear hcmp L hx
  intro N
  induction N with
  | zero => intro a m b d w hN hs S ham hmb; omega
  | succ N ih =>
    intro a m b d w hN hs S ham hmb hb hsz H
    by_cases hA : m = a + 1
    · subst hA
      exact symMerge_left k LL.out enc cf lx ah hS HX.out g cb blk off cap d0 w0 eg HC.out R a b d w hs S hmb hb hsz H
    · by_cases hB : b = m + 1
      · subst hB
        exact symMerge_right k LL.out enc cf lx ah hS HX.out g cb blk off cap d0 w0 eg HC.out R a m d w hs S (by omega) hb hsz H
      · have IH : Aside _ := ih
        have S0 : Aside (SWK enc k w0 blk off d w) := S
        have RU : Aside (Runs lx ah a m b d) := H
        clear ih S H
        have hA1 : ((m : Int) - (a : Int) == 1) = false := by rw [beq_eq_false_iff_ne]; omega
        have hB1 : ((b : Int) - (m : Int) == 1) = false := by rw [beq_eq_false_iff_ne]; omega
        obtain ⟨mid, hmid⟩ : ∃ mid, mid = (a + b) / 2 := ⟨_, rfl⟩
        have eh : ((a : Int) + (b : Int)) / 2 = (mid : Int) := by omega
        have hm1 : a < mid := by omega
        have hm2 : mid < b := by omega
        have hm3 : 2 * mid ≤ a + b := by omega
        have hm4 : a + b ≤ 2 * mid + 1 := by omega
        clear hmid
        go_enter FG, Try.ntmps31
        go_upto_if 140 with fail
        go_cut [20, 21] (fun s20 s21 wx => ∃ s0 r0 : Nat, s20 = .int .i64 s0 ∧ s21 = .int .i64 r0 ∧ a ≤ s0 ∧ s0 ≤ r0 ∧ r0 ≤ m ∧ r0 ≤ mid ∧ mid + m ≤ s0 + b ∧ (s0 = a ∨ s0 + b = mid + m) ∧ (r0 = m ∨ r0 = mid) ∧ Aside (SWK enc k w0 blk off d wx))
        case first => as_aux_lemma =>
          by_cases hc : mid < m
          · have hcz : (mid : Int) < (m : Int) := by omega
            go_wp2_with fail
            go_meet
            case rel => exact ⟨mid + m - b, mid, by go_num, rfl, by omega, by omega, by omega, by omega, by omega, by omega, by omega, S0⟩
          · have hcz : ¬ (mid : Int) < (m : Int) := by omega
            go_wp2_with fail
            go_meet
            case rel => exact ⟨a, m, rfl, rfl, by omega, by omega, by omega, by omega, by omega, by omega, by omega, S0⟩
        case rest => as_aux_lemma =>
          clear S0
          obtain ⟨s0, r0, rfl, rfl, k1, k2, k3, k4, k5, k6, k7, S1⟩ := hcut
          go_wp2
          go_loopg [20, 21] (r0 - s0) (fun kx s20 s21 wr => ∃ (i j : Nat), s20 = .int .i64 i ∧ s21 = .int .i64 j ∧ s0 ≤ i ∧ i ≤ j ∧ j ≤ r0 ∧ j - i ≤ kx ∧ Aside (SWK enc k w0 blk off d wr) ∧
            Aside ((s0 < i → lx d[mid + m - i]! d[i - 1]! = false) ∧ (j < r0 → lx d[mid + m - 1 - j]! d[j]! = true)))
          case atStart => exact ⟨s0, r0, rfl, rfl, by omega, by omega, by omega, by omega, S1, (⟨fun h => absurd h (by omega), fun h => absurd h (by omega)⟩ : (s0 < s0 → lx d[mid + m - s0]! d[s0 - 1]! = false) ∧ (r0 < r0 → lx d[mid + m - 1 - r0]! d[r0]! = true))⟩
          case round =>
            clear S1
            obtain ⟨i, j, rfl, rfl, hai, hij, hjb, hkx, S1, I⟩ := hrel
            by_cases hlt : i < j
            · have hltz : (i : Int) < (j : Int) := by omega
              have eh2 : ((i : Int) + (j : Int)) / 2 = (((i + j) / 2 : Nat) : Int) := by omega
              obtain ⟨h, hh⟩ : ∃ h, h = (i + j) / 2 := ⟨_, rfl⟩
              rw [← hh] at eh2
              have hb1 : i ≤ h := by omega
              have hb2 : h < j := by omega
              clear hh
              obtain ⟨v, hv⟩ : ∃ v, v = mid + m - 1 - h := ⟨_, rfl⟩
              have ev : (mid : Int) + (m : Int) - 1 - (h : Int) = (v : Int) := by omega
              have rv : IntKind.i64.wrap (v : Int) = (v : Int) := by rw [IntKind.wrap_i64]; omega
              have hv1 : m ≤ v := by omega
              have hv2 : v < b := by omega
              have bh : (h : Int) < (d.size : Int) := by omega
              have ba : (v : Int) < (d.size : Int) := by omega
              have ba0 : (0 : Int) ≤ (v : Int) := by omega
              obtain ⟨xj, hxj⟩ : ∃ x, x = d[v]! := ⟨_, rfl⟩
              obtain ⟨xp, hxp⟩ : ∃ x, x = d[h]! := ⟨_, rfl⟩
              have lj := S1.out.ld R (by omega) P v (by omega)
              have lp := S1.out.ld R (by omega) P h (by omega)
              rw [← hxj] at lj
              rw [← hxp] at lp
              have hcg := S1.out.cmp HC.out (by omega) xj xp
              have AH : Hid (ltOf cf d[v]! d[h]! = lx d[v]! d[h]!) := HX.out _ _ (RU.out.ahead h v (by omega) (by omega) (by omega) (by omega))
              by_cases hlv : cf xj xp < 0
              · have HL : Hid (lx d[mid + m - 1 - h]! d[h]! = true) := by show _ = _; rw [← hv, ← AH.out, ← hxj, ← hxp]; exact decide_eq_true hlv
                have hd : decide (cf xj xp < 0) = true := decide_eq_true hlv
                clear hxj hxp AH hv
                go_wp2_with fail
                go_quiet_grown (first | (go_at_fn g; refine Calls.grown_of (hcg _ _)))
                have S2 : Aside (SWK enc k w0 blk off d (grow (wr.drewN nq) osq)) := S1.out.grown nq osq
                clear lj lp hcg S1
                generalize grow (wr.drewN nq) osq = w2 at S2 ⊢
                clear nq osq
                go_wp2
                go_roundg (h - i)
                case measure => omega
                case rel => exact ⟨i, h, rfl, rfl, hai, hb1, by omega, Nat.le_refl _, S2, (⟨I.out.1, fun _ => HL.out⟩ : (s0 < i → lx d[mid + m - i]! d[i - 1]! = false) ∧ (h < r0 → lx d[mid + m - 1 - h]! d[h]! = true))⟩
              · have HL : Hid (lx d[mid + m - (h + 1)]! d[h]! = false) := by show _ = _; rw [show mid + m - (h + 1) = v by omega, ← AH.out, ← hxj, ← hxp]; exact decide_eq_false hlv
                have hd : decide (cf xj xp < 0) = false := decide_eq_false hlv
                clear hxj hxp AH hv
                go_wp2_with fail
                go_quiet_grown (first | (go_at_fn g; refine Calls.grown_of (hcg _ _)))
                have S2 : Aside (SWK enc k w0 blk off d (grow (wr.drewN nq) osq)) := S1.out.grown nq osq
                clear lj lp hcg S1
                generalize grow (wr.drewN nq) osq = w2 at S2 ⊢
                clear nq osq
                go_wp2
                go_roundg (j - (h + 1))
                case measure => omega
                case rel => exact ⟨h + 1, j, by go_num, rfl, by omega, by omega, hjb, Nat.le_refl _, S2, (⟨fun _ => by rw [Nat.add_sub_cancel]; exact HL.out, I.out.2⟩ : (s0 < h + 1 → lx d[mid + m - (h + 1)]! d[h + 1 - 1]! = false) ∧ (j < r0 → lx d[mid + m - 1 - j]! d[j]! = true))⟩
            · obtain rfl : i = j := by omega
              have hltz : ¬ (i : Int) < (i : Int) := by omega
              obtain ⟨en, hen⟩ : ∃ en, en = mid + m - i := ⟨_, rfl⟩
              have een : (mid : Int) + (m : Int) - (i : Int) = (en : Int) := by omega
              have g1 : a ≤ i := by omega
              have g2 : i ≤ m := by omega
              have g3 : m ≤ en := by omega
              have g4 : en ≤ b := by omega
              have g5 : i + (en - m) = mid := by omega
              have c1 : a < i → en < b → lx d[en]! d[i - 1]! = false := fun h1 h2 => by rw [hen]; exact I.out.1 (by omega)
              have c2 : i < m → m < en → lx d[i]! d[en - 1]! = false := fun h1 h2 => by
                rw [show en - 1 = mid + m - 1 - i by omega]; exact SWO.asymmA hS (I.out.2 (by omega))
              have SP := split_holds hS RU.out g1 g2 g3 g4 hb c1 c2
              have MG := fun (d1 d2 : Array α) => merged (d1 := d1) (d2 := d2) hS RU.out g1 g2 g3 g4 hb c1 c2
              rw [g5] at SP MG
              have SPA : Aside _ := SP
              have MGA : Aside _ := MG
              have hsr : (rot d i m en).size = d.size := size_rot _ _ _ _
              have HC1 : Hid (i < m → m < en → Calls P 36 #[.slice (some ⟨blk, off, none⟩) d.size cap, .int .i64 i, .int .i64 m, .int .i64 en, .func (.func g) #[] cb] wr fun e w' => e = .returned (.tuple #[]) ∧ SWK enc k w0 blk off (rot d i m en) w') := fun h1 h2 => rotate_any k LL.out enc g cb blk off cap i m en d0 d w0 wr R hs S1.out h1 h2 (by omega) hsz
              clear c1 c2 SP MG I hen
              go_upto_region 39 with fail
              go_cut [185] (fun s wx => s = .bool (decide (i < m) && decide (m < en)) ∧ wx = wr)
              case first => as_aux_lemma =>
                by_cases h1 : i < m
                · have h1z : (i : Int) < (m : Int) := by omega
                  by_cases h2 : m < en
                  · have h2z : (m : Int) < (en : Int) := by omega
                    have e : (decide (i < m) && decide (m < en)) = true := by simp [h1, h2]
                    have E : Hid _ := e
                    clear e
                    go_wp2_with fail
                    go_meet
                    exact ⟨by rw [E.out], rfl⟩
                  · have h2z : ¬ (m : Int) < (en : Int) := by omega
                    have e : (decide (i < m) && decide (m < en)) = false := by simp [h2]
                    have E : Hid _ := e
                    clear e
                    go_wp2_with fail
                    go_meet
                    exact ⟨by rw [E.out], rfl⟩
                · have h1z : ¬ (i : Int) < (m : Int) := by omega
                  have e : (decide (i < m) && decide (m < en)) = false := by simp [h1]
                  have E : Hid _ := e
                  clear e
                  go_wp2_with fail
                  go_meet
                  exact ⟨by rw [E.out], rfl⟩
              case rest => as_aux_lemma =>
                obtain ⟨rfl, rfl⟩ := hcut
                go_upto_if 185 with fail
                go_cut [] (fun wx => Aside (SWK enc k w0 blk off (rot d i m en) wx))
                case first => as_aux_lemma =>
                  cases hq : (decide (i < m) && decide (m < en)) with
                  | true =>
                    simp only [Bool.and_eq_true, decide_eq_true_eq] at hq
                    have hc := HC1.out hq.1 hq.2
                    clear hq
                    go_wp2_with (go_at_fn 36; refine hc.mono ?_; rintro e w1 ⟨rfl, hw1⟩)
                    go_meet
                    case rel => exact hw1
                  | false =>
                    have hid : rot d i m en = d := by
                      simp only [Bool.and_eq_false_iff, decide_eq_false_iff_not] at hq
                      rcases hq with hq | hq
                      · obtain rfl : i = m := by omega
                        exact rot_none_left _ _ _ (by omega)
                      · obtain rfl : m = en := by omega
                        exact rot_none_right _ _ _
                    have HID : Hid _ := hid
                    clear hq hid
                    go_wp2_with fail
                    go_meet
                    case rel => rw [HID.out]; exact S1
                case rest => as_aux_lemma =>
                  clear S1 HC1
                  have S2 := hcut
                  clear hcut
                  generalize gr : rot d i m en = dr at *
                  have GR : Hid (rot d i m en = dr) := gr
                  clear gr
                  go_upto_region 41 with fail
                  go_cut [199] (fun s wx => s = .bool (decide (a < i) && decide (i < mid)) ∧ wx = wc)
                  case first => as_aux_lemma =>
                    by_cases h1 : a < i
                    · have h1z : (a : Int) < (i : Int) := by omega
                      by_cases h2 : i < mid
                      · have h2z : (i : Int) < (mid : Int) := by omega
                        have e : (decide (a < i) && decide (i < mid)) = true := by simp [h1, h2]
                        have E : Hid _ := e
                        clear e
                        go_wp2_with fail
                        go_meet
                        exact ⟨by rw [E.out], rfl⟩
                      · have h2z : ¬ (i : Int) < (mid : Int) := by omega
                        have e : (decide (a < i) && decide (i < mid)) = false := by simp [h2]
                        have E : Hid _ := e
                        clear e
                        go_wp2_with fail
                        go_meet
                        exact ⟨by rw [E.out], rfl⟩
                    · have h1z : ¬ (a : Int) < (i : Int) := by omega
                      have e : (decide (a < i) && decide (i < mid)) = false := by simp [h1]
                      have E : Hid _ := e
                      clear e
                      go_wp2_with fail
                      go_meet
                      exact ⟨by rw [E.out], rfl⟩
                  case rest => as_aux_lemma =>
                    obtain ⟨rfl, rfl⟩ := hcut
                    go_upto_if 199 with fail
                    go_cut [] (fun wx => ∃ d1, Hid (PermIn a mid dr d1) ∧ Hid (SortedIn lx a mid d1) ∧ d1.size = d.size ∧ Aside (SWK enc k w0 blk off d1 wx))
                    case first => as_aux_lemma =>
                      cases hq : (decide (a < i) && decide (i < mid)) with
                      | true =>
                        simp only [Bool.and_eq_true, decide_eq_true_eq] at hq
                        have hc := IH.out a i mid dr wc (by omega) (by omega) S2.out hq.1 hq.2 (by omega) (by omega) SPA.out.1
                        rw [hsr] at hc
                        clear hq
                        go_wp2_with (go_at_fn 31; refine hc.mono ?_; rintro e w1 ⟨rfl, d1, q1, q2, hw1⟩)
                        go_meet
                        case rel => exact ⟨d1, q1, q2, by rw [q1.1]; exact hsr, hw1⟩
                      | false =>
                        have hsd : SortedIn lx a mid dr := by
                          simp only [Bool.and_eq_false_iff, decide_eq_false_iff_not] at hq
                          rcases hq with hq | hq
                          · have := SPA.out.1.right
                            rwa [show i = a by omega] at this
                          · have := SPA.out.1.left
                            rwa [show i = mid by omega] at this
                        have HSD : Hid _ := hsd
                        clear hsd hq
                        go_wp2_with fail
                        go_meet
                        case rel => exact ⟨dr, permIn_refl _ _ _, HSD, hsr, S2⟩
                    case rest => as_aux_lemma =>
                      obtain ⟨d1, Q1, Q2, hs1, S3⟩ := hcut
                      clear S2
                      go_upto_region 43 with fail
                      go_cut [213] (fun s wx => s = .bool (decide (mid < en) && decide (en < b)) ∧ wx = wc)
                      case first => as_aux_lemma =>
                        by_cases h1 : mid < en
                        · have h1z : (mid : Int) < (en : Int) := by omega
                          by_cases h2 : en < b
                          · have h2z : (en : Int) < (b : Int) := by omega
                            have e : (decide (mid < en) && decide (en < b)) = true := by simp [h1, h2]
                            have E : Hid _ := e
                            clear e
                            go_wp2_with fail
                            go_meet
                            exact ⟨by rw [E.out], rfl⟩
                          · have h2z : ¬ (en : Int) < (b : Int) := by omega
                            have e : (decide (mid < en) && decide (en < b)) = false := by simp [h2]
                            have E : Hid _ := e
                            clear e
                            go_wp2_with fail
                            go_meet
                            exact ⟨by rw [E.out], rfl⟩
                        · have h1z : ¬ (mid : Int) < (en : Int) := by omega
                          have e : (decide (mid < en) && decide (en < b)) = false := by simp [h1]
                          have E : Hid _ := e
                          clear e
                          go_wp2_with fail
                          go_meet
                          exact ⟨by rw [E.out], rfl⟩
                      case rest => as_aux_lemma =>
                        obtain ⟨rfl, rfl⟩ := hcut
                        cases hq : (decide (mid < en) && decide (en < b)) with
                        | true =>
                          simp only [Bool.and_eq_true, decide_eq_true_eq] at hq
                          have hc := IH.out mid en b d1 wc (by omega) (by omega) S3.out hq.1 hq.2 (by omega) (by omega) (Runs.other SPA.out.2.1 Q1.out (Or.inr (Nat.le_refl _)) ⟨by omega, by omega⟩)
                          rw [hs1] at hc
                          clear hq
                          go_wp2_with (go_at_fn 31; refine hc.mono ?_; rintro e w1 ⟨rfl, d2, q1, q2, hw1⟩)
                          have hM := MGA.out d1 d2 Q1.out Q2.out q1 q2
                          go_end0
                          exact ⟨rfl, d2, hM.1, hM.2, hw1⟩
                        | false =>
                          have hsd : SortedIn lx mid b d1 := by
                            simp only [Bool.and_eq_false_iff, decide_eq_false_iff_not] at hq
                            have RO := Runs.other SPA.out.2.1 Q1.out (Or.inr (Nat.le_refl _)) ⟨by omega, by omega⟩
                            rcases hq with hq | hq
                            · have := RO.right
                              rwa [show en = mid by omega] at this
                            · have := RO.left
                              rwa [show en = b by omega] at this
                          have hM := MGA.out d1 d1 Q1.out Q2.out (permIn_refl _ _ _) hsd
                          have HM : Hid _ := hM
                          clear hsd hM hq
                          go_wp2_with fail
                          go_end0
                          exact ⟨rfl, d1, HM.out.1, HM.out.2, S3.out⟩
end L04
end Go.Proofs.Ytnkomnmdmbegiaa

