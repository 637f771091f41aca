/- The document's word of layer 13. -/
import Derived.Test.YtmmgmcfhlhghoaaWords13
import Derived.Test.YtmmgmcfhlhghoaaMid09
import Derived.Deep.QuietTactic
import Derived.BigQuiet
import Derived.Deep.CutBlock
namespace Go.Proofs.Ytmmgmcfhlhghoaa
open Go.RowKit
namespace L13
open L10 (risesB)

theorem all_step {p : Int → Bool} {l : List Int} {k : Nat} (h : k < l.length) : (l.drop k).all p = (p (l.getD k 0) && (l.drop (k + 1)).all p) := by
  rw [List.drop_eq_getElem_cons h, List.all_cons, List.getD, List.getElem?_eq_getElem h]; rfl
set_option maxRecDepth 100000 in
set_option maxHeartbeats 4000000 in
theorem rword_any (x : CW) (ok : x.Ok) (w : World) (s1 : SeenL w x.A x.cs) (s2 : SeenL w x.B x.ss) : Calls Try.prog 27 #[cwV x] w (Ret w (.bool (wordB (tw x)))) := by
  obtain ⟨cs, A, c, ss, B, d⟩ := x
  obtain ⟨hr1, hm1, hr2, hm2, hw1, hw2⟩ := ok
  dsimp only at hr1 hm1 hr2 hm2 hw1 hw2 s1 s2
  unfold maxLen at hm1 hm2
  rw [show (2 : Nat) ^ 63 - 1 = 9223372036854775807 from rfl] at hm1 hm2
  obtain ⟨V, hV⟩ : ∃ V, V = w.alloc (.cells #[.slice A cs.length c, .slice B ss.length d] 41) := ⟨_, rfl⟩
  have W0 : Ext w V := by rw [hV]; exact (Ext.refl _).alloc _
  have kB : Blk V w.heap.size 41 [.slice A cs.length c, .slice B ss.length d] := by rw [hV]; exact Blk.lit _ _ _ _ rfl
  have S1 := Lib.hid (fun w' (x : Ext V w') => SeenL.ext (SeenL.ext s1 W0) x)
  have S2 := Lib.hid (fun w' (x : Ext V w') => SeenL.ext (SeenL.ext s2 W0) x)
  have HP := Lib.hid (show wordB (tw ⟨cs, A, c, ss, B, d⟩) = (decide (1 ≤ cs.length ∧ cs.length ≤ 60) && (cs.all codeB && risesB cs.length 1 ss)) from rfl)
  obtain ⟨b, hb⟩ : ∃ b, wordB (tw ⟨cs, A, c, ss, B, d⟩) = b := ⟨_, rfl⟩
  rw [hb]
  rw [hb] at HP
  clear hb
  have HW := Lib.hid (fun k => getD_wide hw2 k)
  obtain ⟨m, hm⟩ : ∃ m, m = cs.length := ⟨_, rfl⟩
  have HM := Lib.hid hm
  obtain ⟨n, hn⟩ : ∃ n, n = ss.length := ⟨_, rfl⟩
  have HN := Lib.hid hn
  unfold cwV
  dsimp only
  rw [← hn] at hV kB hr2 ⊢
  rw [← hm] at hV kB hr1 HP ⊢
  clear hw1 hw2 s1 s2 hn hm
  have hn64 : (n : Int) ≤ 9223372036854775807 := by omega
  go_enter Try.func27, Try.ntmps27
  go_upto_region 1 with (fail)
  rw [← hV]
  clear hV
  generalize w.heap.size = R at *
  have q0 : V.cell? ⟨R, 0, none⟩ = some (.slice A m c) := kB.cell 0
  have q1 : V.cell? ⟨R, 1, none⟩ = some (.slice B n d) := kB.cell 1
  have HX := Lib.hid W0
  clear W0 kB
  by_cases h1 : m < 1
  · have HF := Lib.hid (show false = b by rw [HP.out, decide_eq_false (by omega)]; rfl)
    have h1' : (m : Int) < 1 := by omega
    clear HP
    go_wp2_with fail
    go_ret
    exact ⟨ret_bool HF.out, HX.out⟩
  by_cases h2 : 60 < m
  · have HF := Lib.hid (show false = b by rw [HP.out, decide_eq_false (by omega)]; rfl)
    have h1' : ¬ (m : Int) < 1 := by omega
    have h2' : (60 : Int) < m := by omega
    clear HP
    go_wp2_with fail
    go_ret
    exact ⟨ret_bool HF.out, HX.out⟩
  have h1' : ¬ (m : Int) < 1 := by omega
  have h2' : ¬ (60 : Int) < m := by omega
  have HP := Lib.hid (show (cs.all codeB && risesB m 1 ss) = b by rw [HP.out, decide_eq_true (show 1 ≤ m ∧ m ≤ 60 by omega), Bool.true_and])
  go_wp2_with fail
  go_loopw [3] (fun i wr => ∃ k : Nat, k ≤ m ∧ i = .int .i64 k ∧ Hid (Ext V wr) ∧ Hid (cs.all codeB = (cs.drop k).all codeB)) (fun i _ => m - (intOf i).toNat)
  case atStart => exact ⟨0, Nat.zero_le _, rfl, Lib.hid (Ext.refl _), Lib.hid rfl⟩
  case round =>
    obtain ⟨k, hk, rfl, hX, hall⟩ := hrel
    have q0 := hX.out.at q0
    have q1 := hX.out.at q1
    by_cases hlt : k < m
    · have hlt' : k < cs.length := by rw [← HM.out]; exact hlt
      obtain ⟨ad, rfl, hc⟩ := (S1.out wr hX.out).get hlt'
      have hall := hall.out
      rw [all_step hlt'] at hall
      have HALL := Lib.hid hall
      have hk64 : (k : Int) < (m : Int) := by omega
      clear hall
      generalize cs.getD k 0 = v at *
      by_cases g1 : v < 33
      · have HF := Lib.hid (show false = b by rw [← HP.out, HALL.out, codeB, decide_eq_false (by omega)]; rfl)
        clear HALL
        go_wp2_with fail
        go_ret
        exact ⟨ret_bool HF.out, HX.out.trans hX.out⟩
      · by_cases g2 : 126 < v
        · have HF := Lib.hid (show false = b by rw [← HP.out, HALL.out, codeB, decide_eq_false (by omega)]; rfl)
          clear HALL
          go_wp2_with fail
          go_ret
          exact ⟨ret_bool HF.out, HX.out.trans hX.out⟩
        · have H2 := Lib.hid (show cs.all codeB = (cs.drop (k + 1)).all codeB by rw [HALL.out, codeB, decide_eq_true (by omega), Bool.true_and])
          clear HALL
          go_wp2_with fail
          go_roundw
          case rel => exact ⟨k + 1, by omega, by go_num, hX, H2⟩
          case measure => simp [intOf]; omega
    · have hkm : k = m := by omega
      subst hkm
      obtain ⟨k0, hk0⟩ : ∃ k0, k0 = k := ⟨_, rfl⟩
      obtain ⟨w2, hw2⟩ : ∃ w2 : World, w2 = wr := ⟨_, rfl⟩
      subst hw2
      have X2 := hX
      have HB2 := Lib.hid (show risesB k0 1 ss = b by rw [hk0, ← HP.out, hall.out, HM.out, List.drop_length]; rfl)
      clear hall HP
      rw [← hk0] at *
      go_wp2_with fail
      go_loopw [4] (fun i wr => ∃ (k : Nat) (z : Int), k ≤ n ∧ i = .int .i64 k ∧ 1 ≤ z ∧ (k = 0 → z = 1) ∧ Hid (0 < k → ss.getD (k - 1) 0 + 1 = z) ∧ Hid (Ext w2 wr) ∧ Hid (risesB k0 1 ss = risesB k0 z (ss.drop k))) (fun i _ => n - (intOf i).toNat)
      case atStart => exact ⟨0, 1, Nat.zero_le _, rfl, by omega, fun _ => rfl, (fun h => absurd h (by omega)), Ext.refl _, rfl⟩
      case round =>
        obtain ⟨k, z, hk, rfl, hz1, hz0, hzk, hY, hall⟩ := hrel
        have q0 := hY.out.at q0
        have q1 := hY.out.at q1
        by_cases hlt : k < n
        · have hlt' : k < ss.length := by rw [← HN.out]; exact hlt
          obtain ⟨ad, rfl, hc⟩ := (S2.out wr (X2.out.trans hY.out)).get hlt'
          have hall := hall.out
          rw [rises_drop hlt'] at hall
          have hw := HW.out k
          have HALL := Lib.hid hall
          have hk64 : (k : Int) < (n : Int) := by omega
          obtain ⟨v, hv⟩ : ∃ v, ss.getD k 0 = v := ⟨_, rfl⟩
          rw [hv] at hc hw HALL
          have HV := Lib.hid hv
          clear hall hv
          by_cases h1 : v < 1
          · have H2 := Lib.hid (show false = b by rw [← HB2.out, HALL.out, decide_eq_false (by omega)]; rfl)
            have g1 : decide (v < 1) = true := decide_eq_true h1
            clear HALL h1 hz0
            go_wp2_with fail
            go_quiet (fail)
            go_wp2_with fail
            go_ret
            exact ⟨ret_bool H2.out, HX.out.trans ((X2.out.trans hY.out).drewN _)⟩
          · have g1 : decide (v < 1) = false := decide_eq_false h1
            by_cases h2 : (k0 : Int) ≤ v
            · have H2 := Lib.hid (show false = b by rw [← HB2.out, HALL.out, decide_eq_false (by omega)]; rfl)
              have g2 : decide ((k0 : Int) ≤ v) = true := decide_eq_true h2
              clear HALL h1 h2 hz0
              go_wp2_with fail
              go_quiet (fail)
              go_wp2_with fail
              go_ret
              exact ⟨ret_bool H2.out, HX.out.trans ((X2.out.trans hY.out).drewN _)⟩
            · have g2 : decide ((k0 : Int) ≤ v) = false := decide_eq_false h2
              have hv1 : 1 ≤ v := by omega
              by_cases h3 : k = 0
              · have H2 := Lib.hid (show risesB k0 1 ss = risesB k0 (v + 1) (ss.drop (k + 1)) by rw [HALL.out, decide_eq_true (by have := hz0 h3; omega)]; rfl)
                subst h3
                rw [Addr.add_zero'] at hc
                clear HALL hz0 h1 h2
                go_wp2_with fail
                go_quiet (fail)
                go_wp2_with fail
                go_roundw
                case rel => exact ⟨0 + 1, v + 1, by omega, by go_num, by omega, fun h => absurd h (by omega), Lib.hid (fun _ => by rw [Nat.add_sub_cancel, HV.out]), Lib.hid (hY.out.drewN _), H2⟩
                case measure => simp [intOf]; omega
              · have g3 : decide ((0 : Int) < k) = true := decide_eq_true (by omega)
                have g5 : decide (0 < k) = true := decide_eq_true (by omega)
                have hlp : k - 1 < ss.length := by omega
                obtain ⟨ad', e', hc'⟩ := (S2.out wr (X2.out.trans hY.out)).get hlp
                cases e'
                have hzk := hzk.out (by omega)
                obtain ⟨u, hu⟩ : ∃ u, ss.getD (k - 1) 0 = u := ⟨_, rfl⟩
                rw [hu] at hc' hzk
                have hwk : wrap64 ((k : Int) - 1) = ((k - 1 : Nat) : Int) := by rw [IntWalk.wrap64_in _ (by omega)]; omega
                have hwi : IntKind.i64.wrap ((k : Int) - 1) = ((k - 1 : Nat) : Int) := by rw [IntWalk.i64_in _ (by omega)]; omega
                have hkp : ((k - 1 : Nat) : Int) < (n : Int) := by omega
                have hwu := HW.out (k - 1)
                rw [hu] at hwu
                clear hu hlp
                have HKJ := Lib.hid (show k - 1 + 1 = k by omega)
                generalize k - 1 = j at *
                have hjn : j < n := by omega
                have HZK := Lib.hid hzk
                by_cases h4 : v ≤ u
                · have H2 := Lib.hid (show false = b by rw [← HB2.out, HALL.out, decide_eq_false (by omega)]; rfl)
                  have g4 : decide (v ≤ u) = true := decide_eq_true h4
                  clear HALL hz0 h1 h2 h4 hzk h3
                  go_wp2_with fail
                  go_quiet (fail)
                  go_wp2_with fail
                  go_ret
                  exact ⟨ret_bool H2.out, HX.out.trans ((X2.out.trans hY.out).drewN _)⟩
                · have H2 := Lib.hid (show risesB k0 1 ss = risesB k0 (v + 1) (ss.drop (k + 1)) by rw [HALL.out, decide_eq_true (by omega)]; rfl)
                  have g4 : decide (v ≤ u) = false := decide_eq_false h4
                  clear HALL hz0 h1 h2 h4 hzk h3
                  go_wp2_with fail
                  go_quiet (fail)
                  go_wp2_with fail
                  go_roundw
                  case rel => exact ⟨k + 1, v + 1, by omega, by go_num, by omega, fun h => absurd h (by omega), Lib.hid (fun _ => by rw [Nat.add_sub_cancel, HV.out]), Lib.hid (hY.out.drewN _), H2⟩
                  case measure => simp [intOf]; omega
        · obtain rfl : k = n := by omega
          have HF := Lib.hid (show true = b by rw [← HB2.out, hall.out, HN.out, List.drop_length]; rfl)
          clear hall
          go_wp2_with fail
          go_ret
          exact ⟨ret_bool HF.out, HX.out.trans (X2.out.trans hY.out)⟩
end L13
end Go.Proofs.Ytmmgmcfhlhghoaa

