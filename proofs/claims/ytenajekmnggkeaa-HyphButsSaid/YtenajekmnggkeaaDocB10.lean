/- The document's pattern, exception of layer 10. -/
import Derived.Test.YtenajekmnggkeaaDocA10
import Derived.Deep.QuietTactic
import Derived.BigQuiet
namespace Go.Proofs.Ytenajekmnggkeaa
open Go.RowKit
open Go.Lib hiding intOf
namespace L10

set_option maxRecDepth 100000 in
set_option maxHeartbeats 2000000 in
theorem rpat_any (x : WP) (ok : x.Ok) (hs : x.s.size ≤ 1000000) (w : World) (sn : SeenL w x.A x.ns) : Calls Try.prog 28 #[wpV x] w (Ret w (.bool (patB (tn x)))) := by
  obtain ⟨s, ns, A, c⟩ := x
  obtain ⟨hr, hm, hsz, hwide⟩ := ok
  dsimp only at hr hm hsz hwide sn hs
  unfold maxLen at hm hsz
  obtain ⟨V, hV⟩ : ∃ V, V = w.alloc (.cells #[.string s, .slice A ns.length c] 50) := ⟨_, rfl⟩
  have W0 : Ext w V := by rw [hV]; exact (Ext.refl _).alloc _
  have kB : Blk V w.heap.size 50 [.string s, .slice A ns.length c] := by rw [hV]; exact Blk.lit _ _ _ _ rfl
  have SN := Lib.hid (fun w' (x : Ext V w') => SeenL.ext (SeenL.ext sn W0) x)
  have HP := Lib.hid (show patB (tn ⟨s, ns, A, c⟩) = (plainB (coreL s.data.toList) && (decide (ns.length = s.size + 1) && ns.all valB)) by
    have hl := list_len s
    simp only [patB, tn, hl])
  obtain ⟨b, hb⟩ : ∃ b, patB (tn ⟨s, ns, A, c⟩) = b := ⟨_, rfl⟩
  rw [hb]
  have HB := Lib.hid hb
  have HW := Lib.hid (fun k => getD_wide hwide k)
  obtain ⟨n, hn⟩ : ∃ n, n = ns.length := ⟨_, rfl⟩
  have HN := Lib.hid hn
  unfold wpV
  dsimp only
  rw [← hn] at hV kB hr ⊢
  rw [← HN.out] at HP
  clear hb hwide sn hn
  have hn64 : (n : Int) ≤ 9223372036854775807 := by omega
  have C1 := Lib.hid (rcore_any s hs V)
  have HC := Lib.hid (fun w' (s1 : ByteArray) (h : s1 = ⟨(coreL s.data.toList).toArray⟩) => (show Calls Try.prog 36 #[.string s1] w' (Ret w' (.bool (plainB (coreL s.data.toList)))) by
    have := rplain_any s1 w'
    rwa [show s1.data.toList = coreL s.data.toList by rw [h]] at this))
  go_enter Try.func28, Try.ntmps28
  go_upto_region 1 with (fail)
  rw [← hV]
  clear hV
  generalize w.heap.size = B at *
  have q0 : V.cell? ⟨B, 0, none⟩ = some (.string s) := kB.cell 0
  have q1 : V.cell? ⟨B, 1, none⟩ = some (.slice A n c) := kB.cell 1
  have HX := Lib.hid W0
  clear W0 kB
  go_wp2_with fail
  refine C1.out.mono ?_; rintro e w1 ⟨rfl, x1⟩
  obtain ⟨s1, hs1⟩ : ∃ s1 : ByteArray, s1 = ⟨(coreL s.data.toList).toArray⟩ := ⟨_, rfl⟩
  rw [← hs1]
  have C2 := Lib.hid (HC.out w1 s1 hs1)
  have q0 := x1.at q0
  have q1 := x1.at q1
  have X1 := Lib.hid x1
  clear hs1 HC C1 x1
  go_wp2_with fail
  refine C2.out.mono ?_; rintro e w2 ⟨rfl, x2⟩
  have q0 := x2.at q0
  have q1 := x2.at q1
  have X2 := Lib.hid (X1.out.trans x2)
  clear C2 X1 x2
  cases hp : plainB (coreL s.data.toList) with
  | false =>
    have HF := Lib.hid (show false = b by rw [← HB.out, HP.out, hp]; rfl)
    clear HP HB hp
    go_wp2_with fail
    go_ret
    exact ⟨ret_bool HF.out, HX.out.trans X2.out⟩
  | true =>
    by_cases hns : n = s.size + 1
    · have HB2 := Lib.hid (show ns.all valB = b by rw [← HB.out, HP.out, hp, decide_eq_true hns]; rfl)
      have hne : ((n : Int) != (s.size : Int) + 1) = false := by simp; omega
      have hn1 : (n : Int) ≤ 1000001 := by omega
      clear HP HB hp
      have HNS := Lib.hid hns
      clear hns
      go_wp2_with fail
      go_loop [4] (fun i => ∃ k : Nat, k ≤ n ∧ i = .int .i64 k ∧ Hid (ns.all valB = (ns.drop k).all valB)) (fun i => n - (intOf i).toNat)
      case atStart => exact ⟨0, Nat.zero_le _, rfl, rfl⟩
      case round =>
        obtain ⟨k, hk, rfl, hall⟩ := hrel
        by_cases hlt : k < n
        · have hlt' : k < ns.length := by rw [← HN.out]; exact hlt
          obtain ⟨ad, rfl, hc⟩ := (SN.out w2 X2.out).get hlt'
          have hall := hall.out
          rw [drop_all hlt'] at hall
          have hw := HW.out k
          have HALL := Lib.hid hall
          generalize ns.getD k 0 = v at *
          have hk64 : (k : Int) < (n : Int) := by omega
          clear hall
          by_cases h1 : v < 0
          · have H2 := Lib.hid (show false = b by rw [← HB2.out, HALL.out, show valB v = false from decide_eq_false (by omega)]; rfl)
            clear HALL
            go_wp2_with fail
            go_ret
            exact ⟨ret_bool H2.out, HX.out.trans X2.out⟩
          · by_cases h2 : 9 < v
            · have H2 := Lib.hid (show false = b by rw [← HB2.out, HALL.out, show valB v = false from decide_eq_false (by omega)]; rfl)
              clear HALL
              go_wp2_with fail
              go_ret
              exact ⟨ret_bool H2.out, HX.out.trans X2.out⟩
            · have H2 := Lib.hid (show ns.all valB = (ns.drop (k + 1)).all valB by rw [HALL.out, show valB v = true from decide_eq_true (by omega)]; rfl)
              clear HALL
              go_wp2_with fail
              go_round
              case rel => exact ⟨k + 1, by omega, by go_num, H2⟩
              case measure => simp [intOf]; omega
        · obtain rfl : k = n := by omega
          have HF := Lib.hid (show true = b by rw [← HB2.out, hall.out, HN.out, List.drop_length]; rfl)
          clear hall
          go_wp2_with fail
          go_ret
          exact ⟨ret_bool HF.out, HX.out.trans X2.out⟩
    · have HF := Lib.hid (show false = b by rw [← HB.out, HP.out, decide_eq_false hns]; simp)
      have hne : ((n : Int) == (s.size : Int) + 1) = false := by simp; omega
      have hne2 : ((n : Int) != (s.size : Int) + 1) = true := by simp; omega
      clear HP HB hp
      go_wp2_with fail
      go_ret
      exact ⟨ret_bool HF.out, HX.out.trans X2.out⟩

set_option maxRecDepth 100000 in
set_option maxHeartbeats 2000000 in
theorem rexc_wide (x : WP) (ok : x.Ok) (w : World) (sn : SeenL w x.A x.ns) : Calls Try.prog 29 #[wpV x] w (Ret w (.bool (excB (tn x)))) := by
  obtain ⟨s, ns, A, c⟩ := x
  obtain ⟨hr, hm, hsz, hwide⟩ := ok
  dsimp only at hr hm hsz hwide sn
  unfold maxLen at hm hsz
  obtain ⟨V, hV⟩ : ∃ V, V = w.alloc (.cells #[.string s, .slice A ns.length c] 46) := ⟨_, rfl⟩
  have W0 : Ext w V := by rw [hV]; exact (Ext.refl _).alloc _
  have kB : Blk V w.heap.size 46 [.string s, .slice A ns.length c] := by rw [hV]; exact Blk.lit _ _ _ _ rfl
  have SN := Lib.hid (fun w' (x : Ext V w') => SeenL.ext (SeenL.ext sn W0) x)
  have HP := Lib.hid (show excB (tn ⟨s, ns, A, c⟩) = (plainB s.data.toList && (decide (0 < ns.length) && risesB s.size 1 ns)) by
    have hl := list_len s
    unfold excB tn
    dsimp only
    rw [hl])
  obtain ⟨b, hb⟩ : ∃ b, excB (tn ⟨s, ns, A, c⟩) = b := ⟨_, rfl⟩
  rw [hb]
  have HB := Lib.hid hb
  have HW := Lib.hid (fun k => getD_wide hwide k)
  obtain ⟨n, hn⟩ : ∃ n, n = ns.length := ⟨_, rfl⟩
  have HN := Lib.hid hn
  unfold wpV
  dsimp only
  rw [← hn] at hV kB hr ⊢
  rw [← HN.out] at HP
  clear hb hwide sn hn
  have hn64 : (n : Int) ≤ 9223372036854775807 := by omega
  have C1 := Lib.hid (rplain_any s V)
  go_enter Try.func29, Try.ntmps29
  go_upto_region 1 with (fail)
  rw [← hV]
  clear hV
  generalize w.heap.size = B at *
  have q0 : V.cell? ⟨B, 0, none⟩ = some (.string s) := kB.cell 0
  have q1 : V.cell? ⟨B, 1, none⟩ = some (.slice A n c) := kB.cell 1
  have HX := Lib.hid W0
  clear W0 kB
  go_wp2_with fail
  refine C1.out.mono ?_; rintro e w2 ⟨rfl, x2⟩
  have q0 := x2.at q0
  have q1 := x2.at q1
  have X2 := Lib.hid x2
  clear C1 x2
  cases hp : plainB s.data.toList with
  | false =>
    have HF := Lib.hid (show false = b by rw [← HB.out, HP.out, hp]; rfl)
    clear HP HB hp
    go_wp2_with fail
    go_ret
    exact ⟨ret_bool HF.out, HX.out.trans X2.out⟩
  | true =>
    by_cases hns : n = 0
    · have HF := Lib.hid (show false = b by rw [← HB.out, HP.out, decide_eq_false (show ¬ 0 < n by omega)]; simp)
      subst hns
      clear HP HB hp
      go_wp2_with fail
      go_ret
      exact ⟨ret_bool HF.out, HX.out.trans X2.out⟩
    · have HB2 := Lib.hid (show risesB s.size 1 ns = b by rw [← HB.out, HP.out, hp, decide_eq_true (show 0 < n by omega)]; rfl)
      have hne : ((n : Int) == 0) = false := by simp; omega
      clear HP HB hp
      go_wp2_with fail
      go_loopw [4] (fun i wr => ∃ (k : Nat) (z : Int), k ≤ n ∧ i = .int .i64 k ∧ 1 ≤ z ∧ (k = 0 → z = 1) ∧ Hid (0 < k → ns.getD (k - 1) 0 + 1 = z) ∧ Hid (Ext w2 wr) ∧ Hid (risesB s.size 1 ns = risesB s.size z (ns.drop k))) (fun i _ => n - (intOf i).toNat)
      case atStart => exact ⟨0, 1, Nat.zero_le _, rfl, by omega, fun _ => rfl, (fun h => absurd h (by omega)), Ext.refl _, rfl⟩
      case round =>
        obtain ⟨k, z, hk, rfl, hz1, hz0, hzk, hY, hall⟩ := hrel
        have q0 := hY.out.at q0
        have q1 := hY.out.at q1
        by_cases hlt : k < n
        · have hlt' : k < ns.length := by rw [← HN.out]; exact hlt
          obtain ⟨ad, rfl, hc⟩ := (SN.out wr (X2.out.trans hY.out)).get hlt'
          have hall := hall.out
          rw [rises_drop hlt'] at hall
          have hw := HW.out k
          have HALL := Lib.hid hall
          have hk64 : (k : Int) < (n : Int) := by omega
          obtain ⟨v, hv⟩ : ∃ v, ns.getD k 0 = v := ⟨_, rfl⟩
          rw [hv] at hc hw HALL
          have HV := Lib.hid hv
          clear hall hv
          by_cases h1 : v < 1
          · have H2 := Lib.hid (show false = b by rw [← HB2.out, HALL.out, decide_eq_false (by omega)]; rfl)
            have g1 : decide (v < 1) = true := decide_eq_true h1
            clear HALL h1 hz0
            go_wp2_with fail
            go_quiet (fail)
            go_wp2_with fail
            go_ret
            exact ⟨ret_bool H2.out, HX.out.trans ((X2.out.trans hY.out).drewN _)⟩
          · have g1 : decide (v < 1) = false := decide_eq_false h1
            by_cases h2 : (s.size : Int) ≤ v
            · have H2 := Lib.hid (show false = b by rw [← HB2.out, HALL.out, decide_eq_false (by omega)]; rfl)
              have g2 : decide ((s.size : Int) ≤ v) = true := decide_eq_true h2
              clear HALL h1 h2 hz0
              go_wp2_with fail
              go_quiet (fail)
              go_wp2_with fail
              go_ret
              exact ⟨ret_bool H2.out, HX.out.trans ((X2.out.trans hY.out).drewN _)⟩
            · have g2 : decide ((s.size : Int) ≤ v) = false := decide_eq_false h2
              have hv1 : 1 ≤ v := by omega
              by_cases h3 : k = 0
              · have H2 := Lib.hid (show risesB s.size 1 ns = risesB s.size (v + 1) (ns.drop (k + 1)) by rw [HALL.out, decide_eq_true (by have := hz0 h3; omega)]; rfl)
                subst h3
                rw [Addr.add_zero'] at hc
                clear HALL hz0 h1 h2
                go_wp2_with fail
                go_quiet (fail)
                go_wp2_with fail
                go_roundw
                case rel => exact ⟨0 + 1, v + 1, by omega, by go_num, by omega, fun h => absurd h (by omega), Lib.hid (fun _ => by rw [Nat.add_sub_cancel, HV.out]), Lib.hid (hY.out.drewN _), H2⟩
                case measure => simp [intOf]; omega
              · have g3 : decide ((0 : Int) < k) = true := decide_eq_true (by omega)
                have g5 : decide (0 < k) = true := decide_eq_true (by omega)
                have hlp : k - 1 < ns.length := by omega
                obtain ⟨ad', e', hc'⟩ := (SN.out wr (X2.out.trans hY.out)).get hlp
                cases e'
                have hzk := hzk.out (by omega)
                obtain ⟨u, hu⟩ : ∃ u, ns.getD (k - 1) 0 = u := ⟨_, rfl⟩
                rw [hu] at hc' hzk
                have hwk : wrap64 ((k : Int) - 1) = ((k - 1 : Nat) : Int) := by rw [IntWalk.wrap64_in _ (by omega)]; omega
                have hwi : IntKind.i64.wrap ((k : Int) - 1) = ((k - 1 : Nat) : Int) := by rw [IntWalk.i64_in _ (by omega)]; omega
                have hkp : ((k - 1 : Nat) : Int) < (n : Int) := by omega
                have hwu := HW.out (k - 1)
                rw [hu] at hwu
                clear hu hlp
                have HKJ := Lib.hid (show k - 1 + 1 = k by omega)
                generalize k - 1 = j at *
                have hjn : j < n := by omega
                have HZK := Lib.hid hzk
                by_cases h4 : v ≤ u
                · have H2 := Lib.hid (show false = b by rw [← HB2.out, HALL.out, decide_eq_false (by omega)]; rfl)
                  have g4 : decide (v ≤ u) = true := decide_eq_true h4
                  clear HALL hz0 h1 h2 h4 hzk h3
                  go_wp2_with fail
                  go_quiet (fail)
                  go_wp2_with fail
                  go_ret
                  exact ⟨ret_bool H2.out, HX.out.trans ((X2.out.trans hY.out).drewN _)⟩
                · have H2 := Lib.hid (show risesB s.size 1 ns = risesB s.size (v + 1) (ns.drop (k + 1)) by rw [HALL.out, decide_eq_true (by omega)]; rfl)
                  have g4 : decide (v ≤ u) = false := decide_eq_false h4
                  clear HALL hz0 h1 h2 h4 hzk h3
                  go_wp2_with fail
                  go_quiet (fail)
                  go_wp2_with fail
                  go_roundw
                  case rel => exact ⟨k + 1, v + 1, by omega, by go_num, by omega, fun h => absurd h (by omega), Lib.hid (fun _ => by rw [Nat.add_sub_cancel, HV.out]), Lib.hid (hY.out.drewN _), H2⟩
                  case measure => simp [intOf]; omega
        · obtain rfl : k = n := by omega
          have HF := Lib.hid (show true = b by rw [← HB2.out, hall.out, HN.out, List.drop_length]; rfl)
          clear hall
          go_wp2_with fail
          go_ret
          exact ⟨ret_bool HF.out, HX.out.trans (X2.out.trans hY.out)⟩
theorem rexc_any (x : WP) (ok : x.Ok) (_ : x.s.size ≤ 1000000) (_ : x.ns.length ≤ 1000000) (w : World) (sn : SeenL w x.A x.ns) : Calls Try.prog 29 #[wpV x] w (Ret w (.bool (excB (tn x)))) := rexc_wide x ok w sn
end L10
end Go.Proofs.Ytenajekmnggkeaa

