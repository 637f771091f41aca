/- The landed mayBe, and Check, of layer 13. -/
import Derived.Test.YtmmgmcfhlhghoaaGreatDoorGH16
namespace Go.Proofs.YtmmgmcfhlhghoaaGreatDoor
open Go.RowKit
namespace L13
open L10 (risesB)

set_option maxRecDepth 100000 in
set_option maxHeartbeats 4000000 in
theorem may_any (x : CW) (ok : x.Ok) (w : World) (s1 : SeenL w x.A x.cs) (s2 : SeenL w x.B x.ss) : Calls Tryz.prog 27 #[cwV x] w (Ret w (.bool (wordB (tw x)))) := by
  obtain ⟨cs, A, c, ss, B, d⟩ := x
  obtain ⟨hr1, hm1, hr2, hm2, hw1, hw2⟩ := ok
  dsimp only at hr1 hm1 hr2 hm2 hw1 hw2 s1 s2
  unfold maxLen at hm1 hm2
  rw [show (2 : Nat) ^ 63 - 1 = 9223372036854775807 from rfl] at hm1 hm2
  obtain ⟨V, hV⟩ : ∃ V, V = w.alloc (.cells #[.slice A cs.length c, .slice B ss.length d] 50) := ⟨_, rfl⟩
  have W0 : Ext w V := by rw [hV]; exact (Ext.refl _).alloc _
  have kB : Blk V w.heap.size 50 [.slice A cs.length c, .slice B ss.length d] := by rw [hV]; exact Blk.lit _ _ _ _ rfl
  have S1 := Lib.hid (SeenL.ext s1 W0)
  have S2 := Lib.hid (SeenL.ext s2 W0)
  have HP := Lib.hid (show wordB (tw ⟨cs, A, c, ss, B, d⟩) = (decide (1 ≤ cs.length ∧ cs.length ≤ 60) && (cs.all codeB && risesB cs.length 1 ss)) from rfl)
  obtain ⟨b, hb⟩ : ∃ b, wordB (tw ⟨cs, A, c, ss, B, d⟩) = b := ⟨_, rfl⟩
  rw [hb]
  rw [hb] at HP
  clear hb
  have HW := Lib.hid (fun k => getD_wide hw2 k)
  obtain ⟨m, hm⟩ : ∃ m, m = cs.length := ⟨_, rfl⟩
  have HM := Lib.hid hm
  obtain ⟨n, hn⟩ : ∃ n, n = ss.length := ⟨_, rfl⟩
  have HN := Lib.hid hn
  unfold cwV
  dsimp only
  rw [← hn] at hV kB hr2 ⊢
  rw [← hm] at hV kB hr1 HP ⊢
  clear hw1 hw2 s1 s2 hn hm
  have hn64 : (n : Int) ≤ 9223372036854775807 := by omega
  go_enter Tryz.func27, Tryz.ntmps27
  go_upto_region 1 with (fail)
  rw [← hV]
  clear hV
  generalize w.heap.size = R at *
  have q0 : V.cell? ⟨R, 0, none⟩ = some (.slice A m c) := kB.cell 0
  have q1 : V.cell? ⟨R, 1, none⟩ = some (.slice B n d) := kB.cell 1
  have HX := Lib.hid W0
  clear W0 kB
  by_cases h1 : m < 1
  · have HF := Lib.hid (show false = b by rw [HP.out, decide_eq_false (by omega)]; rfl)
    have h1' : (m : Int) < 1 := by omega
    clear HP
    go_wp2_with fail
    go_ret
    exact ⟨ret_bool HF.out, HX.out⟩
  by_cases h2 : 60 < m
  · have HF := Lib.hid (show false = b by rw [HP.out, decide_eq_false (by omega)]; rfl)
    have h1' : ¬ (m : Int) < 1 := by omega
    have h2' : (60 : Int) < m := by omega
    clear HP
    go_wp2_with fail
    go_ret
    exact ⟨ret_bool HF.out, HX.out⟩
  have h1' : ¬ (m : Int) < 1 := by omega
  have h2' : ¬ (60 : Int) < m := by omega
  have HP := Lib.hid (show (cs.all codeB && risesB m 1 ss) = b by rw [HP.out, decide_eq_true (show 1 ≤ m ∧ m ≤ 60 by omega), Bool.true_and])
  go_wp2_with fail
  go_loop [21] (fun i => ∃ k : Nat, k ≤ m ∧ i = .int .i64 k ∧ Hid (cs.all codeB = (cs.drop k).all codeB)) (fun i => m - (intOf i).toNat)
  case atStart => exact ⟨0, Nat.zero_le _, rfl, Lib.hid rfl⟩
  case round =>
    obtain ⟨k, hk, rfl, hall⟩ := hrel
    by_cases hlt : k < m
    · have hlt' : k < cs.length := by rw [← HM.out]; exact hlt
      obtain ⟨ad, rfl, hc⟩ := S1.out.get hlt'
      have hall := hall.out
      rw [all_step hlt'] at hall
      have HALL := Lib.hid hall
      have hk64 : (k : Int) < (m : Int) := by omega
      clear hall
      generalize cs.getD k 0 = v at *
      by_cases g1 : v < 33
      · have HF := Lib.hid (show false = b by rw [← HP.out, HALL.out, codeB, decide_eq_false (by omega)]; rfl)
        clear HALL
        go_wp2_with fail
        go_ret
        exact ⟨ret_bool HF.out, HX.out⟩
      · by_cases g2 : 126 < v
        · have HF := Lib.hid (show false = b by rw [← HP.out, HALL.out, codeB, decide_eq_false (by omega)]; rfl)
          clear HALL
          go_wp2_with fail
          go_ret
          exact ⟨ret_bool HF.out, HX.out⟩
        · have H2 := Lib.hid (show cs.all codeB = (cs.drop (k + 1)).all codeB by rw [HALL.out, codeB, decide_eq_true (by omega), Bool.true_and])
          clear HALL
          go_wp2_with fail
          go_round
          case rel => exact ⟨k + 1, by omega, by go_num, H2⟩
          case measure => simp [intOf]; omega
    · obtain rfl : m = k := by omega
      have HB2 := Lib.hid (show risesB m 1 ss = b by rw [← HP.out, hall.out, HM.out, List.drop_length]; rfl)
      clear hall HP
      go_wp2_with fail
      go_loop [5, 35] (fun lv i => ∃ (k : Nat) (z : Int), k ≤ n ∧ i = .int .i64 k ∧ lv = .int .i64 z ∧ 1 ≤ z ∧ z ≤ 9223372036854775807 ∧ Hid (risesB m 1 ss = risesB m z (ss.drop k))) (fun _ i => n - (intOf i).toNat)
      case atStart => exact ⟨0, 1, Nat.zero_le _, rfl, rfl, by omega, by omega, rfl⟩
      case round =>
        obtain ⟨k, z, hk, rfl, rfl, hz1, hz2, hall⟩ := hrel
        by_cases hlt : k < n
        · have hlt' : k < ss.length := by rw [← HN.out]; exact hlt
          obtain ⟨ad, rfl, hc⟩ := S2.out.get hlt'
          have hall := hall.out
          rw [rises_drop hlt'] at hall
          have hw := HW.out k
          have HALL := Lib.hid hall
          have hk64 : (k : Int) < (n : Int) := by omega
          clear hall
          generalize ss.getD k 0 = v at *
          by_cases g1 : v < z
          · have H2 := Lib.hid (show false = b by rw [← HB2.out, HALL.out, decide_eq_false (by omega)]; rfl)
            clear HALL
            go_wp2_with fail
            go_ret
            exact ⟨ret_bool H2.out, HX.out⟩
          · by_cases g2 : (m : Int) ≤ v
            · have H2 := Lib.hid (show false = b by rw [← HB2.out, HALL.out, decide_eq_false (by omega)]; rfl)
              clear HALL
              go_wp2_with fail
              go_ret
              exact ⟨ret_bool H2.out, HX.out⟩
            · have H2 := Lib.hid (show risesB m 1 ss = risesB m (v + 1) (ss.drop (k + 1)) by rw [HALL.out, decide_eq_true (by omega)]; rfl)
              clear HALL
              go_wp2_with fail
              go_round
              case rel => exact ⟨k + 1, v + 1, by omega, by go_num, by go_num, by omega, by omega, H2⟩
              case measure => simp [intOf]; omega
        · obtain rfl : k = n := by omega
          have HF := Lib.hid (show true = b by rw [← HB2.out, hall.out, HN.out, List.drop_length]; rfl)
          clear hall
          go_wp2_with fail
          go_ret
          exact ⟨ret_bool HF.out, HX.out⟩
set_option maxRecDepth 100000 in
set_option maxHeartbeats 4000000 in
theorem check_any (A : Option Addr) (l : List CW) (n c : Nat) (w : World) (hs : SeenC w A l) (hn : n = l.length) (ok : ∀ x ∈ l, x.Ok) :
    Calls Tryz.prog 15 #[.slice A n c] w (Ret w (.bool (checkB (l.map tw)))) := by
  have SN := Lib.hid hs
  have HN := Lib.hid hn
  have OK := Lib.hid ok
  obtain ⟨b, hb⟩ : ∃ b, checkB (l.map tw) = b := ⟨_, rfl⟩
  rw [hb]
  have HB := Lib.hid (show b = (decide (1 ≤ n ∧ n ≤ 100) && ((l.map tw).all wordB && decide (sumC (l.map tw) ≤ 400))) by rw [← hb, checkB, List.length_map, hn])
  clear hs hn ok hb
  by_cases h1 : n < 1
  · have HF := Lib.hid (show false = b by rw [HB.out, decide_eq_false (by omega)]; rfl)
    have h1' : (n : Int) < 1 := by omega
    clear HB
    go_enter Tryz.func15, Tryz.ntmps15
    go_wp2_with fail
    go_ret
    exact ⟨ret_bool HF.out, Ext.refl _⟩
  by_cases h2 : 100 < n
  · have HF := Lib.hid (show false = b by rw [HB.out, decide_eq_false (by omega)]; rfl)
    have h1' : ¬ (n : Int) < 1 := by omega
    have h2' : (100 : Int) < n := by omega
    clear HB
    go_enter Tryz.func15, Tryz.ntmps15
    go_wp2_with fail
    go_ret
    exact ⟨ret_bool HF.out, Ext.refl _⟩
  have h1' : ¬ (n : Int) < 1 := by omega
  have h2' : ¬ (100 : Int) < n := by omega
  have hn100 : (n : Int) ≤ 100 := by omega
  have HB2 := Lib.hid (show b = ((l.map tw).all wordB && decide (sumC (l.map tw) ≤ 400)) by rw [HB.out, decide_eq_true (by omega), Bool.true_and])
  clear HB
  go_enter Tryz.func15, Tryz.ntmps15
  go_wp2_with fail
  go_loopw [3, 16] (fun s i wr => ∃ (k t : Nat), k ≤ n ∧ i = .int .i64 k ∧ s = .int .i64 t ∧ t ≤ k * 60 ∧ Hid (Ext w wr) ∧ Hid (t = sumC ((l.take k).map tw) ∧ ∀ p ∈ (l.take k).map tw, wordB p = true)) (fun _ i _ => n - (intOf i).toNat)
  case atStart => exact ⟨0, 0, Nat.zero_le _, rfl, rfl, by omega, Lib.hid (Ext.refl _), Lib.hid ⟨by simp [sumC], fun p hp => by simp at hp⟩⟩
  case round =>
    obtain ⟨k, t, hk, rfl, rfl, ht, X, hh⟩ := hrel
    by_cases hlt : k < n
    · have hkl : k < l.length := by rw [← HN.out]; exact hlt
      obtain ⟨⟨ad, rfl, u0, u1⟩, s1, s2⟩ := (SN.out.ext X.out).get hkl
      have C := Lib.hid (fun w' (x : Ext wr w') => may_any l[k] (OK.out _ (List.getElem_mem hkl)) w' (s1.ext x) (s2.ext x))
      have TM := Lib.hid (take_map hkl)
      have LM := Lib.hid (show tw l[k] ∈ l.map tw from List.mem_map.2 ⟨_, List.getElem_mem hkl, rfl⟩)
      have WS := Lib.hid (word_short (p := tw l[k]))
      have TL := Lib.hid (show (tw l[k]).1.length = l[k].cs.length from rfl)
      unfold cwV at C
      generalize tw l[k] = p at *
      generalize l[k].cs.length = x0 at *
      generalize l[k].A = x1 at *
      generalize l[k].c = x2 at *
      generalize l[k].ss.length = x3 at *
      generalize l[k].B = x4 at *
      generalize l[k].d = x5 at *
      have hk64 : (k : Int) < n := by omega
      have C := Lib.hid (C.out (wr.alloc (.cells #[.slice x1 x0 x2, .slice x4 x3 x5] 50)) ((Ext.refl _).alloc _))
      have kX : Blk (wr.alloc (.cells #[.slice x1 x0 x2, .slice x4 x3 x5] 50)) wr.heap.size 50 [.slice x1 x0 x2, .slice x4 x3 x5] := Blk.lit _ _ _ _ rfl
      have XW := Lib.hid (X.out.alloc (.cells #[.slice x1 x0 x2, .slice x4 x3 x5] 50))
      clear s1 s2
      go_wp2_with fail
      refine C.out.mono ?_; rintro e w5 ⟨rfl, x⟩
      have X5 := Lib.hid (XW.out.trans x)
      have r0 := x.at (kX.cell 0)
      clear x C kX
      cases hp : wordB p with
      | false =>
        have HF := Lib.hid (show false = b by
          rw [HB2.out]
          have : (l.map tw).all wordB = false := by
            rw [Bool.eq_false_iff]
            intro h
            rw [List.all_eq_true] at h
            rw [h p LM.out] at hp
            cases hp
          rw [this]; rfl)
        clear hp
        go_wp2_with fail
        go_ret
        exact ⟨ret_bool HF.out, X5.out⟩
      | true =>
        have hs := WS.out hp
        rw [TL.out] at hs
        have H2 := Lib.hid (show t + x0 = sumC ((l.take (k + 1)).map tw) ∧ ∀ q ∈ (l.take (k + 1)).map tw, wordB q = true by
          rw [TM.out, sumC_snoc, ← hh.out.1, TL.out]
          refine ⟨rfl, fun q hq => ?_⟩
          rcases List.mem_append.1 hq with hq | hq
          · exact hh.out.2 q hq
          · obtain rfl : q = p := by simpa using hq
            exact hp)
        have ht64 : (t : Int) ≤ 6000 := by omega
        have hx64 : (x0 : Int) ≤ 60 := by omega
        clear hp hh TM
        go_wp2_with fail
        go_roundw
        case rel => exact ⟨k + 1, t + x0, by omega, by go_num, by go_num, by omega, X5, H2⟩
        case measure => simp [intOf]; omega
    · obtain rfl : k = n := by omega
      obtain ⟨h4, h5⟩ := hh.out
      have h6 : l.take k = l := by rw [HN.out, List.take_length]
      rw [h6] at h4 h5
      have HF := Lib.hid (show decide (t ≤ 400) = b by
        rw [HB2.out, List.all_eq_true.2 h5, Bool.true_and, ← h4])
      have ht64 : (t : Int) ≤ 6000 := by omega
      clear h4 h5 h6 hh
      by_cases h7 : t ≤ 400
      · have h8 : (t : Int) ≤ 400 := by omega
        have HF2 := Lib.hid (show true = b by rw [← HF.out, decide_eq_true h7])
        clear HF h7
        go_wp2_with fail
        go_ret
        exact ⟨ret_bool HF2.out, X.out⟩
      · have h8 : ¬ (t : Int) ≤ 400 := by omega
        have HF2 := Lib.hid (show false = b by rw [← HF.out, decide_eq_false h7])
        clear HF h7
        go_wp2_with fail
        go_ret
        exact ⟨ret_bool HF2.out, X.out⟩
end L13
end Go.Proofs.YtmmgmcfhlhghoaaGreatDoor

