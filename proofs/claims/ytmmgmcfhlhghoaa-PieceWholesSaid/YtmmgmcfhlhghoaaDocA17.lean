/- The document's Stands and Pieces of layer 17. Written by gen17/stands.py. -/
import Derived.Test.YtmmgmcfhlhghoaaCut17
import Derived.Test.YtmmgmcfhlhghoaaDocB13
import Derived.Test.YtmmgmcfhlhghoaaBef16
namespace Go.Proofs.Ytmmgmcfhlhghoaa
open Go.RowKit
namespace L17
open L13 (TW tw checkB wordB)
open L16 (Brk befB brkV rbefore_any)

theorem words_fit {wl : List CW} (h : checkB (wl.map tw) = true) : wl.length ≤ 110 ∧ ∀ x ∈ wl, 1 ≤ x.cs.length ∧ x.cs.length ≤ 1000 := by
  simp only [checkB, Bool.and_eq_true, decide_eq_true_eq, List.all_eq_true, List.length_map] at h
  refine ⟨by omega, fun x hx => ?_⟩
  have hw := L13.word_short (h.2.1 (tw x) (List.mem_map.2 ⟨x, hx, rfl⟩))
  have e1 : (tw x).1.length = x.cs.length := rfl
  omega
set_option maxRecDepth 100000 in
set_option maxHeartbeats 4000000 in
theorem rstands_any (WA : Option Addr) (wl : List CW) (d : Nat) (b : Brk) (w : World) (sw : SeenC w WA wl) (wok : ∀ x ∈ wl, x.Ok) :
    Calls Try.prog 11 #[.slice WA wl.length d, brkV b] w (Ret w (.bool (stB (wl.map tw) b))) := by
  obtain ⟨d1, d2, d3⟩ := b
  obtain ⟨W1, hW1⟩ : ∃ W1, W1 = w.alloc (.cells #[.int .i64 d1, .int .i64 d2, .int .i64 d3] 24) := ⟨_, rfl⟩
  have x0 : Ext w W1 := by rw [hW1]; exact (Ext.refl _).alloc _
  have KB := Lib.hid (show Blk W1 w.heap.size 24 [.int .i64 d1, .int .i64 d2, .int .i64 d3] by rw [hW1]; exact Blk.lit _ _ _ _ rfl)
  have SW := Lib.hid (sw.ext x0)
  have X0 := Lib.hid x0
  have CK := Lib.hid (L13.rcheck_any WA wl wl.length d W1 (sw.ext x0) rfl wok)
  have WF := Lib.hid (fun h : checkB (wl.map tw) = true => words_fit h)
  have SV := Lib.hid (show stB (wl.map tw) (d1, d2, d3) = (checkB (wl.map tw) && (decide (0 ≤ d2) && (decide (d2 < (wl.length : Int)) && placeB wl.length ((wl.map tw).getD d2.toNat ([], [])).1.length (d1, d2, d3)))) by
    have e : (wl.map tw).length = wl.length := List.length_map ..
    unfold stB
    dsimp only
    rw [e])
  have GD := Lib.hid (fun k (hk : k < wl.length) => show ((wl.map tw).getD k ([], [])).1.length = wl[k].cs.length by simp [List.getD, hk]; rfl)
  have PL := Lib.hid (fun n cl => show placeB n cl (d1, d2, d3) = (if d1 = 0 then decide (d2 = 0) && decide (d3 = 0) else if d1 = 1 then decide (d2 < (n : Int) - 1) && decide (d3 = (cl : Int)) else if d1 = 5 then decide (d2 = (n : Int) - 1) && decide (d3 = (cl : Int)) else decide (2 ≤ d1) && (decide (d1 ≤ 4) && (decide (1 ≤ d3) && decide (d3 < (cl : Int))))) from rfl)
  generalize checkB (wl.map tw) = cb at *
  generalize stB (wl.map tw) (d1, d2, d3) = r at *
  have HW1 := Lib.hid hW1
  obtain ⟨b0, hb0⟩ : ∃ b0, w.heap.size = b0 := ⟨_, rfl⟩
  rw [hb0] at KB
  have H0 := Lib.hid hb0
  clear hW1 hb0 x0 sw wok
  unfold brkV
  dsimp only
  go_enter Try.func11, Try.ntmps11
  go_upto_region 1 with (fail)
  rw [← HW1.out, H0.out]
  clear HW1 H0
  go_wp2_with fail
  refine CK.out.mono ?_
  rintro e w1 ⟨rfl, x1⟩
  have X := Lib.hid (X0.out.trans x1)
  have q0 : w1.cell? ⟨b0, 0, none⟩ = some (.int .i64 d1) := (KB.out.ext x1).cell 0
  have q1 : w1.cell? ⟨b0, 1, none⟩ = some (.int .i64 d2) := (KB.out.ext x1).cell 1
  have q2 : w1.cell? ⟨b0, 2, none⟩ = some (.int .i64 d3) := (KB.out.ext x1).cell 2
  have SW1 := Lib.hid (SW.out.ext x1)
  clear x1 CK KB SW X0
  cases cb with
  | false =>
    have RV := Lib.hid (show r = false by rw [SV.out]; rfl)
    clear SV WF GD PL
    go_wp2_with fail
    go_ret
    exact ⟨by rw [RV.out]; rfl, X.out⟩
  | true =>
  have WG := Lib.hid (WF.out rfl)
  clear WF
  have n64 : (wl.length : Int) ≤ 110 := by have := WG.out.1; omega
  by_cases h0 : d2 < 0
  · have RV := Lib.hid (show r = false by rw [SV.out, decide_eq_false (show ¬ 0 ≤ d2 by omega)]; rfl)
    clear SV GD PL
    go_wp2_with fail
    go_ret
    exact ⟨by rw [RV.out]; rfl, X.out⟩
  obtain ⟨m, rfl⟩ : ∃ m : Nat, d2 = (m : Int) := ⟨d2.toNat, by omega⟩
  by_cases h1 : wl.length ≤ m
  · have h1z : (wl.length : Int) ≤ (m : Int) := by omega
    have RV := Lib.hid (show r = false by rw [SV.out, decide_eq_false (show ¬ (m : Int) < (wl.length : Int) by omega)]; simp)
    clear SV GD PL
    go_wp2_with fail
    go_ret
    exact ⟨by rw [RV.out]; rfl, X.out⟩
  have hm : m < wl.length := by omega
  have h1y : ¬ (wl.length : Int) ≤ (m : Int) := by omega
  have hm64 : (m : Int) < (wl.length : Int) := by omega
  have RV := Lib.hid (show r = placeB wl.length wl[m].cs.length (d1, (m : Int), d3) by
    rw [SV.out, decide_eq_true (show 0 ≤ (m : Int) by omega), decide_eq_true hm64, ← GD.out m hm, Int.toNat_natCast]; rfl)
  obtain ⟨⟨ad, rfl, c0, _⟩, _, _⟩ := SW1.out.get hm
  have RW := Lib.hid (RV.out.trans (PL.out _ _))
  have cz := (WG.out.2 _ (List.getElem_mem hm)).2
  clear SV GD PL RV WG
  generalize wl[m].cs.length = cl at *
  have cl64 : (cl : Int) ≤ 1000 := by omega
  have wn : IntKind.i64.wrap ((wl.length : Int) - 1) = (wl.length : Int) - 1 := IntWalk.i64_in _ (by omega)
  by_cases k0 : d1 = 0
  · subst k0
    by_cases p : (m : Int) = 0
    · obtain rfl : m = 0 := by omega
      have hne : ¬ wl = [] := by rintro rfl; simp at hm
      have c0 : w1.cell? ad = some (.slice wl[0].A cl wl[0].c) := by simpa [Addr.add] using c0
      by_cases q : d3 = 0
      · subst q
        have EV := Lib.hid (show r = true by rw [RW.out]; simp)
        clear RW
        go_wp2_with fail
        go_ret
        exact ⟨by rw [EV.out]; rfl, X.out⟩
      · skip
        have kq : (d3 == 0) = false := by simpa using q
        have EV := Lib.hid (show r = false by rw [RW.out]; simp [q])
        clear RW
        go_wp2_with fail
        go_ret
        exact ⟨by rw [EV.out]; rfl, X.out⟩
    · have kp : ((m : Int) == 0) = false := by simpa using p
      have kp2 : ¬ m = 0 := by omega
      have EV := Lib.hid (show r = false by rw [RW.out]; simp [kp2])
      clear RW
      go_wp2_with fail
      go_ret
      exact ⟨by rw [EV.out]; rfl, X.out⟩
  have e0 : (d1 == 0) = false := by simpa using k0
  by_cases k1 : d1 = 1
  · subst k1
    by_cases p : (m : Int) < (wl.length : Int) - 1
    · by_cases q : d3 = (cl : Int)
      · subst q
        have EV := Lib.hid (show r = true by rw [RW.out]; simp [p])
        clear RW
        go_wp2_with fail
        go_ret
        exact ⟨by rw [EV.out]; rfl, X.out⟩
      · skip
        have kq : (d3 == (cl : Int)) = false := by simpa using q
        have EV := Lib.hid (show r = false by rw [RW.out]; simp [q])
        clear RW
        go_wp2_with fail
        go_ret
        exact ⟨by rw [EV.out]; rfl, X.out⟩
    · have p2 : (wl.length : Int) - 1 ≤ (m : Int) := by omega
      have EV := Lib.hid (show r = false by rw [RW.out]; rw [decide_eq_false p]; simp)
      clear RW
      go_wp2_with fail
      go_ret
      exact ⟨by rw [EV.out]; rfl, X.out⟩
  have e1 : (d1 == 1) = false := by simpa using k1
  by_cases k5 : d1 = 5
  · subst k5
    by_cases p : (m : Int) = (wl.length : Int) - 1
    · have wm : IntKind.i64.wrap ((wl.length : Int) - 1) = (m : Int) := by rw [wn]; omega
      have pp := Lib.hid p
      clear wn p
      by_cases q : d3 = (cl : Int)
      · subst q
        have EV := Lib.hid (show r = true by rw [RW.out, decide_eq_true pp.out]; simp)
        clear RW
        go_wp2_with fail
        go_ret
        exact ⟨by rw [EV.out]; rfl, X.out⟩
      · skip
        have kq : (d3 == (cl : Int)) = false := by simpa using q
        have EV := Lib.hid (show r = false by rw [RW.out]; simp [q])
        clear RW
        go_wp2_with fail
        go_ret
        exact ⟨by rw [EV.out]; rfl, X.out⟩
    · have kp2 : ((m : Int) == (wl.length : Int) - 1) = false := by simpa using p
      have EV := Lib.hid (show r = false by rw [RW.out]; rw [decide_eq_false p]; simp)
      clear RW
      go_wp2_with fail
      go_ret
      exact ⟨by rw [EV.out]; rfl, X.out⟩
  have e5 : (d1 == 5) = false := by simpa using k5
  by_cases p1 : 2 ≤ d1
  · by_cases p2 : d1 ≤ 4
    · by_cases p3 : 1 ≤ d3
      · by_cases p4 : d3 < (cl : Int)
        · skip
          have EV := Lib.hid (show r = true by rw [RW.out]; simp [k0, k1, k5, p1, p2, p3, p4])
          clear RW
          go_wp2_with fail
          go_ret
          exact ⟨by rw [EV.out]; rfl, X.out⟩
        · have p4' : decide (d3 < (cl : Int)) = false := decide_eq_false p4
          have EV := Lib.hid (show r = false by rw [RW.out]; rw [if_neg k0, if_neg k1, if_neg k5, decide_eq_false p4]; simp)
          clear RW
          go_wp2_with fail
          go_ret
          exact ⟨by rw [EV.out]; rfl, X.out⟩
      · have p3' : d3 < 1 := by omega
        have EV := Lib.hid (show r = false by rw [RW.out]; rw [if_neg k0, if_neg k1, if_neg k5, decide_eq_false p3]; simp)
        clear RW
        go_wp2_with fail
        go_ret
        exact ⟨by rw [EV.out]; rfl, X.out⟩
    · have p2' : 4 < d1 := by omega
      have EV := Lib.hid (show r = false by rw [RW.out]; rw [if_neg k0, if_neg k1, if_neg k5, decide_eq_false p2]; simp)
      clear RW
      go_wp2_with fail
      go_ret
      exact ⟨by rw [EV.out]; rfl, X.out⟩
  · have p1' : d1 < 2 := by omega
    have EV := Lib.hid (show r = false by rw [RW.out]; rw [if_neg k0, if_neg k1, if_neg k5, decide_eq_false p1]; simp)
    clear RW
    go_wp2_with fail
    go_ret
    exact ⟨by rw [EV.out]; rfl, X.out⟩
end L17
end Go.Proofs.Ytmmgmcfhlhghoaa

