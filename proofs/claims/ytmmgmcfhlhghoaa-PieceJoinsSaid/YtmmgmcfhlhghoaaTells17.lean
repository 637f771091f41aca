/- PieceTells: whether any break may be one of any words, and what stands between two, are what the document says, whatever calls answer so. -/
import Derived.Test.YtmmgmcfhlhghoaaAwake17
import Derived.Test.YtmmgmcfhlhghoaaDocB17
import Derived.Test.YtmmgmcfhlhghoaaFew13
namespace Go.Proofs.Ytmmgmcfhlhghoaa
open Go.RowKit
namespace PieceTells
open L13 (TW tw checkB rfew_any)
open L16 (Brk befB brkV)
open L17

theorem few_small {l : List TW} (h : L13.fewB l = true) : l.length ≤ 110 ∧ ∀ x ∈ l, x.1.length ≤ 110 := by
  simp only [L13.fewB, L13.few1, Bool.and_eq_true, decide_eq_true_eq, List.all_eq_true] at h
  exact ⟨h.1, fun x hx => by have := (h.2 x hx).1; omega⟩
theorem same_all {A B : Option Addr} {l m : List RI} {r : List (List Int)} {n c k d : Nat} {w : World} (hs : SeenR w A l) (ht : SeenR w B m) (hl : nsL l = r) (hm : nsL m = r) (hn : n = r.length) (hk : k = m.length) (h1 : r.length ≤ 1000000) (h2 : ∀ x ∈ r, x.length ≤ 1000000) :
    Calls Try.prog 12 #[.slice A n c, .slice B k d] w (Ret w (.bool true)) := same_yes hs ht hl hm hn (by rw [hk, nsL_len hm]) h1 h2
set_option maxRecDepth 100000 in
set_option maxHeartbeats 4000000 in
theorem all (PA : Pie) (WA : Option Addr) (wl : List CW) (d : Nat) (hwd : wl.length ≤ d) (hdm : d ≤ maxLen) (wok : ∀ x ∈ wl, x.Ok) (a b : Brk) (w : World) (sw : SeenC w WA wl) :
    Calls Try.prog 3 #[.slice WA wl.length d, brkV a, brkV b] w (Ret w (.bool true)) := by
  obtain ⟨a1, a2, a3⟩ := a
  obtain ⟨d1, d2, d3⟩ := b
  obtain ⟨W1, hW1⟩ : ∃ W1, W1 = (w.alloc (.cells #[.int .i64 a1, .int .i64 a2, .int .i64 a3] 24)).alloc (.cells #[.int .i64 d1, .int .i64 d2, .int .i64 d3] 24) := ⟨_, rfl⟩
  have x0 : Ext w W1 := by rw [hW1]; exact ((Ext.refl _).alloc _).alloc _
  have KA := Lib.hid (show Blk W1 w.heap.size 24 [.int .i64 a1, .int .i64 a2, .int .i64 a3] by rw [hW1]; exact (Blk.lit _ _ _ _ rfl).ext ((Ext.refl _).alloc _))
  have KB := Lib.hid (show Blk W1 (w.heap.size + 1) 24 [.int .i64 d1, .int .i64 d2, .int .i64 d3] by rw [hW1]; exact Blk.lit _ _ _ _ (by simp))
  have X0 := Lib.hid x0
  have AW := Lib.hid (awake_any PA W1)
  have FEW := Lib.hid (fun w' (x : Ext W1 w') => rfew_any WA wl wl.length d w' (sw.ext (x0.trans x)) rfl)
  have SMALL := Lib.hid (fun h : L13.fewB (wl.map tw) = true => piA_small (wl.map tw) (a1, a2, a3) (d1, d2, d3) 110 (few_small h).1 (few_small h).2)
  have PI := Lib.hid (fun w' (x : Ext W1 w') => PA.piC WA wl wl.length d (a1, a2, a3) (d1, d2, d3) w' (sw.ext (x0.trans x)) rfl hwd hdm wok)
  have RP := Lib.hid (fun w' (x : Ext W1 w') => rpieces_any WA wl d (a1, a2, a3) (d1, d2, d3) w' (sw.ext (x0.trans x)) wok)
  have ST := Lib.hid (fun w' (x : Ext W1 w') => PA.stC WA wl wl.length d (a1, a2, a3) w' (sw.ext (x0.trans x)) rfl hwd hdm wok)
  have RS := Lib.hid (fun w' (x : Ext W1 w') => rstands_any WA wl d (a1, a2, a3) w' (sw.ext (x0.trans x)) wok)
  generalize L13.fewB (wl.map tw) = f1 at *
  generalize stB (wl.map tw) (a1, a2, a3) = st at *
  generalize piA (wl.map tw) (a1, a2, a3) (d1, d2, d3) = r at *
  obtain ⟨r, er⟩ := r
  have HW1 := Lib.hid hW1
  obtain ⟨b0, hb0⟩ : ∃ b0, w.heap.size = b0 := ⟨_, rfl⟩
  obtain ⟨b1, hb1⟩ : ∃ b1, b0 + 1 = b1 := ⟨_, rfl⟩
  rw [hb0] at KA KB
  rw [hb1] at KB
  have H0 := Lib.hid hb0
  have H1 := Lib.hid hb1
  clear hW1 hb0 hb1 x0 sw wok hwd hdm PA
  unfold brkV at PI RP ST RS ⊢
  dsimp only at *
  generalize wl.length = n at *
  go_enter Try.func3, Try.ntmps3
  go_upto_region 1 with (fail)
  rw [← HW1.out, H0.out, H1.out]
  clear HW1 H0 H1
  go_wp2_with fail
  refine AW.out.mono ?_
  rintro e w1 ⟨rfl, x1⟩
  have X1 := Lib.hid x1
  clear x1 AW
  go_wp2_with fail
  refine (FEW.out w1 X1.out).mono ?_
  rintro e w2 ⟨rfl, x2⟩
  have X2 := Lib.hid (X1.out.trans x2)
  clear x2 X1 FEW
  cases f1 with
  | false =>
    clear SMALL PI RP ST RS
    go_wp2_with fail
    go_ret
    exact ⟨rfl, X0.out.trans X2.out⟩
  | true =>
  have SM := Lib.hid (SMALL.out rfl)
  clear SMALL
  have p0 : w2.cell? ⟨b0, 0, none⟩ = some (.int .i64 a1) := (KA.out.ext X2.out).cell 0
  have p1 : w2.cell? ⟨b0, 1, none⟩ = some (.int .i64 a2) := (KA.out.ext X2.out).cell 1
  have p2 : w2.cell? ⟨b0, 2, none⟩ = some (.int .i64 a3) := (KA.out.ext X2.out).cell 2
  have q0 : w2.cell? ⟨b1, 0, none⟩ = some (.int .i64 d1) := (KB.out.ext X2.out).cell 0
  have q1 : w2.cell? ⟨b1, 1, none⟩ = some (.int .i64 d2) := (KB.out.ext X2.out).cell 1
  have q2 : w2.cell? ⟨b1, 2, none⟩ = some (.int .i64 d3) := (KB.out.ext X2.out).cell 2
  go_wp2_with fail
  refine (PI.out w2 X2.out).mono ?_
  rintro e w3 ⟨x3, A3, r3, c3, rfl, k3, n3⟩
  have X3 := Lib.hid (X2.out.trans x3)
  have K3 := Lib.hid k3
  have N3 := Lib.hid n3
  have p0 := x3.at p0
  have p1 := x3.at p1
  have p2 := x3.at p2
  have q0 := x3.at q0
  have q1 := x3.at q1
  have q2 := x3.at q2
  dsimp only at N3 ⊢
  clear x3 k3 n3 PI X2
  go_wp2_with fail
  refine (RP.out w3 X3.out).mono ?_
  rintro e w4 ⟨v4, r4, rfl, o4, n4⟩
  obtain ⟨A4, c4, rfl, k4⟩ := o4.read
  have x4 := o4.2.1
  have X4 := Lib.hid (X3.out.trans x4)
  have K3 := Lib.hid (K3.out.ext x4)
  have K4 := Lib.hid k4
  have N4 := Lib.hid n4
  have g0 := cell_regrown (x4.at p0)
  have g1 := cell_regrown (x4.at p1)
  have g2 := cell_regrown (x4.at p2)
  dsimp only at N4 ⊢
  have SAME := Lib.hid (fun dd os => same_all (c := c3) (d := c4) (SeenR.ext K3.out.1 (below_regrown w4 dd os)) (SeenR.ext K4.out.1 (below_regrown w4 dd os)) N3.out N4.out rfl rfl (by have := SM.out.1; omega) (fun x hx => by have := SM.out.2 x hx; omega))
  have ST := Lib.hid (fun dd os => ST.out (Sort.grow (redrawn w4 dd) os) (X4.out.trans (below_regrown _ _ _)))
  have RS := Lib.hid (fun dd os => RS.out (Sort.grow (redrawn w4 dd) os) (X4.out.trans (below_regrown _ _ _)))
  clear o4 k4 n4 x4 p0 p1 p2 q0 q1 q2 RP X3 K3 K4 N3 N4 SM KA KB
  generalize r4.length = m4 at *
  generalize r.length = m3 at *
  go_wp2_with fail
  refine wp_region_quiet_below (by kernel_rfl) (by kernel_rfl) ?_
  repeat (go_big_quiet_step (first | (with_reducible exact rg17 (SAME.out _ _)) | (with_reducible exact rg17 (ST.out _ _)) | (with_reducible exact rg17 (RS.out _ _))))
  refine wpQuiet_nil ?_
  intro _ hw'
  obtain ⟨⟨dq, osq⟩, hw''⟩ := hw'
  subst hw''
  have Z := Lib.hid (X0.out.trans (X4.out.trans (below_regrown w4 dq osq)))
  clear SAME ST RS g0 g1 g2
  go_wp2_with fail
  go_ret
  exact ⟨rfl, Z.out⟩
end PieceTells
end Go.Proofs.Ytmmgmcfhlhghoaa

