/- The document's Pieces of layer 17. -/
import Derived.Test.YtmmgmcfhlhghoaaDocA17
namespace Go.Proofs.Ytmmgmcfhlhghoaa
open Go.RowKit
namespace L17
open L13 (TW tw checkB wordB)
open L16 (Brk befB brkV rbefore_any)

/-- Own lists, made since the call, and an error. -/
def RPiQ (w : World) (r : List (List Int) × Int) (e : Ending) (w' : World) : Prop := ∃ v rs, e = .returned (.tuple #[v, .int .i64 r.2]) ∧ OwnR w w' v rs ∧ nsL rs = r.1
set_option maxRecDepth 100000 in
set_option maxHeartbeats 4000000 in
theorem rpieces_any (WA : Option Addr) (wl : List CW) (d : Nat) (a b : Brk) (w : World) (sw : SeenC w WA wl) (wok : ∀ x ∈ wl, x.Ok) :
    Calls Try.prog 9 #[.slice WA wl.length d, brkV a, brkV b] w (RPiQ w (piA (wl.map tw) a b)) := by
  obtain ⟨a1, a2, a3⟩ := a
  obtain ⟨d1, d2, d3⟩ := b
  obtain ⟨W1, hW1⟩ : ∃ W1, W1 = (w.alloc (.cells #[.int .i64 a1, .int .i64 a2, .int .i64 a3] 24)).alloc (.cells #[.int .i64 d1, .int .i64 d2, .int .i64 d3] 24) := ⟨_, rfl⟩
  have x0 : Ext w W1 := by rw [hW1]; exact ((Ext.refl _).alloc _).alloc _
  have KA := Lib.hid (show Blk W1 w.heap.size 24 [.int .i64 a1, .int .i64 a2, .int .i64 a3] by rw [hW1]; exact (Blk.lit _ _ _ _ rfl).ext ((Ext.refl _).alloc _))
  have KB := Lib.hid (show Blk W1 (w.heap.size + 1) 24 [.int .i64 d1, .int .i64 d2, .int .i64 d3] by rw [hW1]; exact Blk.lit _ _ _ _ (by simp))
  have SW := Lib.hid (sw.ext x0)
  have X0 := Lib.hid x0
  have C0 := Lib.hid (L13.rcheck_any WA wl wl.length d W1 (sw.ext x0) rfl wok)
  have CA := Lib.hid (fun w' (x : Ext W1 w') => rstands_any WA wl d (a1, a2, a3) w' (SW.out.ext x) wok)
  have CB := Lib.hid (fun w' (x : Ext W1 w') => rstands_any WA wl d (d1, d2, d3) w' (SW.out.ext x) wok)
  have CF := Lib.hid (fun w' => rbefore_any (a1, a2, a3) (d1, d2, d3) w')
  have CC := Lib.hid (fun (h : checkB (wl.map tw) = true) w' (x : Ext W1 w') => rcut_any WA wl d (a1, a2, a3) (d1, d2, d3) w' (SW.out.ext x) (words_fit h).1 (fun x hx => ((words_fit h).2 x hx).2))
  have PV := Lib.hid (show piA (wl.map tw) (a1, a2, a3) (d1, d2, d3) = if checkB (wl.map tw) = true then (if stB (wl.map tw) (a1, a2, a3) = true ∧ stB (wl.map tw) (d1, d2, d3) = true ∧ a1 ≠ 5 ∧ befB (a1, a2, a3) (d1, d2, d3) = true then (cutL (a1, a2, a3) (d1, d2, d3) (wl.map tw), 0) else ([], 1)) else ([], 130) from rfl)
  generalize checkB (wl.map tw) = cb at *
  generalize stB (wl.map tw) (a1, a2, a3) = sa at *
  generalize stB (wl.map tw) (d1, d2, d3) = sb at *
  generalize befB (a1, a2, a3) (d1, d2, d3) = bf at *
  generalize piA (wl.map tw) (a1, a2, a3) (d1, d2, d3) = r at *
  have PF := Lib.hid (fun (h : cb = false) => show r = ([], 130) by rw [PV.out, if_neg (by rw [h]; decide)])
  have PN := Lib.hid (fun (h : cb = true) (g : ¬ (sa = true ∧ sb = true ∧ a1 ≠ 5 ∧ bf = true)) => show r = ([], 1) by rw [PV.out, if_pos h, if_neg g])
  have PY := Lib.hid (fun (h : cb = true) (g : sa = true ∧ sb = true ∧ a1 ≠ 5 ∧ bf = true) => show r = (cutL (a1, a2, a3) (d1, d2, d3) (wl.map tw), 0) by rw [PV.out, if_pos h, if_pos g])
  clear PV
  have HW1 := Lib.hid hW1
  obtain ⟨b0, hb0⟩ : ∃ b0, w.heap.size = b0 := ⟨_, rfl⟩
  obtain ⟨b1, hb1⟩ : ∃ b1, b0 + 1 = b1 := ⟨_, rfl⟩
  rw [hb0] at KA KB
  rw [hb1] at KB
  have H0 := Lib.hid hb0
  have H1 := Lib.hid hb1
  clear hW1 hb0 hb1 x0 sw wok
  unfold brkV at CA CB CF CC ⊢
  dsimp only at CA CB CF CC ⊢
  go_enter Try.func9, Try.ntmps9
  go_upto_region 1 with (fail)
  rw [← HW1.out, H0.out, H1.out]
  clear HW1 H0 H1
  go_wp2_with fail
  refine C0.out.mono ?_
  rintro e w1 ⟨rfl, x1⟩
  have X1 := Lib.hid x1
  have p0 : w1.cell? ⟨b0, 0, none⟩ = some (.int .i64 a1) := (KA.out.ext x1).cell 0
  have p1 : w1.cell? ⟨b0, 1, none⟩ = some (.int .i64 a2) := (KA.out.ext x1).cell 1
  have p2 : w1.cell? ⟨b0, 2, none⟩ = some (.int .i64 a3) := (KA.out.ext x1).cell 2
  clear x1 C0
  cases cb with
  | false =>
    have RV := Lib.hid (PF.out rfl)
    clear PF PN PY CA CB CF CC
    go_wp2_with fail
    go_ret2
    rw [RV.out]
    exact ⟨_, [], rfl, OwnR.nil (X0.out.trans X1.out), rfl⟩
  | true =>
  have CD := Lib.hid (CC.out rfl)
  have NOV := Lib.hid (PN.out rfl)
  have YES := Lib.hid (PY.out rfl)
  clear CC PF PN PY
  go_wp2_with fail
  refine (CA.out w1 X1.out).mono ?_
  rintro e w2 ⟨rfl, x2⟩
  have X2 := Lib.hid (X1.out.trans x2)
  clear x2 CA p0 p1 p2
  have q0 : w2.cell? ⟨b1, 0, none⟩ = some (.int .i64 d1) := (KB.out.ext X2.out).cell 0
  have q1 : w2.cell? ⟨b1, 1, none⟩ = some (.int .i64 d2) := (KB.out.ext X2.out).cell 1
  have q2 : w2.cell? ⟨b1, 2, none⟩ = some (.int .i64 d3) := (KB.out.ext X2.out).cell 2
  go_wp2_with fail
  refine (CB.out w2 X2.out).mono ?_
  rintro e w3 ⟨rfl, x3⟩
  have X3 := Lib.hid (X2.out.trans x3)
  clear x3 CB q0 q1 q2
  have p0 : w3.cell? ⟨b0, 0, none⟩ = some (.int .i64 a1) := (KA.out.ext X3.out).cell 0
  have p1 : w3.cell? ⟨b0, 1, none⟩ = some (.int .i64 a2) := (KA.out.ext X3.out).cell 1
  have p2 : w3.cell? ⟨b0, 2, none⟩ = some (.int .i64 a3) := (KA.out.ext X3.out).cell 2
  have q0 : w3.cell? ⟨b1, 0, none⟩ = some (.int .i64 d1) := (KB.out.ext X3.out).cell 0
  have q1 : w3.cell? ⟨b1, 1, none⟩ = some (.int .i64 d2) := (KB.out.ext X3.out).cell 1
  have q2 : w3.cell? ⟨b1, 2, none⟩ = some (.int .i64 d3) := (KB.out.ext X3.out).cell 2
  cases sa with
  | false =>
    have RV := Lib.hid (NOV.out (fun h => by simp at h))
    clear YES CF CD NOV
    go_wp2_with fail
    go_ret2
    rw [RV.out]
    exact ⟨_, [], rfl, OwnR.nil (X0.out.trans X3.out), rfl⟩
  | true =>
  cases sb with
  | false =>
    have RV := Lib.hid (NOV.out (fun h => by simp at h))
    clear YES CF CD NOV
    go_wp2_with fail
    go_ret2
    rw [RV.out]
    exact ⟨_, [], rfl, OwnR.nil (X0.out.trans X3.out), rfl⟩
  | true =>
  by_cases h5 : a1 = 5
  · have RV := Lib.hid (NOV.out (fun h => h.2.2.1 h5))
    subst h5
    clear YES CF CD NOV
    go_wp2_with fail
    go_ret2
    rw [RV.out]
    exact ⟨_, [], rfl, OwnR.nil (X0.out.trans X3.out), rfl⟩
  have k5 : (a1 == 5) = false := by simpa using h5
  have NO5 := Lib.hid (fun (h : bf = false) => NOV.out (fun g => by rw [h] at g; exact absurd g.2.2.2 (by decide)))
  have YE5 := Lib.hid (fun (h : bf = true) => YES.out ⟨rfl, rfl, h5, h⟩)
  clear NOV YES
  go_wp2_with fail
  refine (CF.out w3).mono ?_
  rintro e w4 ⟨rfl, x4⟩
  have X4 := Lib.hid (X3.out.trans x4)
  have p0 := x4.at p0
  have p1 := x4.at p1
  have p2 := x4.at p2
  have q0 := x4.at q0
  have q1 := x4.at q1
  have q2 := x4.at q2
  clear x4 CF
  cases bf with
  | false =>
    have RV := Lib.hid (NO5.out rfl)
    clear NO5 YE5 CD
    go_wp2_with fail
    go_ret2
    rw [RV.out]
    exact ⟨_, [], rfl, OwnR.nil (X0.out.trans X4.out), rfl⟩
  | true =>
  have RV := Lib.hid (YE5.out rfl)
  have CE := Lib.hid (CD.out w4 X4.out)
  clear NO5 YE5 CD
  go_wp2_with fail
  refine CE.out.mono ?_
  rintro e w5 ⟨v5, rs, rfl, ho, hn⟩
  have HO := Lib.hid (OwnR.down (X0.out.trans X4.out) ho)
  have HN := Lib.hid hn
  clear ho hn CE
  go_wp2_with fail
  go_ret2
  rw [RV.out]
  exact ⟨_, rs, rfl, HO.out, HN.out⟩
end L17
end Go.Proofs.Ytmmgmcfhlhghoaa

