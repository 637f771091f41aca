/- PieceJoins: what stands on two lines, that are parted at a space, is what stands on one, whatever calls answer so. Written by gen17/joins.py. -/
import Derived.Test.YtmmgmcfhlhghoaaTells17
import Derived.Test.YtmmgmcfhlhghoaaJoin17
namespace Go.Proofs.Ytmmgmcfhlhghoaa
open Go.RowKit
namespace L17
theorem OwnR.empty {w0 w : World} (x : Ext w0 w) : OwnR w0 (w.alloc (.cells #[] 36)) (.slice (some ⟨w.heap.size, 0, none⟩) 0 0) [] :=
  ⟨World.ownsRow_lit (base := w0.heap.size) (e := 36) (size := 1) w #[] 0 x.size (by unfold maxLen; omega) (by simp), x.alloc _, fun x h => by simp at h⟩
end L17
namespace PieceJoins
open L13 (TW tw checkB rfew_any)
open L16 (Brk befB brkV)
open L17
open PieceTells (few_small)

set_option maxRecDepth 100000 in
set_option maxHeartbeats 4000000 in
theorem all (PA : Pie) (WA : Option Addr) (wl : List CW) (d : Nat) (hwd : wl.length ≤ d) (hdm : d ≤ maxLen) (wok : ∀ x ∈ wl, x.Ok) (a b c : Brk) (w : World) (sw : SeenC w WA wl) :
    Calls Try.prog 5 #[.slice WA wl.length d, brkV a, brkV b, brkV c] w (Ret w (.bool true)) := by
  obtain ⟨a1, a2, a3⟩ := a
  obtain ⟨c1, c2, c3⟩ := b
  obtain ⟨d1, d2, d3⟩ := c
  obtain ⟨W1, hW1⟩ : ∃ W1, W1 = ((w.alloc (.cells #[.int .i64 a1, .int .i64 a2, .int .i64 a3] 24)).alloc (.cells #[.int .i64 c1, .int .i64 c2, .int .i64 c3] 24)).alloc (.cells #[.int .i64 d1, .int .i64 d2, .int .i64 d3] 24) := ⟨_, rfl⟩
  have x0 : Ext w W1 := by rw [hW1]; exact (((Ext.refl _).alloc _).alloc _).alloc _
  have KA := Lib.hid (show Blk W1 w.heap.size 24 [.int .i64 a1, .int .i64 a2, .int .i64 a3] by rw [hW1]; exact ((Blk.lit _ _ _ _ rfl).ext ((Ext.refl _).alloc _)).ext ((Ext.refl _).alloc _))
  have KB := Lib.hid (show Blk W1 (w.heap.size + 1) 24 [.int .i64 c1, .int .i64 c2, .int .i64 c3] by rw [hW1]; exact (Blk.lit _ _ _ _ (by simp)).ext ((Ext.refl _).alloc _))
  have KC := Lib.hid (show Blk W1 (w.heap.size + 1 + 1) 24 [.int .i64 d1, .int .i64 d2, .int .i64 d3] by rw [hW1]; exact Blk.lit _ _ _ _ (by simp))
  have X0 := Lib.hid x0
  have AW := Lib.hid (awake_any PA W1)
  have FEW := Lib.hid (fun w' (x : Ext W1 w') => rfew_any WA wl wl.length d w' (sw.ext (x0.trans x)) rfl)
  have SMALL := Lib.hid (fun (h : L13.fewB (wl.map tw) = true) a b => piA_small (wl.map tw) a b 110 (few_small h).1 (few_small h).2)
  have PAB := Lib.hid (fun w' (x : Ext W1 w') => PA.piC WA wl wl.length d (a1, a2, a3) (c1, c2, c3) w' (sw.ext (x0.trans x)) rfl hwd hdm wok)
  have PBC := Lib.hid (fun w' (x : Ext W1 w') => PA.piC WA wl wl.length d (c1, c2, c3) (d1, d2, d3) w' (sw.ext (x0.trans x)) rfl hwd hdm wok)
  have PAC := Lib.hid (fun w' (x : Ext W1 w') => PA.piC WA wl wl.length d (a1, a2, a3) (d1, d2, d3) w' (sw.ext (x0.trans x)) rfl hwd hdm wok)
  have JOIN := Lib.hid (fun (x y : List (List Int)) (hb : c1 = 1) (h1 : piA (wl.map tw) (a1, a2, a3) (c1, c2, c3) = (x, 0)) (h2 : piA (wl.map tw) (c1, c2, c3) (d1, d2, d3) = (y, 0)) => join_pieces hb h1 h2)
  have SM1 := Lib.hid (fun h => SMALL.out h (a1, a2, a3) (c1, c2, c3))
  have SM2 := Lib.hid (fun h => SMALL.out h (c1, c2, c3) (d1, d2, d3))
  have SM3 := Lib.hid (fun h => SMALL.out h (a1, a2, a3) (d1, d2, d3))
  clear SMALL
  generalize L13.fewB (wl.map tw) = f1 at *
  generalize piA (wl.map tw) (a1, a2, a3) (c1, c2, c3) = r1 at *
  generalize piA (wl.map tw) (c1, c2, c3) (d1, d2, d3) = r2 at *
  generalize piA (wl.map tw) (a1, a2, a3) (d1, d2, d3) = r3 at *
  obtain ⟨r1, e1⟩ := r1
  obtain ⟨r2, e2⟩ := r2
  obtain ⟨r3, e3⟩ := r3
  have JN := Lib.hid (fun (hb : c1 = 1) (h1 : e1 = 0) (h2 : e2 = 0) => show r3 = r1 ++ r2 ∧ e3 = 0 by
    have h := JOIN.out r1 r2 hb (by rw [h1]) (by rw [h2])
    simpa using h)
  clear JOIN
  have HW1 := Lib.hid hW1
  obtain ⟨b0, hb0⟩ : ∃ b0, w.heap.size = b0 := ⟨_, rfl⟩
  obtain ⟨b1, hb1⟩ : ∃ b1, b0 + 1 = b1 := ⟨_, rfl⟩
  obtain ⟨b2, hb2⟩ : ∃ b2, b1 + 1 = b2 := ⟨_, rfl⟩
  rw [hb0] at KA KB KC
  rw [hb1] at KB KC
  rw [hb2] at KC
  have H0 := Lib.hid hb0
  have H1 := Lib.hid hb1
  have H2 := Lib.hid hb2
  clear hW1 hb0 hb1 hb2 x0 sw wok hwd hdm PA
  unfold brkV at PAB PBC PAC ⊢
  dsimp only at *
  generalize wl.length = n at *
  go_enter Try.func5, Try.ntmps5
  go_upto_region 1 with (fail)
  rw [← HW1.out, H0.out, H1.out, H2.out]
  clear HW1 H0 H1 H2
  go_wp2_with fail
  refine AW.out.mono ?_
  rintro e w1 ⟨rfl, x1⟩
  have X1 := Lib.hid x1
  clear x1 AW
  go_wp2_with fail
  refine (FEW.out w1 X1.out).mono ?_
  rintro e w2 ⟨rfl, x2⟩
  have X2 := Lib.hid (X1.out.trans x2)
  clear x2 X1 FEW
  have q0 : w2.cell? ⟨b1, 0, none⟩ = some (.int .i64 c1) := (KB.out.ext X2.out).cell 0
  cases f1 with
  | false =>
    clear SM1 SM2 SM3 PAB PBC PAC JN
    go_wp2_with fail
    go_ret
    exact ⟨rfl, X0.out.trans X2.out⟩
  | true =>
  have S1 := Lib.hid (SM1.out rfl)
  have S2 := Lib.hid (SM2.out rfl)
  have S3 := Lib.hid (SM3.out rfl)
  clear SM1 SM2 SM3
  by_cases hc : ¬ (c1 = 1)
  · have hc1 : (c1 != 1) = true := by simpa using hc
    clear S1 S2 S3 PAB PBC PAC JN
    go_wp2_with fail
    go_ret
    exact ⟨rfl, X0.out.trans X2.out⟩
  obtain rfl := Classical.not_not.1 hc
  clear hc
  have JM := Lib.hid (JN.out rfl)
  clear JN
  have a00 : w2.cell? ⟨b0, 0, none⟩ = some (.int .i64 a1) := (KA.out.ext X2.out).cell 0
  have a01 : w2.cell? ⟨b0, 1, none⟩ = some (.int .i64 a2) := (KA.out.ext X2.out).cell 1
  have a02 : w2.cell? ⟨b0, 2, none⟩ = some (.int .i64 a3) := (KA.out.ext X2.out).cell 2
  have c10 : w2.cell? ⟨b1, 0, none⟩ = some (.int .i64 1) := (KB.out.ext X2.out).cell 0
  have c11 : w2.cell? ⟨b1, 1, none⟩ = some (.int .i64 c2) := (KB.out.ext X2.out).cell 1
  have c12 : w2.cell? ⟨b1, 2, none⟩ = some (.int .i64 c3) := (KB.out.ext X2.out).cell 2
  have d20 : w2.cell? ⟨b2, 0, none⟩ = some (.int .i64 d1) := (KC.out.ext X2.out).cell 0
  have d21 : w2.cell? ⟨b2, 1, none⟩ = some (.int .i64 d2) := (KC.out.ext X2.out).cell 1
  have d22 : w2.cell? ⟨b2, 2, none⟩ = some (.int .i64 d3) := (KC.out.ext X2.out).cell 2
  clear q0
  go_wp2_with fail
  refine (PAB.out w2 X2.out).mono ?_
  rintro e w3 ⟨x3, A1, l1, k1, rfl, m1, n1⟩
  have X3 := Lib.hid (X2.out.trans x3)
  have M1 := Lib.hid m1
  have N1 := Lib.hid n1
  have a00 := x3.at a00
  have a01 := x3.at a01
  have a02 := x3.at a02
  have c10 := x3.at c10
  have c11 := x3.at c11
  have c12 := x3.at c12
  have d20 := x3.at d20
  have d21 := x3.at d21
  have d22 := x3.at d22
  dsimp only at N1 ⊢
  clear x3 m1 n1 PAB X2
  go_wp2_with fail
  refine (PBC.out w3 X3.out).mono ?_
  rintro e w4 ⟨x4, A2, l2, k2, rfl, m2, n2⟩
  have X4 := Lib.hid (X3.out.trans x4)
  have M2 := Lib.hid m2
  have N2 := Lib.hid n2
  have a00 := x4.at a00
  have a01 := x4.at a01
  have a02 := x4.at a02
  have c10 := x4.at c10
  have c11 := x4.at c11
  have c12 := x4.at c12
  have d20 := x4.at d20
  have d21 := x4.at d21
  have d22 := x4.at d22
  have M1 := Lib.hid (M1.out.ext x4)
  dsimp only at N2 ⊢
  clear x4 m2 n2 PBC X3
  go_wp2_with fail
  refine (PAC.out w4 X4.out).mono ?_
  rintro e w5 ⟨x5, A3, l3, k3, rfl, m3, n3⟩
  have X5 := Lib.hid (X4.out.trans x5)
  have M3 := Lib.hid m3
  have N3 := Lib.hid n3
  have a00 := x5.at a00
  have a01 := x5.at a01
  have a02 := x5.at a02
  have c10 := x5.at c10
  have c11 := x5.at c11
  have c12 := x5.at c12
  have d20 := x5.at d20
  have d21 := x5.at d21
  have d22 := x5.at d22
  have M1 := Lib.hid (M1.out.ext x5)
  have M2 := Lib.hid (M2.out.ext x5)
  dsimp only at N3 ⊢
  clear x5 m3 n3 PAC X4
  have L1 := Lib.hid (nsL_len N1.out)
  have L2 := Lib.hid (nsL_len N2.out)
  by_cases h1 : ¬ (e1 = 0)
  · have h1n : (e1 != 0) = true := by simpa using h1
    clear S1 S2 S3 JM L1 L2 M1 M2 M3 N1 N2 N3
    go_wp2_with fail
    go_ret
    exact ⟨rfl, X0.out.trans X5.out⟩
  obtain rfl := Classical.not_not.1 h1
  clear h1
  by_cases h2 : ¬ (e2 = 0)
  · have h2n : (e2 != 0) = true := by simpa using h2
    clear S1 S2 S3 JM L1 L2 M1 M2 M3 N1 N2 N3
    go_wp2_with fail
    go_ret
    exact ⟨rfl, X0.out.trans X5.out⟩
  obtain rfl := Classical.not_not.1 h2
  clear h2
  obtain ⟨hr, he⟩ := JM.out rfl rfl
  subst he
  have HR := Lib.hid hr
  have B1 := Lib.hid (S1.out.1)
  have B2 := Lib.hid (S2.out.1)
  have B3 := Lib.hid (S3.out)
  have E1 := Lib.hid (OwnR.empty (Ext.refl w5))
  have z5 : Ext w5 (w5.alloc (.cells #[] 36)) := (Ext.refl w5).alloc _
  obtain ⟨v6, w6, y6, o6⟩ := E1.out.puts A1 l1 r1.length k1 (M1.out.1.ext z5) (fun x hx => (M1.out.2.1 x hx).ext z5) (L1.out.symm) (by have := L1.out; have := B1.out; simp; omega) 27
  have z6 := o6.2.1
  obtain ⟨v7, w7, y7, o7⟩ := o6.puts A2 l2 r2.length k2 (M2.out.1.ext z6) (fun x hx => (M2.out.2.1 x hx).ext z6) (L2.out.symm) (by have := L1.out; have := L2.out; have := B1.out; have := B2.out; simp; omega) 27
  obtain ⟨A7, k7, rfl, s7⟩ := o7.read
  have x7 := o7.2.1
  have NS := Lib.hid (show nsL ([] ++ l1 ++ l2) = r3 by rw [HR.out, ← N1.out, ← N2.out]; simp [nsL])
  have SAME := Lib.hid (same_yes (c := k3) (d := k7) (M3.out.1.ext x7) s7.1 N3.out NS.out rfl (nsL_len NS.out) (by have := B3.out.1; omega) (fun x hx => by have := B3.out.2 x hx; omega))
  have X7 := Lib.hid (X5.out.trans x7)
  clear hr S1 S2 S3 JM L1 L2 M1 M2 M3 N1 N2 N3 HR B1 B2 B3 E1 z5 o6 z6 o7 s7 x7 NS X5 KA KB KC
  clear a00 a01 a02 c10 c11 c12 d20 d21 d22
  generalize r1.length = m1 at *
  generalize r2.length = m2 at *
  generalize r3.length = m3 at *
  generalize ([] ++ l1 ++ l2).length = m7 at *
  go_wp2_with (first | (at_builtin; refine wpList_ran rfl _ _ rfl y6 ?_) | (at_builtin; refine wpList_ran rfl _ _ rfl y7 ?_) | fail)
  refine SAME.out.mono ?_
  rintro e w8 ⟨rfl, x8⟩
  go_wp2_with fail
  go_ret
  exact ⟨rfl, X0.out.trans (X7.out.trans x8)⟩
end PieceJoins
end Go.Proofs.Ytmmgmcfhlhghoaa

