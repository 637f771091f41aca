/- The landed Breaks, and Penalty; all that the landed calls answer. Written by gen16/prs.py. -/
import Derived.Test.YtmmgmcfhlhghoaaGreatDoorPrsB16
import Derived.Test.YtmmgmcfhlhghoaaGreatDoorTextA13
import Derived.ScopeJumps
import Derived.WalkMore
namespace Go.Proofs.YtmmgmcfhlhghoaaGreatDoor
open Go.RowKit
namespace L16
open L10 (TN tn)
open L11 (TrieAt)
open L12 (St)
open L13 (TW tw checkB)
open L14 (LayD LayOk layC mayL Wide wpList_getW)

attribute [local go_sem] Oper.semAt_some

set_option maxRecDepth 100000 in
set_option maxHeartbeats 8000000 in
theorem breaks_all (V w : World) (B : Nat) (p : List TN) (st : St V w B p) (A : Option Addr) (l : List WP) (n c : Nat) (hn : n = l.length) (hn6 : n ≤ 1000000) (hex : ∀ x ∈ l, x.Ok ∧ x.ns.length ≤ 900000) (L : LayD) (SA : Option Addr) (sc : Nat) (lok : LayOk L sc)
    (WA : Option Addr) (wl : List CW) (m d : Nat) (hm : m = wl.length) (hmd : m ≤ d) (hd : d ≤ maxLen) (wok : ∀ x ∈ wl, x.Ok) (args : ∀ w', But (Only B) w w' → Args w' A l L SA WA wl) (parted : Bool) :
    Calls Tryz.prog 8 #[.pointer (some ⟨B, 0, none⟩), .slice A n c, .agg (layC L SA sc).toArray, .slice WA m d, .bool parted] w (PrQ V w B p (brksA p (l.map tn) L (wl.map tw) parted)) := by
  obtain ⟨W1, hW1⟩ : ∃ W1, W1 = ((w.alloc (.cells (layC L SA sc).toArray 40)).alloc (.cells #[.slice none 0 0] 35)).alloc (.cells #[.int .i64 0] 32) := ⟨_, rfl⟩
  have x1 : Ext w W1 := by rw [hW1]; exact (((Ext.refl w).alloc _).alloc _).alloc _
  have KL := Lib.hid (show Blk W1 w.heap.size 40 (layC L SA sc) by rw [hW1]; exact ((Blk.lit _ _ _ _ rfl).ext ((Ext.refl _).alloc _)).ext ((Ext.refl _).alloc _))
  have KR := Lib.hid (show Blk W1 (w.heap.size + 1) 35 [.slice none 0 0] by rw [hW1]; exact (Blk.lit _ _ _ _ (by simp)).ext ((Ext.refl _).alloc _))
  have KE := Lib.hid (show Blk W1 (w.heap.size + 1 + 1) 32 [.int .i64 0] by rw [hW1]; exact Blk.lit _ _ _ _ (by simp))
  have SZ := Lib.hid (show W1.heap.size = w.heap.size + 1 + 1 + 1 by rw [hW1]; simp)
  have X := Lib.hid x1
  have HB := Lib.hid (show B < w.heap.size from st.lt)
  have ST := Lib.hid st
  have AR := Lib.hid args
  have CT := Lib.hid (fun (W : World) (x : Ext w W) => L13.check_any WA wl m d W (args W (But.of_ext x)).words hm wok)
  have CL := Lib.hid (fun (W : World) (x : Ext w W) => show Calls Tryz.prog 16 #[.agg (layC L SA sc).toArray] W (Ret W (.bool (mayL L))) from L14.check_any L SA sc W lok (args W (But.of_ext x)).lay (args W (But.of_ext x)).home)
  have CS := Lib.hid (brks_cases p (l.map tn) L (wl.map tw) parted)
  have HW1 := Lib.hid hW1
  have CST := Lib.hid (show n = l.length ∧ n ≤ 1000000 ∧ (∀ x ∈ l, x.Ok ∧ x.ns.length ≤ 900000) ∧ m = wl.length ∧ m ≤ d ∧ d ≤ maxLen ∧ (∀ x ∈ wl, x.Ok) from ⟨hn, hn6, hex, hm, hmd, hd, wok⟩)
  -- how it ends with an error
  have BAD := Lib.hid (fun (z : Int) (W : World) (x : Ext w W) (h : brksA p (l.map tn) L (wl.map tw) parted = ([], z)) =>
    show PrQ V w B p (brksA p (l.map tn) L (wl.map tw) parted) (.returned (.tuple #[.slice none 0 0, .int .i64 z])) W from
      ⟨st.ext x, But.of_ext x, none, 0, by rw [h]; rfl, by rw [h]; exact ⟨SeenK.nil, fun ad e => by cases e⟩⟩)
  generalize brksA p (l.map tn) L (wl.map tw) parted = R at *
  clear x1 hW1 hn hn6 hex hm hmd hd wok args st lok
  refine (callsIn_wide (n := 9)).1 (callsIn_of_wp_marks Tryz.func8 rfl trivial ?_ rfl)
  refine wpIn_wide.2 ?_
  simp only [Tryz.ntmps8, List.size_toArray, List.length_cons, List.length_nil, Nat.reduceAdd, Nat.reduceSub, Array.replicate_succ, Array.replicate_zero, List.push_toArray, List.append_toArray, List.nil_append, List.cons_append]
  go_wp2_with fail
  rw [← HW1.out]
  clear HW1
  generalize hb2 : w.heap.size + 1 + 1 = bE at *
  generalize hb1 : w.heap.size + 1 = bR at *
  generalize hb0 : w.heap.size = bL at *
  have HB0 := Lib.hid hb0
  have HB1 := Lib.hid hb1
  have HB2 := Lib.hid hb2
  have SZ := Lib.hid (show W1.heap.size = bE + 1 by rw [SZ.out, ← HB2.out])
  have hRE : bE ≠ bR := by have := HB2.out; omega
  clear hb0 hb1 hb2
  refine (CT.out W1 X.out).mono ?_
  rintro e w2 ⟨rfl, x2⟩
  have KL := Lib.hid (KL.out.ext x2)
  have KR := Lib.hid (KR.out.ext x2)
  have KE := Lib.hid (KE.out.ext x2)
  have X := Lib.hid (X.out.trans x2)
  have LW := Lib.hid (show bE < w2.heap.size from KE.out.lt)
  clear x2 CT SZ
  -- how it ends with an error, here
  have ERR := Lib.hid (fun (z : Int) (W : World) (x : Ext w W) (kr : Blk W bR 35 [.slice none 0 0]) (ke : Blk W bE 32 [.int .i64 0]) (h : R = ([], z)) =>
    show ((W.setCell ⟨bR, 0, none⟩ (.slice none 0 0)).setCell ⟨bE, 0, none⟩ (.int .i64 z)).cell? ⟨bR, 0, none⟩ = some (.slice none 0 0) ∧ ((W.setCell ⟨bR, 0, none⟩ (.slice none 0 0)).setCell ⟨bE, 0, none⟩ (.int .i64 z)).cell? ⟨bE, 0, none⟩ = some (.int .i64 z) ∧
      PrQ V w B p R (.returned (.tuple #[.slice none 0 0, .int .i64 z])) ((W.setCell ⟨bR, 0, none⟩ (.slice none 0 0)).setCell ⟨bE, 0, none⟩ (.int .i64 z)) from
      ⟨((kr.set 0 (.slice none 0 0)).far (p := ⟨bE, 0, none⟩) (by show bE ≠ bR; omega) _).cell 0, ((ke.far (p := ⟨bR, 0, none⟩) (by show bR ≠ bE; omega) (.slice none 0 0)).set 0 (.int .i64 z)).cell 0,
        BAD.out z _ ((x.setCell (p := ⟨bR, 0, none⟩) (by have := HB0.out; have := HB1.out; show _ ≤ bR; omega) _).setCell (p := ⟨bE, 0, none⟩) (by have := HB0.out; have := HB1.out; have := HB2.out; show _ ≤ bE; omega) _) h⟩)
  have q0 : w2.cell? ⟨bR, 0, none⟩ = some (.slice none 0 0) := KR.out.cell 0
  have q1 : w2.cell? ⟨bE, 0, none⟩ = some (.int .i64 0) := KE.out.cell 0
  have f0 := KR.out.free 0
  have f1 := KE.out.free 0
  cases hc : checkB (wl.map tw) with
  | false =>
    have F := Lib.hid (ERR.out 130 w2 X.out KR.out KE.out (by
      rcases CS.out with h | h | h | h
      · exact h.2
      · rw [hc] at h; cases h.1
      · rw [hc] at h; cases h.1
      · rw [hc] at h; cases h.1))
    clear CS BAD ERR CL AR CST ST KL KR KE
    go_wp2_with fail
    obtain ⟨g2, g3, g4⟩ := F.out
    exact ⟨_, results_ones rfl _ _ bR bE (.slice none 0 0) (.int .i64 130) rfl rfl g2 g3 (Tryz.isAgg35 _) (Tryz.isAgg32 _), g4⟩
  | true =>
  go_wp2_with (first | (refine wpList_getW (by kernel_rfl) _ rfl bL rfl KL.out ?_) | fail)
  refine (CL.out w2 X.out).mono ?_
  rintro e w3 ⟨rfl, x3⟩
  have KL := Lib.hid (KL.out.ext x3)
  have KR := Lib.hid (KR.out.ext x3)
  have KE := Lib.hid (KE.out.ext x3)
  have X := Lib.hid (X.out.trans x3)
  have LW := Lib.hid (show bE < w3.heap.size from KE.out.lt)
  clear x3 CL q0 q1 f0 f1
  have q0 : w3.cell? ⟨bR, 0, none⟩ = some (.slice none 0 0) := KR.out.cell 0
  have q1 : w3.cell? ⟨bE, 0, none⟩ = some (.int .i64 0) := KE.out.cell 0
  have f0 := KR.out.free 0
  have f1 := KE.out.free 0
  cases hml : mayL L with
  | false =>
    have F := Lib.hid (ERR.out 140 w3 X.out KR.out KE.out (by
      rcases CS.out with h | h | h | h
      · rw [hc] at h; cases h.1
      · exact h.2.2
      · rw [hml] at h; cases h.2.1
      · rw [hml] at h; cases h.2.1))
    clear CS BAD ERR AR CST ST KL KR KE
    go_wp2_with fail
    obtain ⟨g2, g3, g4⟩ := F.out
    exact ⟨_, results_ones rfl _ _ bR bE (.slice none 0 0) (.int .i64 140) rfl rfl g2 g3 (Tryz.isAgg35 _) (Tryz.isAgg32 _), g4⟩
  | true =>
  have CS := Lib.hid (show (200 < (allL p (l.map tn) (L.v 7) (L.v 8) parted (wl.map tw)).length ∧ R = ([], 160)) ∨ ((allL p (l.map tn) (L.v 7) (L.v 8) parted (wl.map tw)).length ≤ 200 ∧ R = (allL p (l.map tn) (L.v 7) (L.v 8) parted (wl.map tw), 0)) by
    rcases CS.out with h | h | h | h
    · rw [hc] at h; cases h.1
    · rw [hml] at h; cases h.2.1
    · exact .inl h.2.2
    · exact .inr h.2.2)
  have HC := Lib.hid hc
  have HM := Lib.hid hml
  clear hc hml ERR BAD q0 q1 f0 f1
  obtain ⟨W4, hW4⟩ : ∃ W4, W4 = w3.alloc (.cells #[.slice WA m d, .nilFunc] 81) := ⟨_, rfl⟩
  have x4 : Ext w3 W4 := by rw [hW4]; exact (Ext.refl _).alloc _
  have KP := Lib.hid (show Blk W4 w3.heap.size 81 [.slice WA m d, .nilFunc] by rw [hW4]; exact Blk.lit _ _ _ _ rfl)
  have KL := Lib.hid (KL.out.ext x4)
  have KR := Lib.hid (KR.out.ext x4)
  have KE := Lib.hid (KE.out.ext x4)
  have X := Lib.hid (X.out.trans x4)
  have SZ4 := Lib.hid (show W4.heap.size = w3.heap.size + 1 by rw [hW4]; simp)
  have HW4 := Lib.hid hW4
  clear hW4 x4
  go_upto_region 8 with (fail)
  rw [← HW4.out]
  clear HW4
  generalize hbp : w3.heap.size = bp at *
  clear hbp
  go_upto_if 28 with fail
  go_cut [] from 29 to 33 (fun wx => ∃ bt bb bl : Nat, Hid (Ext w wx) ∧ Hid (Blk wx bR 35 [.slice none 0 0]) ∧ Hid (Blk wx bE 32 [.int .i64 0]) ∧
    Hid (Blk wx bp 81 (Job.cells ⟨V, w, B, p, A, l, n, c, L, SA, sc, WA, wl, m, d, bt, bb, bl, parted⟩)) ∧ Hid (bt ≠ B ∧ bb ≠ B ∧ bl ≠ B) ∧
    Hid (parted = true → (Blk wx bt 31 [.pointer (some ⟨B, 0, none⟩)] ∧ Blk wx bb 23 [.slice A n c] ∧ Blk wx bl 40 (layC L SA sc)) ∧ bE < bt ∧ bE < bb ∧ bE < bl))
  case first =>
    cases parted with
    | false =>
      have FI := Lib.hid (show Blk W4 bp 81 (Job.cells ⟨V, w, B, p, A, l, n, c, L, SA, sc, WA, wl, m, d, B + 1, B + 1, B + 1, false⟩) from KP.out)
      go_wp2_with fail
      go_meet
      case rel => exact ⟨B + 1, B + 1, B + 1, X, KR, KE, FI, Lib.hid ⟨by omega, by omega, by omega⟩, Lib.hid (fun h => by cases h)⟩
    | true =>
      have LBP := Lib.hid (show bp < W4.heap.size from KP.out.lt)
      go_wp2_with (first | (refine wpList_getW (by kernel_rfl) _ rfl bL rfl KL.out ?_) | fail)
      refine (fn_any B A n c L SA sc W4).mono ?_
      rintro e w5 ⟨rfl, x5, k5, k6, k7, sz5⟩
      have KP5 := Lib.hid (KP.out.ext x5)
      have KR5 := Lib.hid (KR.out.ext x5)
      have KE5 := Lib.hid (KE.out.ext x5)
      have LE := Lib.hid (show bE < W4.heap.size from KE.out.lt)
      have LR := Lib.hid (show B < W4.heap.size from ST.out.lt |> fun h => Nat.lt_of_lt_of_le h X.out.size)
      have X5 := Lib.hid (X.out.trans x5)
      have c1 : w5.cell? ⟨bp, 1, none⟩ = some .nilFunc := KP5.out.cell 1
      have f1 := KP5.out.free 1
      have hbpw : w.heap.size ≤ bp := by have := HB0.out; have := HB1.out; have := HB2.out; have := LW.out; have := SZ4.out; omega
      have hbR : bp ≠ bR := by have := HB2.out; have := LW.out; have := SZ4.out; omega
      have hbE : bp ≠ bE := by have := LW.out; have := SZ4.out; omega
      generalize hz : W4.heap.size = z at *
      have FIN := Lib.hid (fun (v : Value) (hv : v = .func (.func 29) #[] #[.pointer (some ⟨z, 0, none⟩), .pointer (some ⟨z + 1, 0, none⟩), .pointer (some ⟨z + 1 + 1, 0, none⟩)]) =>
        show Hid (Ext w (w5.setCell ⟨bp, 1, none⟩ v)) ∧ Hid (Blk (w5.setCell ⟨bp, 1, none⟩ v) bR 35 [.slice none 0 0]) ∧ Hid (Blk (w5.setCell ⟨bp, 1, none⟩ v) bE 32 [.int .i64 0]) ∧
          Hid (Blk (w5.setCell ⟨bp, 1, none⟩ v) bp 81 (Job.cells ⟨V, w, B, p, A, l, n, c, L, SA, sc, WA, wl, m, d, z, z + 1, z + 1 + 1, true⟩)) ∧ Hid (z ≠ B ∧ z + 1 ≠ B ∧ z + 1 + 1 ≠ B) ∧
          Hid (true = true → (Blk (w5.setCell ⟨bp, 1, none⟩ v) z 31 [.pointer (some ⟨B, 0, none⟩)] ∧ Blk (w5.setCell ⟨bp, 1, none⟩ v) (z + 1) 23 [.slice A n c] ∧ Blk (w5.setCell ⟨bp, 1, none⟩ v) (z + 1 + 1) 40 (layC L SA sc)) ∧ bE < z ∧ bE < z + 1 ∧ bE < z + 1 + 1) from by
        have h1 := LBP.out
        have h2 := LE.out
        have h3 := LR.out
        refine ⟨X5.out.setCell (p := ⟨bp, 1, none⟩) hbpw _, KR5.out.far (p := ⟨bp, 1, none⟩) hbR _, KE5.out.far (p := ⟨bp, 1, none⟩) hbE _, ?_, ⟨by omega, by omega, by omega⟩,
          fun _ => ⟨⟨k5.far (p := ⟨bp, 1, none⟩) (by show bp ≠ z; omega) _, k6.far (p := ⟨bp, 1, none⟩) (by show bp ≠ z + 1; omega) _, k7.far (p := ⟨bp, 1, none⟩) (by show bp ≠ z + 1 + 1; omega) _⟩, by omega, by omega, by omega⟩⟩
        subst hv
        exact KP5.out.set 1 _)
      clear k5 k6 k7 sz5 x5 hz
      go_wp2_with fail
      go_meet
      case rel => exact ⟨z, z + 1, z + 1 + 1, FIN.out _ rfl⟩
  case rest =>
  obtain ⟨bt, bb, bl, X, KR, KE, KP, NE, FNB⟩ := hcut
  obtain ⟨F, T⟩ := ST.out.t
  have HF := Lib.hid T.low
  have OK : Job.Ok ⟨V, w, B, p, A, l, n, c, L, SA, sc, WA, wl, m, d, bt, bb, bl, parted⟩ :=
    ⟨CST.out.1, CST.out.2.1, CST.out.2.2.1, CST.out.2.2.2.1, CST.out.2.2.2.2.1, CST.out.2.2.2.2.2.1, CST.out.2.2.2.2.2.2, AR.out, HM.out, ST.out.x.size, HC.out, NE.out.1, NE.out.2.1, NE.out.2.2⟩
  have AT : Job.At ⟨V, w, B, p, A, l, n, c, L, SA, sc, WA, wl, m, d, bt, bb, bl, parted⟩ F wc := ⟨T.ext X.out, ST.out.x.trans X.out, ST.out.b, But.of_ext X.out, fun h => (FNB.out h).1⟩
  have FN2 : parted = true → bE < bt ∧ bE < bb ∧ bE < bl := fun h => (FNB.out h).2
  have FLT : parted = true → bt < wc.heap.size ∧ bb < wc.heap.size ∧ bl < wc.heap.size := fun h => ⟨(FNB.out h).1.1.lt, (FNB.out h).1.2.1.lt, (FNB.out h).1.2.2.lt⟩
  have PL := Lib.hid (fun (bV D : Nat) (h1 : wc.heap.size ≤ bV) (h2 : bV < D) => show Plc ⟨V, w, B, p, A, l, n, c, L, SA, sc, WA, wl, m, d, bt, bb, bl, parted⟩ D bR bE bV D from
    ⟨ST.out.lt, by have := HB0.out; have := HB1.out; show w.heap.size ≤ bR; omega, by have := HB2.out; omega, by have := KE.out.lt; omega, by have := X.out.size; show w.heap.size ≤ D; omega, h2, Nat.le_refl _, fun h => by have := FLT h; show bt < bV ∧ bb < bV ∧ bl < bV; omega, FN2⟩)
  have LJ := Lib.hid (show Job.to ⟨V, w, B, p, A, l, n, c, L, SA, sc, WA, wl, m, d, bt, bb, bl, parted⟩ wl.length = allL p (l.map tn) (L.v 7) (L.v 8) parted (wl.map tw) by unfold allL; rw [List.length_map]; rfl)
  have HV : (Job.val ⟨V, w, B, p, A, l, n, c, L, SA, sc, WA, wl, m, d, bt, bb, bl, parted⟩) = .agg #[.slice WA m d, Job.fn ⟨V, w, B, p, A, l, n, c, L, SA, sc, WA, wl, m, d, bt, bb, bl, parted⟩] := rfl
  have p0 : wc.cell? ⟨bp, 0, none⟩ = some (.slice WA m d) := KP.out.cell 0
  have p1 : wc.cell? ⟨bp, 1, none⟩ = some (Job.fn ⟨V, w, B, p, A, l, n, c, L, SA, sc, WA, wl, m, d, bt, bb, bl, parted⟩) := KP.out.cell 1
  have FINJ := Lib.hid (fun (G : Nat → Prop) (W : World) (a : Job.At ⟨V, w, B, p, A, l, n, c, L, SA, sc, WA, wl, m, d, bt, bb, bl, parted⟩ G W) => show St V W B p ∧ But (Only B) w W from ⟨a.st, a.but⟩)
  have HJB : Job.B ⟨V, w, B, p, A, l, n, c, L, SA, sc, WA, wl, m, d, bt, bb, bl, parted⟩ = B := rfl
  have HJW : Job.wl ⟨V, w, B, p, A, l, n, c, L, SA, sc, WA, wl, m, d, bt, bb, bl, parted⟩ = wl := rfl
  have HJ0 : Job.w0 ⟨V, w, B, p, A, l, n, c, L, SA, sc, WA, wl, m, d, bt, bb, bl, parted⟩ = w := rfl
  clear FNB NE CST AR HM HC FN2 FLT T
  generalize hJ : (⟨V, w, B, p, A, l, n, c, L, SA, sc, WA, wl, m, d, bt, bb, bl, parted⟩ : Job) = J at *
  clear hJ
  have LW := Lib.hid (show w.heap.size ≤ wc.heap.size from X.out.size)
  have LE := Lib.hid (show bE < wc.heap.size from KE.out.lt)
  have LB := Lib.hid (show B < w.heap.size from ST.out.lt)
  obtain ⟨W6, hW6⟩ : ∃ W6, W6 = wc.alloc (.cells #[.slice none 0 0] 35) := ⟨_, rfl⟩
  have x6 : Ext wc W6 := by rw [hW6]; exact (Ext.refl _).alloc _
  have KV := Lib.hid (show Blk W6 wc.heap.size 35 [.slice none 0 0] by rw [hW6]; exact Blk.lit _ _ _ _ rfl)
  have SZ6 := Lib.hid (show W6.heap.size = wc.heap.size + 1 by rw [hW6]; simp)
  have KR := Lib.hid (KR.out.ext x6)
  have KE := Lib.hid (KE.out.ext x6)
  have AT6 := Lib.hid (AT.ext x6)
  have p0 := x6.at p0
  have p1 := x6.at p1
  have BA := breaks_any J W6
  rw [HV] at BA
  have BA := Lib.hid BA
  have HO := Lib.hid OK
  have HJB := Lib.hid HJB
  have HJW := Lib.hid HJW
  have HJ0 := Lib.hid HJ0
  have HW6 := Lib.hid hW6
  generalize J.fn = fnv at *
  clear hW6 x6 AT OK HV
  go_upto_region 11 with (fail)
  rw [← HW6.out]
  clear HW6
  generalize hbV : wc.heap.size = bV at *
  clear hbV
  go_wp2_with fail
  refine BA.out.mono ?_
  rintro e w7 ⟨rfl, x7, kt, sz7⟩
  have KV := Lib.hid (KV.out.ext x7)
  have KR := Lib.hid (KR.out.ext x7)
  have KE := Lib.hid (KE.out.ext x7)
  have AT7 := Lib.hid (AT6.out.ext x7)
  have KT := Lib.hid kt
  have SZ7 := Lib.hid (show w7.heap.size = bV + 1 + 1 by rw [sz7, SZ6.out])
  have HTB := Lib.hid SZ6.out
  clear x7 kt sz7 p0 p1 BA AT6
  generalize htb : W6.heap.size = tb at *
  clear htb
  go_wp2_with fail
  have P := PL.out bV w7.heap.size (Nat.le_refl _) (by rw [SZ7.out]; omega)
  have hBV : ¬ bV = J.B := by have := HJB.out; have := LB.out; have := LW.out; omega
  have hDB : ¬ w7.heap.size = J.B ∧ ¬ w7.heap.size + 1 = J.B := by have := SZ7.out; have := HTB.out; have := HJB.out; have := LB.out; have := LW.out; omega
  have HP := Lib.hid P
  refine wpIn_wide.1 (range_ask (n := 9) (F := Fence.wide) rfl (by omega) (gf := 31) (lb := #[.pointer (some ⟨tb, 0, none⟩)]) rfl trivial (enters_of Tryz.func31 (by kernel_rfl) rfl)
    (encs := encB) (fun _ => rfl) (V := fun _ _ => True) (Kp := KpB w7.heap.size bR bE bV) (S := fun xs => xs = J.to J.wl.length) (Sp := fun pre => pre <+: J.to J.wl.length) (N := (J.to J.wl.length).length)
    (BI J w7.heap.size bR bE bV w7.heap.size) (BX J w7.heap.size bR bE)
    (fun x a' W' => ∃ bs : Nat, Blk W' bs 43 [.int .i64 x.1, .int .i64 x.2.1, .int .i64 x.2.2] ∧ a' = { tmps := #[.pointer (some ⟨B, 0, none⟩), .slice A n c, .agg (layC L SA sc).toArray, .slice WA m d, .bool parted, undef, undef, .pointer (some ⟨bL, 0, none⟩), undef, undef, .pointer (some ⟨bR, 0, none⟩), .pointer (some ⟨bE, 0, none⟩), .pointer (some ⟨bp, 0, none⟩), .pointer (some ⟨bV, 0, none⟩), .pointer (some ⟨bs, 0, none⟩), .bool false, .pointer (some ⟨B, 0, none⟩), .bool false, .bool false, .slice WA m d, .bool true, .bool false, .bool false, .agg (layC L SA sc).toArray, .bool true, .bool false, .slice WA m d, .agg #[.slice WA m d, .nilFunc], .bool parted, u29, u30, u31, u32, u33, .agg #[.slice WA m d, fnv], .func (.func 31) #[] #[.pointer (some ⟨tb, 0, none⟩)], brkV x, undef, undef, undef, undef, undef, undef, undef, undef], defers := [] })
    (BI.own HO.out P) (fun cd => BX.own HO.out P cd)
    (fun x a' u X Y row h hg hr => by
      obtain ⟨bs, h1, h2⟩ := h
      exact ⟨bs, L14.blk_row h1 hg (fun r e => (hr r e).2), h2⟩)
    (fun h k => KpB.trans h k) ?kb
    (Stp := J.Stp (ownK w7.heap.size bR bE bV)) (fun pre W W' h s => h.stp P s)
    (fun r W W' h s => ⟨(s.1.block _ h.lt hDB.2).trans h.loop, (s.1.block _ (by have := h.lt; omega) hDB.1).trans h.calls⟩) ?start ?call ?assign ?body ?done ?stop)
  case kb =>
    exact fun W r r' _ => kp_loop (by have := SZ7.out; omega) W (.loop r')
  case start =>
    intro W x hz
    have v0 : W.cell? ⟨bV, 0, none⟩ = some (.slice none 0 0) := (KV.out.ext x).cell 0
    refine ⟨⟨F, AT7.out.ext x, fun k hk => ?_⟩, KR.out.ext x, KE.out.ext x, ⟨_, KV.out.ext x, World.ownsRow_nil _ _ _ _⟩, by simp⟩
    have h1 := HP.out.fR; have h2 := HP.out.fE; have h3 := HP.out.fV; have h4 := HP.out.fD; have h5 := HJ0.out
    rw [h5] at h1
    have hk2 : w.heap.size ≤ k ∧ k < W.heap.size := by
      rcases hk with h | h | h | h | h | ⟨v, hv, e⟩
      · omega
      · omega
      · omega
      · omega
      · omega
      · rw [v0] at hv
        cases hv
        simp [Value.ownBlock] at e
    exact ⟨fun f => by have := HF.out k f; omega, hk2.2⟩
  case call =>
    intro W' J' Jx' x' hz' hJI hJS hY' h0'
    obtain ⟨v, hv, ho⟩ := (hJI _ _ h0').list
    have kt := KT.out.ext x'
    have h2 := HP.out.fE; have h3 := HP.out.fV
    have no : ¬ ownK w7.heap.size bR bE bV W' tb := by
      rintro (h | h | h | h | h | ⟨v2, hv2, e⟩)
      · have := SZ7.out; have := HTB.out; omega
      · have := SZ7.out; have := HTB.out; omega
      · have := HTB.out; omega
      · have := HTB.out; omega
      · have := HTB.out; omega
      · rw [hv.cell 0] at hv2
        cases hv2
        exact row_far ho kt (by decide) e
    exact breaks_in 8 (w7.heap.size + 1) tb (w7.heap.size + 2) (by omega) J HO.out (ownK w7.heap.size bR bE bV) (KpB w7.heap.size bR bE bV) W' J' Jx'
      (fun pre W1 h => (hJI _ _ h).free) hJS (fun pre W1 W2 h b k hk => by
        obtain ⟨v1, hv1, _⟩ := (hJI _ _ h).list
        exact own_same hv1 b hBV hk) (fun W1 W2 b cs t f k hb hc => k.block b cs t f hb hc) (fun W1 W2 k => k.size) (fun W1 W2 k h hk => h.own k hk)
      (by have := HTB.out; have := HJB.out; have := LB.out; have := LW.out; omega) kt no (fun pre x W1 h1 h2 => hY' pre x W1 h1 trivial h2) h0'
  case assign =>
    rintro pre x W' K hi - hK
    have x9 : Ext W' (W'.alloc (.cells #[.int .i64 x.1, .int .i64 x.2.1, .int .i64 x.2.2] 43)) := (Ext.refl _).alloc _
    have GO := Lib.hid (fun a' h => hK a' _ (keeps16_ext x9) (hi.kp x9) (hi.ext HP.out x9) ⟨W'.heap.size, Blk.lit _ _ _ _ rfl, h⟩)
    clear hi hK x9
    simp only [encB, brkV]
    gi_wp2
    exact GO.out _ rfl
  case body =>
    rintro pre x a' W' hi ⟨bs, kS, rfl⟩ hlt
    obtain ⟨v, kL, ho⟩ := hi.list
    obtain ⟨Al, cl, hv, _⟩ := own_seen ho
    subst hv
    have HI := Lib.hid hi
    have HW := Lib.hid ho
    have q0 : W'.cell? ⟨bR, 0, none⟩ = some (.slice none 0 0) := hi.res.cell 0
    have q1 : W'.cell? ⟨bE, 0, none⟩ = some (.int .i64 0) := hi.err.cell 0
    have f0 := hi.res.free 0
    have f1 := hi.err.free 0
    have q2 : W'.cell? ⟨bV, 0, none⟩ = some (.slice Al pre.length cl) := kL.cell 0
    have hl2 := hi.len
    have KL2 := Lib.hid kL
    obtain ⟨x1, x2, x3⟩ := x
    have p0 : W'.cell? ⟨bs, 0, none⟩ = some (.int .i64 x1) := kS.cell 0
    have p1 : W'.cell? ⟨bs, 1, none⟩ = some (.int .i64 x2) := kS.cell 1
    have p2 : W'.cell? ⟨bs, 2, none⟩ = some (.int .i64 x3) := kS.cell 2
    clear hi ho kL kS
    by_cases h200 : pre.length = 200
    · have G := Lib.hid (show ownPostG w7.heap.size (KpB w7.heap.size bR bE bV) (BI J w7.heap.size bR bE bV w7.heap.size) (BX J w7.heap.size bR bE) (pre ++ [(x1, x2, x3)]) W' .ret { tmps := #[], defers := [] }
          ((W'.setCell ⟨bR, 0, none⟩ (.slice none 0 0)).setCell ⟨bE, 0, none⟩ (.int .i64 160)) from
        ⟨((KeepsOthers.setCell _ _ _).trans (KeepsOthers.setCell _ _ _)).from _, HI.out.stop HO.out HP.out h200 (x1, x2, x3)⟩)
      rw [h200] at q2
      clear HI HW KL2 hl2 hlt h200
      gi_wp2
      exact G.out
    · have g200 : ((pre.length : Int) == 200) = false := by simp; omega
      obtain ⟨A9, n9, c9, w9, hr, e2, e3, hi9, hk9, hf9⟩ := HI.out.put HO.out HP.out (by omega) (x1, x2, x3) KL2.out HW.out 35
      have G := Lib.hid (show ownPostG w7.heap.size (KpB w7.heap.size bR bE bV) (BI J w7.heap.size bR bE bV w7.heap.size) (BX J w7.heap.size bR bE) (pre ++ [(x1, x2, x3)]) W' .normal { tmps := #[], defers := [] }
          (w9.setCell ⟨bV, 0, none⟩ (.slice A9 n9 c9)) from ⟨hf9, hk9, hi9⟩)
      clear HI HW KL2 hi9 hk9 hf9 hlt h200 q0 q1 f0 f1
      dsimp only at hr
      generalize pre.length = zl at *
      have hzl : (zl : Int) ≤ 200 := by omega
      gi_wp2_with (gi_at_builtin; refine wpListIn_ran rfl _ _ rfl hr ?_)
      exact G.out
  case done =>
    rintro xs W' rfl hi hK
    obtain ⟨v, kL, ho⟩ := hi.list
    obtain ⟨Al, cl, hv, _⟩ := own_seen ho
    subst hv
    have HR := Lib.hid (show R = (J.to J.wl.length, 0) by
      have h1 := hi.len
      rcases CS.out with h | h
      · rw [HJW.out, LJ.out] at h1
        omega
      · rw [HJW.out, LJ.out]
        exact h.2)
    obtain ⟨g1, g2, g3, ⟨G, ga⟩, go⟩ := hi.fin HO.out HP.out ho hK
    have F9 := Lib.hid (show PrQ V w B p R (.returned (.tuple #[.slice Al (J.to J.wl.length).length cl, .int .i64 0])) _ from by
      obtain ⟨h1, h2⟩ := FINJ.out _ _ ga
      obtain ⟨A2, c2, e2, hs2⟩ := own_seen go
      cases e2
      refine ⟨h1, h2, Al, cl, by rw [HR.out], by rw [HR.out]; exact hs2, fun ad e => ?_⟩
      cases e
      have h3 := (go.lt ad.block rfl).1
      have := SZ7.out; have := LB.out; have := LW.out
      omega)
    have q0 : W'.cell? ⟨bR, 0, none⟩ = some (.slice none 0 0) := hi.res.cell 0
    have q1 : W'.cell? ⟨bE, 0, none⟩ = some (.int .i64 0) := hi.err.cell 0
    have f0 := hi.res.free 0
    have f1 := hi.err.free 0
    have q2 : W'.cell? ⟨bV, 0, none⟩ = some (.slice Al (J.to J.wl.length).length cl) := kL.cell 0
    have G1 := Lib.hid g1
    have G2 := Lib.hid g2
    have G3 := Lib.hid g3
    clear hi kL ho hK ga go g1 g2 g3 KV KR KE KT AT7 CS HP HO PL LJ FINJ
    generalize (J.to J.wl.length).length = zl at *
    go_wp2_with fail
    exact ⟨by simp, .inl ⟨_, _, rfl, run_takeDeferred G1.out, ⟨_, results_ones rfl _ _ bR bE (.slice Al zl cl) (.int .i64 0) rfl rfl G2.out G3.out (Tryz.isAgg35 _) (Tryz.isAgg32 _), F9.out⟩⟩⟩
  case stop =>
    rintro cd pre W' hSp hi hK
    obtain rfl := hi.ret
    have HR := Lib.hid (show R = ([], 160) by
      have h1 := hi.len
      have h2 := hSp.length_le
      rcases CS.out with h | h
      · exact h.2
      · rw [HJW.out, LJ.out] at h2
        omega)
    obtain ⟨g2, g3, G, ga⟩ := hi.fin HO.out HP.out
    have F9 := Lib.hid (show PrQ V w B p R (.returned (.tuple #[.slice none 0 0, .int .i64 160])) _ from by
      obtain ⟨h1, h2⟩ := FINJ.out _ _ ga
      exact ⟨h1, h2, none, 0, by rw [HR.out]; rfl, by rw [HR.out]; exact SeenK.nil, fun ad e => by cases e⟩)
    have G2 := Lib.hid g2
    have G3 := Lib.hid g3
    clear hi hSp ga g2 g3 KV KR KE KT AT7 CS HP HO PL LJ FINJ
    gi_wp2
    exact ⟨by simp, .inl ⟨_, _, rfl, run_takeDeferred hK, ⟨_, results_ones rfl _ _ bR bE (.slice none 0 0) (.int .i64 160) rfl rfl G2.out G3.out (Tryz.isAgg35 _) (Tryz.isAgg32 _), F9.out⟩⟩⟩
/-- What the landed calls answer. -/
theorem par : Par :=
  ⟨fun V w B p st A l n c hn hn6 hex L SA sc lok WA wl m d hm hmd hd wok args parted => breaks_all V w B p st A l n c hn hn6 hex L SA sc lok WA wl m d hm hmd hd wok args parted, fun a b w _ _ => before_any a b w⟩
end L16
end Go.Proofs.YtmmgmcfhlhghoaaGreatDoor

