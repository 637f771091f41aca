/- LigParts: expanding goes code by code, and codes that nothing makes stay (at most three hundred of each; fifty codes each): for every input. -/
import Derived.Test.YtmbkgjmnaembaaaAwake08
import Derived.Test.YtmbkgjmnaembaaaJoin08
namespace Go.Proofs.Ytmbkgjmnaembaaa
open Go.ChangeShapes Go.WideShapes Go.ChangeAt Go.RowKit Go.Deep
namespace LigParts
open L07 L08

set_option maxRecDepth 100000 in
set_option maxHeartbeats 16000000 in
theorem walk (D : FontD) (P : FontP) (ok : FontOk D P) (A : Option Addr) (l : List Int) (c : Nat) (_ : l.length ≤ c) (_ : c ≤ maxLen) (wf : ∀ n ∈ l, (Lit.int .i64 n).wf = true) (A' : Option Addr) (l' : List Int) (c' : Nat) (_ : l'.length ≤ c') (_ : c' ≤ maxLen) (wf' : ∀ n ∈ l', (Lit.int .i64 n).wf = true)
    (w : World) (sn : SeenFont w D P) (hs : Seen w.heap.size w A (l.map (.int .i64))) (hs' : Seen w.heap.size w A' (l'.map (.int .i64))) :
    Calls Try.prog 5 #[fontV D P, .slice A l.length c, .slice A' l'.length c'] w (Ret w (.bool true)) := by
  rename_i hc hm hc' hm'
  have HWl := Lib.hid (fun n hn => bounds_i64 (wf n hn))
  have HWl' := Lib.hid (fun n hn => bounds_i64 (wf' n hn))
  have hl63 : (l.length : Int) ≤ 9223372036854775807 := by unfold maxLen at hm; omega
  have hl63' : (l'.length : Int) ≤ 9223372036854775807 := by unfold maxLen at hm'; omega
  have W0 : Ext w (w.alloc (.cells #[.int .i64 D.sum, .int .i64 D.design, .int .i64 D.first, .slice P.xc D.nc P.zc, .slice P.xw D.nw P.zw, .slice P.xh D.nh P.zh, .slice P.xd D.nd P.zd, .slice P.xi D.ni P.zi, .slice P.xs D.ns P.zs, .slice P.xk D.nk P.zk, .slice P.xp D.np P.zp] 26)) := (Ext.refl _).alloc _
  have SN := Lib.hid (fun w' (x : Ext (w.alloc (.cells #[.int .i64 D.sum, .int .i64 D.design, .int .i64 D.first, .slice P.xc D.nc P.zc, .slice P.xw D.nw P.zw, .slice P.xh D.nh P.zh, .slice P.xd D.nd P.zd, .slice P.xi D.ni P.zi, .slice P.xs D.ns P.zs, .slice P.xk D.nk P.zk, .slice P.xp D.np P.zp] 26)) w') => (sn.ext W0).ext x)
  have OK := Lib.hid ok
  have kF : Blk (w.alloc (.cells #[.int .i64 D.sum, .int .i64 D.design, .int .i64 D.first, .slice P.xc D.nc P.zc, .slice P.xw D.nw P.zw, .slice P.xh D.nh P.zh, .slice P.xd D.nd P.zd, .slice P.xi D.ni P.zi, .slice P.xs D.ns P.zs, .slice P.xk D.nk P.zk, .slice P.xp D.np P.zp] 26)) w.heap.size 26 [.int .i64 D.sum, .int .i64 D.design, .int .i64 D.first, .slice P.xc D.nc P.zc, .slice P.xw D.nw P.zw, .slice P.xh D.nh P.zh, .slice P.xd D.nd P.zd, .slice P.xi D.ni P.zi, .slice P.xs D.ns P.zs, .slice P.xk D.nk P.zk, .slice P.xp D.np P.zp] := Blk.lit _ _ _ _ rfl
  have HL := Lib.hid (fun w' (x : Ext (w.alloc (.cells #[.int .i64 D.sum, .int .i64 D.design, .int .i64 D.first, .slice P.xc D.nc P.zc, .slice P.xw D.nw P.zw, .slice P.xh D.nh P.zh, .slice P.xd D.nd P.zd, .slice P.xi D.ni P.zi, .slice P.xs D.ns P.zs, .slice P.xk D.nk P.zk, .slice P.xp D.np P.zp] 26)) w') => hs.fn.ext (W0.trans x))
  have HL' := Lib.hid (fun w' (x : Ext (w.alloc (.cells #[.int .i64 D.sum, .int .i64 D.design, .int .i64 D.first, .slice P.xc D.nc P.zc, .slice P.xw D.nw P.zw, .slice P.xh D.nh P.zh, .slice P.xd D.nd P.zd, .slice P.xi D.ni P.zi, .slice P.xs D.ns P.zs, .slice P.xk D.nk P.zk, .slice P.xp D.np P.zp] 26)) w') => hs'.fn.ext (W0.trans x))
  clear ok sn hs hs' wf wf' hc hm hc' hm'
  obtain ⟨E, er, hE, hE1, hE2, hE3, hE4, hE5⟩ := expand_kit D
  have FEW := Lib.hid (fun w' => show Calls Try.prog 9 #[.agg #[.int .i64 D.sum, .int .i64 D.design, .int .i64 D.first, .slice P.xc D.nc P.zc, .slice P.xw D.nw P.zw, .slice P.xh D.nh P.zh, .slice P.xd D.nd P.zd, .slice P.xi D.ni P.zi, .slice P.xs D.ns P.zs, .slice P.xk D.nk P.zk, .slice P.xp D.np P.zp]] w' (Ret w' (.bool (fewB D))) from few_any D P w')
  have EX := Lib.hid (fun w' (x : Ext (w.alloc (.cells #[.int .i64 D.sum, .int .i64 D.design, .int .i64 D.first, .slice P.xc D.nc P.zc, .slice P.xw D.nw P.zw, .slice P.xh D.nh P.zh, .slice P.xd D.nd P.zd, .slice P.xi D.ni P.zi, .slice P.xs D.ns P.zs, .slice P.xk D.nk P.zk, .slice P.xp D.np P.zp] 26)) w') (A1 : Option Addr) (l1 : List Int) (c1 : Nat) (h1 : SeenF w' A1 l1.length (fun j => l1.getD j 0)) (hb : ∀ x ∈ l1, -9223372036854775808 ≤ x ∧ x ≤ 9223372036854775807) (hn : l1.length ≤ 1000000) => show Calls Try.prog 12 #[.agg #[.int .i64 D.sum, .int .i64 D.design, .int .i64 D.first, .slice P.xc D.nc P.zc, .slice P.xw D.nw P.zw, .slice P.xh D.nh P.zh, .slice P.xd D.nd P.zd, .slice P.xi D.ni P.zi, .slice P.xs D.ns P.zs, .slice P.xk D.nk P.zk, .slice P.xp D.np P.zp], .slice A1 l1.length c1] w' (IntsQ w' (E l1, er)) from hE l1 ▸ lexpand_any D P A1 l1 c1 w' OK.out (SN.out _ x) h1 (getD_wide hb) hn)
  have CK := Lib.hid (fun w' (x : Ext (w.alloc (.cells #[.int .i64 D.sum, .int .i64 D.design, .int .i64 D.first, .slice P.xc D.nc P.zc, .slice P.xw D.nw P.zw, .slice P.xh D.nh P.zh, .slice P.xd D.nd P.zd, .slice P.xi D.ni P.zi, .slice P.xs D.ns P.zs, .slice P.xk D.nk P.zk, .slice P.xp D.np P.zp] 26)) w') => show Calls Try.prog 16 #[.agg #[.int .i64 D.sum, .int .i64 D.design, .int .i64 D.first, .slice P.xc D.nc P.zc, .slice P.xw D.nw P.zw, .slice P.xh D.nh P.zh, .slice P.xd D.nd P.zd, .slice P.xi D.ni P.zi, .slice P.xs D.ns P.zs, .slice P.xk D.nk P.zk, .slice P.xp D.np P.zp]] w' (Ret w' (.bool (ligB D))) from lcheck_any D P w' OK.out (SN.out _ x))
  have H1 := Lib.hid hE1; have H2 := Lib.hid hE2; have H3 := Lib.hid hE3; have H4 := Lib.hid hE4; have H5 := Lib.hid hE5
  clear hE hE1 hE2 hE3 hE4 hE5
  unfold fontV
  go_enter Try.func5, Try.ntmps5
  go_wp2_with fail
  generalize (w.alloc (.cells #[.int .i64 D.sum, .int .i64 D.design, .int .i64 D.first, .slice P.xc D.nc P.zc, .slice P.xw D.nw P.zw, .slice P.xh D.nh P.zh, .slice P.xd D.nd P.zd, .slice P.xi D.ni P.zi, .slice P.xs D.ns P.zs, .slice P.xk D.nk P.zk, .slice P.xp D.np P.zp] 26)) = V at *
  generalize w.heap.size = B at *
  refine (awake_any _).mono ?_; rintro e w1 ⟨rfl, x1⟩
  have k1 := kF.ext x1
  have q0 : w1.cell? ⟨B, 0, none⟩ = some (.int .i64 D.sum) := k1.cell 0
  have q1 : w1.cell? ⟨B, 1, none⟩ = some (.int .i64 D.design) := k1.cell 1
  have q2 : w1.cell? ⟨B, 2, none⟩ = some (.int .i64 D.first) := k1.cell 2
  have q3 : w1.cell? ⟨B, 3, none⟩ = some (.slice P.xc D.nc P.zc) := k1.cell 3
  have q4 : w1.cell? ⟨B, 4, none⟩ = some (.slice P.xw D.nw P.zw) := k1.cell 4
  have q5 : w1.cell? ⟨B, 5, none⟩ = some (.slice P.xh D.nh P.zh) := k1.cell 5
  have q6 : w1.cell? ⟨B, 6, none⟩ = some (.slice P.xd D.nd P.zd) := k1.cell 6
  have q7 : w1.cell? ⟨B, 7, none⟩ = some (.slice P.xi D.ni P.zi) := k1.cell 7
  have q8 : w1.cell? ⟨B, 8, none⟩ = some (.slice P.xs D.ns P.zs) := k1.cell 8
  have q9 : w1.cell? ⟨B, 9, none⟩ = some (.slice P.xk D.nk P.zk) := k1.cell 9
  have q10 : w1.cell? ⟨B, 10, none⟩ = some (.slice P.xp D.np P.zp) := k1.cell 10
  go_wp2_with fail
  refine (FEW.out _).mono ?_; rintro e w2 ⟨rfl, x2⟩
  have X2 := x1.trans x2
  have k2 := k1.ext x2
  clear q0 q1 q2 q3 q4 q5 q6 q7 q8 q9 q10 kF k1 x1 x2 FEW
  have q0 : w2.cell? ⟨B, 0, none⟩ = some (.int .i64 D.sum) := k2.cell 0
  have q1 : w2.cell? ⟨B, 1, none⟩ = some (.int .i64 D.design) := k2.cell 1
  have q2 : w2.cell? ⟨B, 2, none⟩ = some (.int .i64 D.first) := k2.cell 2
  have q3 : w2.cell? ⟨B, 3, none⟩ = some (.slice P.xc D.nc P.zc) := k2.cell 3
  have q4 : w2.cell? ⟨B, 4, none⟩ = some (.slice P.xw D.nw P.zw) := k2.cell 4
  have q5 : w2.cell? ⟨B, 5, none⟩ = some (.slice P.xh D.nh P.zh) := k2.cell 5
  have q6 : w2.cell? ⟨B, 6, none⟩ = some (.slice P.xd D.nd P.zd) := k2.cell 6
  have q7 : w2.cell? ⟨B, 7, none⟩ = some (.slice P.xi D.ni P.zi) := k2.cell 7
  have q8 : w2.cell? ⟨B, 8, none⟩ = some (.slice P.xs D.ns P.zs) := k2.cell 8
  have q9 : w2.cell? ⟨B, 9, none⟩ = some (.slice P.xk D.nk P.zk) := k2.cell 9
  have q10 : w2.cell? ⟨B, 10, none⟩ = some (.slice P.xp D.np P.zp) := k2.cell 10
  have few : fewB D = false ∨ (fewB D = true ∧ 50 < (l.length : Int)) ∨ (fewB D = true ∧ (l.length : Int) ≤ 50 ∧ 50 < (l'.length : Int)) ∨ (fewB D = true ∧ (l.length : Int) ≤ 50 ∧ (l'.length : Int) ≤ 50) := by
    cases fewB D <;> simp <;> omega
  rcases few with hf | ⟨hf, hn⟩ | ⟨hf, hn, hn'⟩ | ⟨hf, hn, hn'⟩
  · rw [hf]
    clear hf
    go_wp2_with fail
    go_ret
    exact ⟨rfl, W0.trans X2⟩
  · rw [hf]
    clear hf
    go_wp2_with fail
    go_ret
    exact ⟨rfl, W0.trans X2⟩
  · rw [hf]
    clear hf
    go_wp2_with fail
    go_ret
    exact ⟨rfl, W0.trans X2⟩
  rw [hf]
  clear hf
  go_wp2_with fail
  refine (EX.out _ X2 A l c (HL.out _ X2) HWl.out (by omega)).mono ?_
  rintro e w3 ⟨x3, A3, c3, rfl, _, _, s3⟩
  have X3 := X2.trans x3
  have k3 := k2.ext x3
  clear q0 q1 q2 q3 q4 q5 q6 q7 q8 q9 q10 k2 x3 X2
  have q0 : w3.cell? ⟨B, 0, none⟩ = some (.int .i64 D.sum) := k3.cell 0
  have q1 : w3.cell? ⟨B, 1, none⟩ = some (.int .i64 D.design) := k3.cell 1
  have q2 : w3.cell? ⟨B, 2, none⟩ = some (.int .i64 D.first) := k3.cell 2
  have q3 : w3.cell? ⟨B, 3, none⟩ = some (.slice P.xc D.nc P.zc) := k3.cell 3
  have q4 : w3.cell? ⟨B, 4, none⟩ = some (.slice P.xw D.nw P.zw) := k3.cell 4
  have q5 : w3.cell? ⟨B, 5, none⟩ = some (.slice P.xh D.nh P.zh) := k3.cell 5
  have q6 : w3.cell? ⟨B, 6, none⟩ = some (.slice P.xd D.nd P.zd) := k3.cell 6
  have q7 : w3.cell? ⟨B, 7, none⟩ = some (.slice P.xi D.ni P.zi) := k3.cell 7
  have q8 : w3.cell? ⟨B, 8, none⟩ = some (.slice P.xs D.ns P.zs) := k3.cell 8
  have q9 : w3.cell? ⟨B, 9, none⟩ = some (.slice P.xk D.nk P.zk) := k3.cell 9
  have q10 : w3.cell? ⟨B, 10, none⟩ = some (.slice P.xp D.np P.zp) := k3.cell 10
  go_wp2_with fail
  refine (EX.out _ X3 A' l' c' (HL'.out _ X3) HWl'.out (by omega)).mono ?_
  rintro e w4 ⟨x4, A4, c4, rfl, _, _, s4⟩
  have X4 := X3.trans x4
  have k4 := k3.ext x4
  have s3 := s3.ext x4
  clear q0 q1 q2 q3 q4 q5 q6 q7 q8 q9 q10 k3 x4 X3
  have q0 : w4.cell? ⟨B, 0, none⟩ = some (.int .i64 D.sum) := k4.cell 0
  have q1 : w4.cell? ⟨B, 1, none⟩ = some (.int .i64 D.design) := k4.cell 1
  have q2 : w4.cell? ⟨B, 2, none⟩ = some (.int .i64 D.first) := k4.cell 2
  have q3 : w4.cell? ⟨B, 3, none⟩ = some (.slice P.xc D.nc P.zc) := k4.cell 3
  have q4 : w4.cell? ⟨B, 4, none⟩ = some (.slice P.xw D.nw P.zw) := k4.cell 4
  have q5 : w4.cell? ⟨B, 5, none⟩ = some (.slice P.xh D.nh P.zh) := k4.cell 5
  have q6 : w4.cell? ⟨B, 6, none⟩ = some (.slice P.xd D.nd P.zd) := k4.cell 6
  have q7 : w4.cell? ⟨B, 7, none⟩ = some (.slice P.xi D.ni P.zi) := k4.cell 7
  have q8 : w4.cell? ⟨B, 8, none⟩ = some (.slice P.xs D.ns P.zs) := k4.cell 8
  have q9 : w4.cell? ⟨B, 9, none⟩ = some (.slice P.xk D.nk P.zk) := k4.cell 9
  have q10 : w4.cell? ⟨B, 10, none⟩ = some (.slice P.xp D.np P.zp) := k4.cell 10
  obtain ⟨v1, u1, A5, c5, u2, r1, r2, hc5, s5, xx1, xx2⟩ := run_joinI w4.drew A A' l.length l'.length c c' l l' (HL.out _ X4.drew) (HL'.out _ X4.drew) rfl rfl (by omega)
  have KS := Lib.hid (fun w' (x : Ext w4 w') => show w'.cell? ⟨B, 0, none⟩ = some (.int .i64 D.sum) ∧ w'.cell? ⟨B, 1, none⟩ = some (.int .i64 D.design) ∧ w'.cell? ⟨B, 2, none⟩ = some (.int .i64 D.first) ∧ w'.cell? ⟨B, 3, none⟩ = some (.slice P.xc D.nc P.zc) ∧ w'.cell? ⟨B, 4, none⟩ = some (.slice P.xw D.nw P.zw) ∧ w'.cell? ⟨B, 5, none⟩ = some (.slice P.xh D.nh P.zh) ∧ w'.cell? ⟨B, 6, none⟩ = some (.slice P.xd D.nd P.zd) ∧ w'.cell? ⟨B, 7, none⟩ = some (.slice P.xi D.ni P.zi) ∧ w'.cell? ⟨B, 8, none⟩ = some (.slice P.xs D.ns P.zs) ∧ w'.cell? ⟨B, 9, none⟩ = some (.slice P.xk D.nk P.zk) ∧ w'.cell? ⟨B, 10, none⟩ = some (.slice P.xp D.np P.zp) from ⟨x.at q0, x.at q1, x.at q2, x.at q3, x.at q4, x.at q5, x.at q6, x.at q7, x.at q8, x.at q9, x.at q10⟩)
  have D4 : Ext w4 w4.drew := (Ext.refl _).drew
  have HX1 := Lib.hid (D4.trans xx1)
  have HX2 := Lib.hid (D4.trans xx2)
  have c6 := EX.out u2 (X4.trans (D4.trans xx2)) A5 (l ++ l') c5 s5 (fun x hx => by rcases List.mem_append.1 hx with h | h; exact HWl.out x h; exact HWl'.out x h) (by rw [List.length_append]; omega)
  obtain ⟨nj, hnj⟩ : ∃ nj, nj = (l ++ l').length := ⟨_, rfl⟩
  rw [← hnj] at c6 r2
  have C6 := Lib.hid c6
  clear hnj c6
  have HS3 := Lib.hid (s3.ext (D4.trans xx2))
  have HS4 := Lib.hid (s4.ext (D4.trans xx2))
  have HX4 := Lib.hid X4
  clear s3 s4 s5 xx1 xx2 X4
  go_wp2_with fail
  refine wp_region_noPanic ?_
  refine wp_region_held_drew (S := (fun w' => w'.cell? ⟨B, 0, none⟩ = some (.int .i64 D.sum) ∧ w'.cell? ⟨B, 1, none⟩ = some (.int .i64 D.design) ∧ w'.cell? ⟨B, 2, none⟩ = some (.int .i64 D.first) ∧ w'.cell? ⟨B, 3, none⟩ = some (.slice P.xc D.nc P.zc) ∧ w'.cell? ⟨B, 4, none⟩ = some (.slice P.xw D.nw P.zw) ∧ w'.cell? ⟨B, 5, none⟩ = some (.slice P.xh D.nh P.zh) ∧ w'.cell? ⟨B, 6, none⟩ = some (.slice P.xd D.nd P.zd) ∧ w'.cell? ⟨B, 7, none⟩ = some (.slice P.xi D.ni P.zi) ∧ w'.cell? ⟨B, 8, none⟩ = some (.slice P.xs D.ns P.zs) ∧ w'.cell? ⟨B, 9, none⟩ = some (.slice P.xk D.nk P.zk) ∧ w'.cell? ⟨B, 10, none⟩ = some (.slice P.xp D.np P.zp))) (by kernel_rfl) (KS.out _ D4) (fun h0 => ?_)
  refine wpAnyH_take (i := 0) (oi := ?_) (v := ?_) ?_ (by kernel_rfl) (by kernel_rfl) (by kernel_rfl) ?_ ?_ h0 ?_
  rotate_left 2
  · simp only [List.getElem?_toArray, List.getElem?_cons_zero]; rfl
  · exact fun _ _ _ h => h
  · refine Or.inl ⟨by rfl, ?_⟩
    intro w hSw
    (try dsimp only at hSw)
    go_simp
    (try with_reducible rfl)
  (try simp only [Act.put, List.setIfInBounds_toArray, List.set_cons_zero, List.set_cons_succ])
  refine wpAnyH_take (i := 2) (oi := ?_) (v := ?_) ?_ (by kernel_rfl) (by kernel_rfl) (by kernel_rfl) ?_ ?_ h0 ?_
  rotate_left 2
  · simp only [List.getElem?_toArray, List.getElem?_cons_zero, List.getElem?_cons_succ]; rfl
  · exact fun _ _ _ h => h
  · refine Or.inl ⟨by rfl, ?_⟩
    intro w hSw
    (try dsimp only at hSw)
    go_simp
    (try with_reducible rfl)
  (try simp only [Act.put, List.setIfInBounds_toArray, List.set_cons_zero, List.set_cons_succ])
  refine wpAnyH_take (i := 4) (oi := ?_) (v := ?_) ?_ (by kernel_rfl) (by kernel_rfl) (by kernel_rfl) ?_ ?_ h0 ?_
  rotate_left 2
  · simp only [List.getElem?_toArray, List.getElem?_cons_zero, List.getElem?_cons_succ]; rfl
  · exact fun _ _ _ h => h
  · refine Or.inl ⟨by rfl, ?_⟩
    intro w hSw
    (try dsimp only at hSw)
    go_simp
    (try with_reducible rfl)
  (try simp only [Act.put, List.setIfInBounds_toArray, List.set_cons_zero, List.set_cons_succ])
  refine wpAnyH_ready (rs := [1]) (by kernel_rfl) (by simp) ?_
  refine AllReadyH.cons (o := ?_) ?_ (fun K hK => ?_) AllReadyH.nil
  rotate_left
  · simp only [List.getElem?_toArray, List.getElem?_cons_zero, List.getElem?_cons_succ]; rfl
  go_simp
  refine hK.out _ _ (KS.out _ (D4.alloc _)) (fun h1 => ?_)
  clear hK K
  (try simp only [Act.put, List.setIfInBounds_toArray, List.set_cons_zero, List.set_cons_succ])
  refine wpAnyH_ready (rs := [3]) (by kernel_rfl) (by simp) ?_
  refine AllReadyH.cons (o := ?_) ?_ (fun K hK => ?_) AllReadyH.nil
  rotate_left
  · simp only [List.getElem?_toArray, List.getElem?_cons_zero, List.getElem?_cons_succ]; rfl
  refine step_app (.tmp 46) (.tmp 47) rfl (by kernel_rfl) r1 ?_
  refine hK.out _ _ (KS.out _ HX1.out) (fun h2 => ?_)
  clear hK K
  (try simp only [Act.put, List.setIfInBounds_toArray, List.set_cons_zero, List.set_cons_succ])
  refine wpAnyH_ready (rs := [5]) (by kernel_rfl) (by simp) ?_
  refine AllReadyH.cons (o := ?_) ?_ (fun K hK => ?_) AllReadyH.nil
  rotate_left
  · simp only [List.getElem?_toArray, List.getElem?_cons_zero, List.getElem?_cons_succ]; rfl
  refine step_app (.tmp 48) (.tmp 49) rfl (by kernel_rfl) r2 ?_
  refine hK.out _ _ (KS.out _ HX2.out) (fun h3 => ?_)
  clear hK K
  (try simp only [Act.put, List.setIfInBounds_toArray, List.set_cons_zero, List.set_cons_succ])
  refine wpAnyH_ready (rs := [6]) (by kernel_rfl) (by simp) ?_
  refine AllReadyH.cons (o := ?_) ?_ (fun K hK => ?_) AllReadyH.nil
  rotate_left
  · simp only [List.getElem?_toArray, List.getElem?_cons_zero, List.getElem?_cons_succ]; rfl
  go_simp
  refine C6.out.mono ?_
  rintro e w6 ⟨x6, A6, c6, rfl, _, _, s6⟩
  have x46 := HX2.out.trans x6
  refine hK.out _ _ (KS.out _ x46) (fun h4 => ?_)
  clear hK K
  refine wpAnyH_take (i := 7) (oi := ?_) (v := ?_) ?_ (by kernel_rfl) (by kernel_rfl) (by kernel_rfl) ?_ ?_ h4 ?_
  rotate_left 2
  · simp only [List.getElem?_toArray, List.getElem?_cons_zero, List.getElem?_cons_succ]; rfl
  · exact fun _ _ _ h => h
  · refine Or.inl ⟨by rfl, ?_⟩
    intro w hSw
    (try dsimp only at hSw)
    go_simp
    (try with_reducible rfl)
  (try simp only [Act.put, List.setIfInBounds_toArray, List.set_cons_zero, List.set_cons_succ])
  refine wpAnyH_take (i := 8) (oi := ?_) (v := ?_) ?_ (by kernel_rfl) (by kernel_rfl) (by kernel_rfl) ?_ ?_ h4 ?_
  rotate_left 2
  · simp only [List.getElem?_toArray, List.getElem?_cons_zero, List.getElem?_cons_succ]; rfl
  · exact fun _ _ _ h => h
  · refine Or.inl ⟨by rfl, ?_⟩
    intro w hSw
    (try dsimp only at hSw)
    go_simp
    (try with_reducible rfl)
  (try simp only [Act.put, List.setIfInBounds_toArray, List.set_cons_zero, List.set_cons_succ])
  refine wpAnyH_take (i := 9) (oi := ?_) (v := ?_) ?_ (by kernel_rfl) (by kernel_rfl) (by kernel_rfl) ?_ ?_ h4 ?_
  rotate_left 2
  · simp only [List.getElem?_toArray, List.getElem?_cons_zero, List.getElem?_cons_succ]; rfl
  · exact fun _ _ _ h => h
  · refine Or.inl ⟨by rfl, ?_⟩
    intro w hSw
    (try dsimp only at hSw)
    go_simp
    (try with_reducible rfl)
  (try simp only [Act.put, List.setIfInBounds_toArray, List.set_cons_zero, List.set_cons_succ])
  refine wpAnyH_take (i := 10) (oi := ?_) (v := ?_) ?_ (by kernel_rfl) (by kernel_rfl) (by kernel_rfl) ?_ ?_ h4 ?_
  rotate_left 2
  · simp only [List.getElem?_toArray, List.getElem?_cons_zero, List.getElem?_cons_succ]; rfl
  · exact fun _ _ _ h => h
  · refine Or.inl ⟨by rfl, ?_⟩
    intro w hSw
    (try dsimp only at hSw)
    go_simp
    (try with_reducible rfl)
  (try simp only [Act.put, List.setIfInBounds_toArray, List.set_cons_zero, List.set_cons_succ])
  refine wpAnyH_take (i := 11) (oi := ?_) (v := ?_) ?_ (by kernel_rfl) (by kernel_rfl) (by kernel_rfl) ?_ ?_ h4 ?_
  rotate_left 2
  · simp only [List.getElem?_toArray, List.getElem?_cons_zero, List.getElem?_cons_succ]; rfl
  · exact fun _ _ _ h => h
  · refine Or.inl ⟨by rfl, ?_⟩
    intro w hSw
    (try dsimp only at hSw)
    go_simp
    (try with_reducible rfl)
  (try simp only [Act.put, List.setIfInBounds_toArray, List.set_cons_zero, List.set_cons_succ])
  refine wpAnyH_done (by kernel_rfl) ?_ _
  refine NoPanic.normal ?_
  have X6 := HX4.out.trans x46
  have k6 := k4.ext x46
  have s3 := HS3.out.ext x6
  have s4 := HS4.out.ext x6
  clear h0 h1 h2 h3 h4 r1 r2 q0 q1 q2 q3 q4 q5 q6 q7 q8 q9 q10 k4 x6 x46 HX1 HX2 KS C6 HS3 HS4 D4 HX4
  have q0 : w6.cell? ⟨B, 0, none⟩ = some (.int .i64 D.sum) := k6.cell 0
  have q1 : w6.cell? ⟨B, 1, none⟩ = some (.int .i64 D.design) := k6.cell 1
  have q2 : w6.cell? ⟨B, 2, none⟩ = some (.int .i64 D.first) := k6.cell 2
  have q3 : w6.cell? ⟨B, 3, none⟩ = some (.slice P.xc D.nc P.zc) := k6.cell 3
  have q4 : w6.cell? ⟨B, 4, none⟩ = some (.slice P.xw D.nw P.zw) := k6.cell 4
  have q5 : w6.cell? ⟨B, 5, none⟩ = some (.slice P.xh D.nh P.zh) := k6.cell 5
  have q6 : w6.cell? ⟨B, 6, none⟩ = some (.slice P.xd D.nd P.zd) := k6.cell 6
  have q7 : w6.cell? ⟨B, 7, none⟩ = some (.slice P.xi D.ni P.zi) := k6.cell 7
  have q8 : w6.cell? ⟨B, 8, none⟩ = some (.slice P.xs D.ns P.zs) := k6.cell 8
  have q9 : w6.cell? ⟨B, 9, none⟩ = some (.slice P.xk D.nk P.zk) := k6.cell 9
  have q10 : w6.cell? ⟨B, 10, none⟩ = some (.slice P.xp D.np P.zp) := k6.cell 10
  have hla := H4.out l
  have hlb := H4.out l'
  have C7 := Lib.hid (EX.out w6 X6 A3 (E l) c3 s3 (H5.out l HWl.out) (by omega))
  go_wp2_with fail
  refine C7.out.mono ?_
  rintro e w7 ⟨x7, A7, c7, rfl, _, _, s7⟩
  have X7 := X6.trans x7
  have k7 := k6.ext x7
  have s3 := s3.ext x7
  have s4 := s4.ext x7
  have s6 := s6.ext x7
  clear q0 q1 q2 q3 q4 q5 q6 q7 q8 q9 q10 k6 x7 X6 C7
  obtain ⟨v1, u1, A8, c8, u2, r1, r2, hc8, s8, xx1, xx2⟩ := run_joinI w7 A3 A4 (E l).length (E l').length c3 c4 (E l) (E l') s3 s4 rfl rfl (by omega)
  have X8 := X7.trans xx2
  have k8 := k7.ext xx2
  have s3 := s3.ext xx2
  have s7 := s7.ext xx2
  have s6 := s6.ext xx2
  rw [show E (E l) = E l from H2.out l] at *
  have hj : E (l ++ l') = E l ++ E l' := H1.out l l'
  rw [hj] at s6 ⊢
  clear hj s4 xx1 xx2 X7
  have hzl : (E l ++ E l').length ≤ 100000 := by rw [List.length_append]; omega
  generalize E l ++ E l' = z at *
  have SM := Lib.hid (L04.same_any A6 A8 z.length z.length c6 c8 (fun j => z.getD j 0) (fun j => z.getD j 0) u2 s6 s8 (by omega))
  rw [show L04.sameB z.length z.length (fun j => z.getD j 0) (fun j => z.getD j 0) = true from decide_eq_true ⟨rfl, fun _ _ => rfl⟩] at SM
  generalize z.length = zn at *
  go_wp2_with (first | (at_builtin; refine wpList_ran rfl _ _ rfl r1 ?_) | (at_builtin; refine wpList_ran rfl _ _ rfl r2 ?_))
  refine SM.out.mono ?_
  rintro e w9 ⟨rfl, x9⟩
  have X9 := X8.trans x9
  have k9 := k8.ext x9
  have s3 := s3.ext x9
  have s7 := s7.ext x9
  have q0 : w9.cell? ⟨B, 0, none⟩ = some (.int .i64 D.sum) := k9.cell 0
  have q1 : w9.cell? ⟨B, 1, none⟩ = some (.int .i64 D.design) := k9.cell 1
  have q2 : w9.cell? ⟨B, 2, none⟩ = some (.int .i64 D.first) := k9.cell 2
  have q3 : w9.cell? ⟨B, 3, none⟩ = some (.slice P.xc D.nc P.zc) := k9.cell 3
  have q4 : w9.cell? ⟨B, 4, none⟩ = some (.slice P.xw D.nw P.zw) := k9.cell 4
  have q5 : w9.cell? ⟨B, 5, none⟩ = some (.slice P.xh D.nh P.zh) := k9.cell 5
  have q6 : w9.cell? ⟨B, 6, none⟩ = some (.slice P.xd D.nd P.zd) := k9.cell 6
  have q7 : w9.cell? ⟨B, 7, none⟩ = some (.slice P.xi D.ni P.zi) := k9.cell 7
  have q8 : w9.cell? ⟨B, 8, none⟩ = some (.slice P.xs D.ns P.zs) := k9.cell 8
  have q9 : w9.cell? ⟨B, 9, none⟩ = some (.slice P.xk D.nk P.zk) := k9.cell 9
  have q10 : w9.cell? ⟨B, 10, none⟩ = some (.slice P.xp D.np P.zp) := k9.cell 10
  have SM2 := Lib.hid (L04.same_any A7 A3 (E l).length (E l).length c7 c3 (fun j => (E l).getD j 0) (fun j => (E l).getD j 0) w9 s7 s3 (by omega))
  rw [show L04.sameB (E l).length (E l).length (fun j => (E l).getD j 0) (fun j => (E l).getD j 0) = true from decide_eq_true ⟨rfl, fun _ _ => rfl⟩] at SM2
  clear s3 s6 s7 s8 r1 r2 SM x9 X8 k8 k7
  generalize (E l).length = en at *
  have hke : (er == er) = true := by simp
  rcases H3.out with ⟨rfl, hL⟩ | ⟨rfl, hL⟩
  · rw [hL] at CK
    go_wp2_with fail
    refine SM2.out.mono ?_
    rintro e w10 ⟨rfl, x10⟩
    have k10 := k9.ext x10
    clear q0 q1 q2 q3 q4 q5 q6 q7 q8 q9 q10
    have q0 : w10.cell? ⟨B, 0, none⟩ = some (.int .i64 D.sum) := k10.cell 0
    have q1 : w10.cell? ⟨B, 1, none⟩ = some (.int .i64 D.design) := k10.cell 1
    have q2 : w10.cell? ⟨B, 2, none⟩ = some (.int .i64 D.first) := k10.cell 2
    have q3 : w10.cell? ⟨B, 3, none⟩ = some (.slice P.xc D.nc P.zc) := k10.cell 3
    have q4 : w10.cell? ⟨B, 4, none⟩ = some (.slice P.xw D.nw P.zw) := k10.cell 4
    have q5 : w10.cell? ⟨B, 5, none⟩ = some (.slice P.xh D.nh P.zh) := k10.cell 5
    have q6 : w10.cell? ⟨B, 6, none⟩ = some (.slice P.xd D.nd P.zd) := k10.cell 6
    have q7 : w10.cell? ⟨B, 7, none⟩ = some (.slice P.xi D.ni P.zi) := k10.cell 7
    have q8 : w10.cell? ⟨B, 8, none⟩ = some (.slice P.xs D.ns P.zs) := k10.cell 8
    have q9 : w10.cell? ⟨B, 9, none⟩ = some (.slice P.xk D.nk P.zk) := k10.cell 9
    have q10 : w10.cell? ⟨B, 10, none⟩ = some (.slice P.xp D.np P.zp) := k10.cell 10
    go_wp2_with fail
    refine (CK.out _ (X9.trans x10)).mono ?_
    rintro e w11 ⟨rfl, x11⟩
    go_wp2_with fail
    go_ret
    exact ⟨rfl, W0.trans ((X9.trans x10).trans x11)⟩
  · rw [hL] at CK
    go_wp2_with fail
    refine SM2.out.mono ?_
    rintro e w10 ⟨rfl, x10⟩
    have k10 := k9.ext x10
    clear q0 q1 q2 q3 q4 q5 q6 q7 q8 q9 q10
    have q0 : w10.cell? ⟨B, 0, none⟩ = some (.int .i64 D.sum) := k10.cell 0
    have q1 : w10.cell? ⟨B, 1, none⟩ = some (.int .i64 D.design) := k10.cell 1
    have q2 : w10.cell? ⟨B, 2, none⟩ = some (.int .i64 D.first) := k10.cell 2
    have q3 : w10.cell? ⟨B, 3, none⟩ = some (.slice P.xc D.nc P.zc) := k10.cell 3
    have q4 : w10.cell? ⟨B, 4, none⟩ = some (.slice P.xw D.nw P.zw) := k10.cell 4
    have q5 : w10.cell? ⟨B, 5, none⟩ = some (.slice P.xh D.nh P.zh) := k10.cell 5
    have q6 : w10.cell? ⟨B, 6, none⟩ = some (.slice P.xd D.nd P.zd) := k10.cell 6
    have q7 : w10.cell? ⟨B, 7, none⟩ = some (.slice P.xi D.ni P.zi) := k10.cell 7
    have q8 : w10.cell? ⟨B, 8, none⟩ = some (.slice P.xs D.ns P.zs) := k10.cell 8
    have q9 : w10.cell? ⟨B, 9, none⟩ = some (.slice P.xk D.nk P.zk) := k10.cell 9
    have q10 : w10.cell? ⟨B, 10, none⟩ = some (.slice P.xp D.np P.zp) := k10.cell 10
    go_wp2_with fail
    refine (CK.out _ (X9.trans x10)).mono ?_
    rintro e w11 ⟨rfl, x11⟩
    go_wp2_with fail
    go_ret
    exact ⟨rfl, W0.trans ((X9.trans x10).trans x11)⟩

set_option maxRecDepth 100000 in
theorem lifted (os : Os) (started : os.Started) (H : Type) (enc : TypeId × Value → H) :
    ReturnsInHanded {} Try.checked os 5 .any (Rows.ligPartsSpec.pre6 enc Try.prog Try.f5 [] false) (Rows.ligPartsSpec.post enc Try.prog Try.f5 false true false false) := by
  refine law_lift (C := Try.checked) own started (by kernel_rfl) Try.func5 laidOut rfl rfl Try.underlying4 (by kernel_rfl) ?_
    (ChangeSpec.witness6 (enc := enc) (C := Try.checked) false ⟨#[], #[.agg #[.int .i64 0, .int .i64 0, .int .i64 0, .slice none 0 0, .slice none 0 0, .slice none 0 0, .slice none 0 0, .slice none 0 0, .slice none 0 0, .slice none 0 0, .slice none 0 0], .slice none 0 0, .slice none 0 0], []⟩ 8 (by kernel_rfl) (by kernel_rfl) (by kernel_rfl) (by kernel_rfl)) ?_
  · intro H ds h
    match ds, h with
    | [_, _, _], _ => rfl
  · intro W base args ds p hval hA hlt hwt hsh
    rw [Try.params5] at hA hval
    obtain ⟨v0, vs0, d0, ds0, p0, q0, hargs, rfl, rfl, h0, r0⟩ := trodAll_cons hA
    obtain ⟨v1, vs1, d1, ds1, p1, q1, rfl, rfl, rfl, h1, r1⟩ := trodAll_cons r0
    obtain ⟨v2, vs2, d2, ds2, p2, q2, rfl, rfl, rfl, h2, r2⟩ := trodAll_cons r1
    obtain ⟨rfl, rfl, rfl⟩ := trodAll_nil r2
    obtain rfl : args = #[v0, v1, v2] := by cases args; simp_all
    obtain ⟨D0, P0, rfl, ok0, hs0⟩ := arg_font (hval 0 26 v0 rfl rfl) h0
    obtain ⟨A1, l1, c1, rfl, hc1, hm1, wf1, hs1⟩ := seen_ints Try.underlying23 Try.underlying3 (by kernel_rfl) (hval 1 23 v1 rfl rfl) h1
    obtain ⟨A2, l2, c2, rfl, hc2, hm2, wf2, hs2⟩ := seen_ints Try.underlying23 Try.underlying3 (by kernel_rfl) (hval 2 23 v2 rfl rfl) h2
    exact walk D0 P0 ok0 A1 l1 c1 hc1 hm1 wf1 A2 l2 c2 hc2 hm2 wf2 W hs0 hs1 hs2

theorem holds : Rows.LigPartsSaid :=
  OpenClaim.holds_of_wide 5 Try.f5 rfl rfl rfl rfl rfl rfl rfl ⟨rfl, rfl, rfl, rfl, rfl⟩ rfl rfl rfl rfl rfl (by kernel_rfl) Try.func5 (by kernel_rfl)
    (of_decide_eq_true (by kernel_rfl)) (by unfold Func.isWrapper; first | (rw [if_pos (by decide +kernel)]; kernel_rfl) | (rw [if_neg (by decide +kernel)]; exact ⟨rfl, rfl⟩))
    (fun os started H enc _ => lifted os started H enc)
end LigParts
end Go.Proofs.Ytmbkgjmnaembaaa

