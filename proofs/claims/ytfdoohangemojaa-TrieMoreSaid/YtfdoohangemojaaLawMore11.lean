/- TrieMore: of two lists of patterns together each place's number is the greater one of both, and there are no more nodes than of both. For every input, without a condition. -/
import Derived.Test.YtfdoohangemojaaThree11
import Derived.ChangeMaps5
import Derived.Deep.RegionHeld3
namespace Go.Proofs.Ytfdoohangemojaa
open Go.ChangeShapes Go.WideShapes Go.ChangeAt Go.RowKit
open Go.Lib hiding intOf
namespace TrieMore
open L10 (TN plainB patB tn rd patsB fewD fewp_any few_len)
open L11

/-- The two lists, one behind the other. -/
theorem more_list (W : World) (A A2 : Option Addr) (l m : List WP) (n k c c2 : Nat) (sl : SeenW W A l) (sm : SeenW W A2 m) (hn : n = l.length) (hk : k = m.length) (h1 : n ≤ 140) (h2 : k ≤ 140) (ty ty2 : TypeId) :
    ∃ A8 n8 c8 w8 A9 n9 c9 w9, (Builtin.append_ #[34, 34] ty #[.slice (some ⟨W.heap.size, 0, none⟩) 0 0, .slice A n c]).run Try.prog (W.alloc (.cells #[] 49)) = .ok (.slice A8 n8 c8) w8 ∧
      (Builtin.append_ #[34, 34] ty2 #[.slice A8 n8 c8, .slice A2 k c2]).run Try.prog w8 = .ok (.slice A9 n9 c9) w9 ∧ n9 = (l ++ m).length ∧ w9.ownsRow W.heap.size 49 2 (.slice A9 n9 c9) (l ++ m).length (flatW (l ++ m)) ∧
      (Ext W (W.alloc (.cells #[] 49)) ∧ Ext W w8 ∧ Ext W w9) := by
  have x1 : Ext W (W.alloc (.cells #[] 49)) := (Ext.refl W).alloc _
  have ho : (W.alloc (.cells #[] 49)).ownsRow W.heap.size 49 2 (.slice (some ⟨W.heap.size, 0, none⟩) 0 0) ([] : List WP).length (flatW []) := World.ownsRow_made W #[] 0 (Nat.le_refl _) (Nat.zero_le _) rfl
  obtain ⟨A8, n8, c8, w8, r8, _, ho8, x8⟩ := own_puts ho x1 A l n c (sl.ext x1) hn (by simp only [List.length_nil]; omega) ty
  rw [List.nil_append] at ho8
  obtain ⟨A9, n9, c9, w9, r9, e9, ho9, x9⟩ := own_puts ho8 x8 A2 m k c2 (sm.ext x8) hk (by omega) ty2
  exact ⟨A8, n8, c8, w8, A9, n9, c9, w9, r8, r9, e9, ho9, x1, x8, x9⟩
theorem vals_both (p q : List TN) (w : List UInt8) : (valsL (p ++ q) w).length = (valsL p w).length ∧ (valsL (p ++ q) w).length = (valsL q w).length ∧ ∀ j, (valsL (p ++ q) w).getD j 0 = max ((valsL p w).getD j 0) ((valsL q w).getD j 0) := by
  unfold valsL
  split
  · refine ⟨by simp, by simp, fun j => ?_⟩
    by_cases hj : j < w.length + 1
    · simp only [List.getD, List.getElem?_map, List.getElem?_range hj, Option.map_some, Option.getD_some, numF_append]
    · rw [List.getD, List.getD, List.getD, List.getElem?_eq_none (by simp; omega), List.getElem?_eq_none (by simp; omega), List.getElem?_eq_none (by simp; omega)]
      simp
  · exact ⟨rfl, rfl, fun _ => by simp⟩
theorem vals_short (p : List TN) (w : List UInt8) : (valsL p w).length ≤ 41 := by
  unfold valsL
  split
  · rename_i h
    have := (plain_len h).2
    simp only [List.length_map, List.length_range]
    omega
  · simp

set_option maxRecDepth 100000 in
set_option maxHeartbeats 16000000 in
theorem no_no (D : PatsD) (P : PatsP) (ok : PatsOk D P) (E : PatsD) (U : PatsP) (oke : PatsOk E U) (s : ByteArray) (hs : s.size ≤ 60) (w : World) (sn : SeenPats w D P) (se : SeenPats w E U) (hf : fewD D = true) (hg : fewD E = true) (hn : D.l.length ≤ 140) (hm : E.l.length ≤ 140)
    (hp : D.l.all (fun y => patB (tn y)) = false) (hq : E.l.all (fun y => patB (tn y)) = false) : Calls Try.prog 9 #[patsV D P, patsV E U, .string s] w (Ret w (.bool true)) := by
  obtain ⟨f1, f2, f3⟩ := few_len hf
  obtain ⟨g1, g2, g3⟩ := few_len hg
  obtain ⟨V, hV⟩ : ∃ V, V = (w.alloc (.cells #[.slice P.x D.l.length P.c, .slice P.y D.m.length P.d] 37)).alloc (.cells #[.slice U.x E.l.length U.c, .slice U.y E.m.length U.d] 37) := ⟨_, rfl⟩
  have W0 : Ext w V := by rw [hV]; exact ((Ext.refl _).alloc _).alloc _
  have kB : Blk V w.heap.size 37 [.slice P.x D.l.length P.c, .slice P.y D.m.length P.d] := by rw [hV]; exact (Blk.lit w _ _ _ rfl).ext ((Ext.refl _).alloc _)
  have kE : Blk V (w.heap.size + 1) 37 [.slice U.x E.l.length U.c, .slice U.y E.m.length U.d] := by rw [hV]; exact Blk.lit _ _ _ _ (by simp)
  have FEW := Lib.hid (fun w' (x : Ext V w') => by have := fewp_any D P w' ((sn.ext W0).ext x); rw [hf] at this; exact this)
  have FEU := Lib.hid (fun w' (x : Ext V w') => by have := fewp_any E U w' ((se.ext W0).ext x); rw [hg] at this; exact this)
  have AW := Lib.hid (awake_any V)
  have SL := Lib.hid (sn.ext W0).l
  have SM := Lib.hid (se.ext W0).l
  have OKL := Lib.hid ok.li
  have OKM := Lib.hid oke.li
  have HP := Lib.hid hp
  have HQ := Lib.hid hq
  have HX := Lib.hid W0
  unfold patsV at FEW FEU ⊢
  obtain ⟨l, ld⟩ := D
  obtain ⟨A, c, Ad, cd⟩ := P
  obtain ⟨m, md⟩ := E
  obtain ⟨A2, c2, Ae, ce⟩ := U
  dsimp only at FEW FEU SL SM OKL OKM HP HQ kB kE hV hn hm ⊢
  obtain ⟨n, hnl⟩ : ∃ n, n = l.length := ⟨_, rfl⟩
  have HN := Lib.hid hnl
  obtain ⟨k, hkl⟩ : ∃ k, k = m.length := ⟨_, rfl⟩
  have HM := Lib.hid hkl
  rw [← hnl] at FEW kB hV hn ⊢
  rw [← hkl] at FEU kE hm hV ⊢
  clear sn se ok oke hf hg hp hq f1 f2 f3 g1 g2 g3 hnl hkl W0
  generalize ld.length = zl at *
  generalize md.length = zm at *
  go_enter Try.func9, Try.ntmps9
  go_upto_region 1 with (fail)
  rw [← hV]
  clear hV
  generalize w.heap.size = R at *
  go_wp2_with fail
  refine AW.out.mono ?_; rintro e w1 ⟨rfl, x1⟩
  have q0 : w1.cell? ⟨R, 0, none⟩ = some (.slice A n c) := (kB.ext x1).cell 0
  have q1 : w1.cell? ⟨R, 1, none⟩ = some (.slice Ad zl cd) := (kB.ext x1).cell 1
  have r0 : w1.cell? ⟨R + 1, 0, none⟩ = some (.slice A2 k c2) := (kE.ext x1).cell 0
  have r1 : w1.cell? ⟨R + 1, 1, none⟩ = some (.slice Ae zm ce) := (kE.ext x1).cell 1
  have X1 := Lib.hid x1
  clear x1 AW kB kE
  go_wp2_with fail
  refine (FEW.out _ X1.out).mono ?_; rintro e w2 ⟨rfl, x2⟩
  have q0 := x2.at q0
  have r0 := x2.at r0
  have r1 := x2.at r1
  have X2 := Lib.hid (X1.out.trans x2)
  clear x2 X1 FEW q1
  go_wp2_with fail
  refine (FEU.out _ X2.out).mono ?_; rintro e w3 ⟨rfl, x3⟩
  have q0 := x3.at q0
  have r0 := x3.at r0
  have X3 := Lib.hid (X2.out.trans x3)
  clear x3 X2 FEU r1
  have N1 := Lib.hid (new_list_no c (SL.out.ext X3.out) HN.out OKL.out (by have := HN.out; omega) HP.out)
  go_wp2_with fail
  refine N1.out.mono ?_; rintro e w4 ⟨rfl, x4⟩
  have X4 := Lib.hid (X3.out.trans x4)
  have q0 := x4.at q0
  have r0 := x4.at r0
  clear x4 N1
  have N2 := Lib.hid (new_list_no c2 (SM.out.ext X4.out) HM.out OKM.out (by have := HM.out; omega) HQ.out)
  go_wp2_with fail
  refine N2.out.mono ?_; rintro e w5 ⟨rfl, x5⟩
  have X5 := Lib.hid (X4.out.trans x5)
  have q0 := x5.at q0
  have r0 := x5.at r0
  clear x5 N2
  obtain ⟨A8, n8, c8, w8, A9, n9, c9, w9, hr1, hr2, hn9, ho9, y1, y2, y3⟩ := more_list w5.drew A A2 l m n k c c2 (SL.out.ext (X5.out.trans ((Ext.refl _).drew))) (SM.out.ext (X5.out.trans ((Ext.refl _).drew))) HN.out HM.out hn hm 34 34
  have okU := Lib.hid (show ∀ y ∈ l ++ m, y.Ok from fun y hy => (List.mem_append.1 hy).elim (OKL.out y) (OKM.out y))
  have hs9 : ∀ y ∈ l ++ m, SeenL w9 y.A y.ns := fun y hy => ((List.mem_append.1 hy).elim (SeenW.nums SL.out y) (SeenW.nums SM.out y)).ext ((X5.out.trans ((Ext.refl _).drew)).trans y3)
  have NU := Lib.hid (new_list_no c9 (own_seenP rfl ho9 hs9) hn9 okU.out (by have := HN.out; have := HM.out; rw [List.length_append]; omega) (by rw [List.all_append, HP.out, HQ.out]; rfl))
  clear ho9 hs9 hn9
  have S0 := Lib.hid (show ∀ w', Ext w5.drew w' → w'.cell? ⟨R, 0, none⟩ = some (.slice A n c) ∧ w'.cell? ⟨R + 1, 0, none⟩ = some (.slice A2 k c2) from fun w' x => ⟨x.at q0, x.at r0⟩)
  have hd := ((Ext.refl w5).drew)
  have HDR := Lib.hid hd
  clear hd
  go_upto_region 6 with (fail)
  refine wp_region_noPanic ?_
  refine wp_region_held_drew (S := (fun w' => w'.cell? ⟨R, 0, none⟩ = some (.slice A n c) ∧ w'.cell? ⟨R + 1, 0, none⟩ = some (.slice A2 k c2))) (by kernel_rfl) (S0.out _ (Ext.refl _)) (fun h0 => ?_)
  have X5 := Lib.hid (X5.out.trans HDR.out)
  generalize w5.drew = W5 at *
  refine wpAnyH_take (i := 1) (oi := ?_) (v := ?_) ?_ (by kernel_rfl) (by kernel_rfl) (by kernel_rfl) ?_ ?_ h0 ?_
  rotate_left 2
  · simp only [List.getElem?_toArray, List.getElem?_cons_zero, List.getElem?_cons_succ]; rfl
  · exact fun _ _ _ h => h
  · refine Or.inl ⟨by rfl, ?_⟩
    intro w hSw
    (try dsimp only at hSw)
    go_simp
    (try with_reducible rfl)
  (try simp only [Act.put, List.setIfInBounds_toArray, List.set_cons_zero, List.set_cons_succ])
  refine wpAnyH_take (i := 2) (oi := ?_) (v := ?_) ?_ (by kernel_rfl) (by kernel_rfl) (by kernel_rfl) ?_ ?_ h0 ?_
  rotate_left 2
  · simp only [List.getElem?_toArray, List.getElem?_cons_zero, List.getElem?_cons_succ]; rfl
  · exact fun _ _ _ h => h
  · refine Or.inl ⟨by rfl, ?_⟩
    intro w hSw
    (try dsimp only at hSw)
    go_simp
    (try with_reducible rfl)
  (try simp only [Act.put, List.setIfInBounds_toArray, List.set_cons_zero, List.set_cons_succ])
  refine wpAnyH_take (i := 4) (oi := ?_) (v := ?_) ?_ (by kernel_rfl) (by kernel_rfl) (by kernel_rfl) ?_ ?_ h0 ?_
  rotate_left 2
  · simp only [List.getElem?_toArray, List.getElem?_cons_zero, List.getElem?_cons_succ]; rfl
  · exact fun _ _ _ h => h
  · refine Or.inl ⟨by rfl, ?_⟩
    intro w hSw
    (try dsimp only at hSw)
    go_simp
    (try with_reducible rfl)
  (try simp only [Act.put, List.setIfInBounds_toArray, List.set_cons_zero, List.set_cons_succ])
  refine wpAnyH_take (i := 5) (oi := ?_) (v := ?_) ?_ (by kernel_rfl) (by kernel_rfl) (by kernel_rfl) ?_ ?_ h0 ?_
  rotate_left 2
  · simp only [List.getElem?_toArray, List.getElem?_cons_zero, List.getElem?_cons_succ]; rfl
  · exact fun _ _ _ h => h
  · refine Or.inl ⟨by rfl, ?_⟩
    intro w hSw
    (try dsimp only at hSw)
    go_simp
    (try with_reducible rfl)
  (try simp only [Act.put, List.setIfInBounds_toArray, List.set_cons_zero, List.set_cons_succ])
  refine wpAnyH_ready (rs := [0]) (by kernel_rfl) (by simp) ?_
  refine AllReadyH.cons (o := ?_) ?_ (fun K hK => ?_) AllReadyH.nil
  rotate_left
  · simp only [List.getElem?_toArray, List.getElem?_cons_zero]; rfl
  go_simp
  refine hK.out _ _ (S0.out _ y1) (fun h1 => ?_)
  clear hK K
  (try simp only [Act.put, List.setIfInBounds_toArray, List.set_cons_zero, List.set_cons_succ])
  refine wpAnyH_ready (rs := [3]) (by kernel_rfl) (by simp) ?_
  refine AllReadyH.cons (o := ?_) ?_ (fun K hK => ?_) AllReadyH.nil
  rotate_left
  · simp only [List.getElem?_toArray, List.getElem?_cons_zero, List.getElem?_cons_succ]; rfl
  refine step_app11 (.tmp 60) (.tmp 62) rfl (by kernel_rfl) hr1 ?_
  refine hK.out _ _ (S0.out _ y2) (fun h2 => ?_)
  clear hK K
  (try simp only [Act.put, List.setIfInBounds_toArray, List.set_cons_zero, List.set_cons_succ])
  refine wpAnyH_ready (rs := [6]) (by kernel_rfl) (by simp) ?_
  refine AllReadyH.cons (o := ?_) ?_ (fun K hK => ?_) AllReadyH.nil
  rotate_left
  · simp only [List.getElem?_toArray, List.getElem?_cons_zero, List.getElem?_cons_succ]; rfl
  refine step_app11 (.tmp 63) (.tmp 65) rfl (by kernel_rfl) hr2 ?_
  refine hK.out _ _ (S0.out _ y3) (fun h3 => ?_)
  clear hK K
  (try simp only [Act.put, List.setIfInBounds_toArray, List.set_cons_zero, List.set_cons_succ])
  refine wpAnyH_take (i := 7) (oi := ?_) (v := ?_) ?_ (by kernel_rfl) (by kernel_rfl) (by kernel_rfl) ?_ ?_ h3 ?_
  rotate_left 2
  · simp only [List.getElem?_toArray, List.getElem?_cons_zero, List.getElem?_cons_succ]; rfl
  · exact fun _ _ _ h => h
  · refine Or.inl ⟨by rfl, ?_⟩
    intro w hSw
    (try dsimp only at hSw)
    go_simp
    (try with_reducible rfl)
  (try simp only [Act.put, List.setIfInBounds_toArray, List.set_cons_zero, List.set_cons_succ])
  refine wpAnyH_ready (rs := [8]) (by kernel_rfl) (by simp) ?_
  refine AllReadyH.cons (o := ?_) ?_ (fun K hK => ?_) AllReadyH.nil
  rotate_left
  · simp only [List.getElem?_toArray, List.getElem?_cons_zero, List.getElem?_cons_succ]; rfl
  go_simp
  refine NU.out.mono ?_; rintro e w6 ⟨rfl, x6⟩
  have y4 := y3.trans x6
  refine hK.out _ _ (S0.out _ y4) (fun h4 => ?_)
  clear hK K
  (try simp only [Act.put, List.setIfInBounds_toArray, List.set_cons_zero, List.set_cons_succ])
  refine wpAnyH_take (i := 9) (oi := ?_) (v := ?_) ?_ (by kernel_rfl) (by kernel_rfl) (by kernel_rfl) ?_ ?_ h4 ?_
  rotate_left 2
  · simp only [List.getElem?_toArray, List.getElem?_cons_zero, List.getElem?_cons_succ]; rfl
  · exact fun _ _ _ h => h
  · refine Or.inl ⟨by rfl, ?_⟩
    intro w hSw
    (try dsimp only at hSw)
    go_simp
    (try with_reducible rfl)
  (try simp only [Act.put, List.setIfInBounds_toArray, List.set_cons_zero, List.set_cons_succ])
  refine wpAnyH_take (i := 10) (oi := ?_) (v := ?_) ?_ (by kernel_rfl) (by kernel_rfl) (by kernel_rfl) ?_ ?_ h4 ?_
  rotate_left 2
  · simp only [List.getElem?_toArray, List.getElem?_cons_zero, List.getElem?_cons_succ]; rfl
  · exact fun _ _ _ h => h
  · refine Or.inl ⟨by rfl, ?_⟩
    intro w hSw
    (try dsimp only at hSw)
    go_simp
    (try with_reducible rfl)
  (try simp only [Act.put, List.setIfInBounds_toArray, List.set_cons_zero, List.set_cons_succ])
  refine wpAnyH_take (i := 11) (oi := ?_) (v := ?_) ?_ (by kernel_rfl) (by kernel_rfl) (by kernel_rfl) ?_ ?_ h4 ?_
  rotate_left 2
  · simp only [List.getElem?_toArray, List.getElem?_cons_zero, List.getElem?_cons_succ]; rfl
  · exact fun _ _ _ h => h
  · refine Or.inl ⟨by rfl, ?_⟩
    intro w hSw
    (try dsimp only at hSw)
    go_simp
    (try with_reducible rfl)
  (try simp only [Act.put, List.setIfInBounds_toArray, List.set_cons_zero, List.set_cons_succ])
  refine wpAnyH_take (i := 12) (oi := ?_) (v := ?_) ?_ (by kernel_rfl) (by kernel_rfl) (by kernel_rfl) ?_ ?_ h4 ?_
  rotate_left 2
  · simp only [List.getElem?_toArray, List.getElem?_cons_zero, List.getElem?_cons_succ]; rfl
  · exact fun _ _ _ h => h
  · refine Or.inl ⟨by rfl, ?_⟩
    intro w hSw
    (try dsimp only at hSw)
    go_simp
    (try with_reducible rfl)
  (try simp only [Act.put, List.setIfInBounds_toArray, List.set_cons_zero, List.set_cons_succ])
  refine wpAnyH_take (i := 13) (oi := ?_) (v := ?_) ?_ (by kernel_rfl) (by kernel_rfl) (by kernel_rfl) ?_ ?_ h4 ?_
  rotate_left 2
  · simp only [List.getElem?_toArray, List.getElem?_cons_zero, List.getElem?_cons_succ]; rfl
  · exact fun _ _ _ h => h
  · refine Or.inl ⟨by rfl, ?_⟩
    intro w hSw
    (try dsimp only at hSw)
    go_simp
    (try with_reducible rfl)
  (try simp only [Act.put, List.setIfInBounds_toArray, List.set_cons_zero, List.set_cons_succ])
  refine wpAnyH_done (by kernel_rfl) ?_ _
  refine NoPanic.normal ?_
  clear h0 h1 h2 h3 h4 hr1 hr2
  have X6 := Lib.hid (HX.out.trans (X5.out.trans y4))
  clear NU x6 y1 y2 y3 y4
  go_wp2_with fail
  go_ret
  exact ⟨rfl, X6.out⟩

set_option maxRecDepth 100000 in
set_option maxHeartbeats 16000000 in
theorem no_yes (D : PatsD) (P : PatsP) (ok : PatsOk D P) (E : PatsD) (U : PatsP) (oke : PatsOk E U) (s : ByteArray) (hs : s.size ≤ 60) (w : World) (sn : SeenPats w D P) (se : SeenPats w E U) (hf : fewD D = true) (hg : fewD E = true) (hn : D.l.length ≤ 140) (hm : E.l.length ≤ 140)
    (hp : D.l.all (fun y => patB (tn y)) = false) (hq : E.l.all (fun y => patB (tn y)) = true) : Calls Try.prog 9 #[patsV D P, patsV E U, .string s] w (Ret w (.bool true)) := by
  obtain ⟨f1, f2, f3⟩ := few_len hf
  obtain ⟨g1, g2, g3⟩ := few_len hg
  obtain ⟨V, hV⟩ : ∃ V, V = (w.alloc (.cells #[.slice P.x D.l.length P.c, .slice P.y D.m.length P.d] 37)).alloc (.cells #[.slice U.x E.l.length U.c, .slice U.y E.m.length U.d] 37) := ⟨_, rfl⟩
  have W0 : Ext w V := by rw [hV]; exact ((Ext.refl _).alloc _).alloc _
  have kB : Blk V w.heap.size 37 [.slice P.x D.l.length P.c, .slice P.y D.m.length P.d] := by rw [hV]; exact (Blk.lit w _ _ _ rfl).ext ((Ext.refl _).alloc _)
  have kE : Blk V (w.heap.size + 1) 37 [.slice U.x E.l.length U.c, .slice U.y E.m.length U.d] := by rw [hV]; exact Blk.lit _ _ _ _ (by simp)
  have FEW := Lib.hid (fun w' (x : Ext V w') => by have := fewp_any D P w' ((sn.ext W0).ext x); rw [hf] at this; exact this)
  have FEU := Lib.hid (fun w' (x : Ext V w') => by have := fewp_any E U w' ((se.ext W0).ext x); rw [hg] at this; exact this)
  have AW := Lib.hid (awake_any V)
  have SL := Lib.hid (sn.ext W0).l
  have SM := Lib.hid (se.ext W0).l
  have OKL := Lib.hid ok.li
  have OKM := Lib.hid oke.li
  have HP := Lib.hid hp
  have HQ := Lib.hid hq
  have HX := Lib.hid W0
  unfold patsV at FEW FEU ⊢
  obtain ⟨l, ld⟩ := D
  obtain ⟨A, c, Ad, cd⟩ := P
  obtain ⟨m, md⟩ := E
  obtain ⟨A2, c2, Ae, ce⟩ := U
  dsimp only at FEW FEU SL SM OKL OKM HP HQ kB kE hV hn hm ⊢
  obtain ⟨n, hnl⟩ : ∃ n, n = l.length := ⟨_, rfl⟩
  have HN := Lib.hid hnl
  obtain ⟨k, hkl⟩ : ∃ k, k = m.length := ⟨_, rfl⟩
  have HM := Lib.hid hkl
  rw [← hnl] at FEW kB hV hn ⊢
  rw [← hkl] at FEU kE hm hV ⊢
  clear sn se ok oke hf hg hp hq f1 f2 f3 g1 g2 g3 hnl hkl W0
  generalize ld.length = zl at *
  generalize md.length = zm at *
  go_enter Try.func9, Try.ntmps9
  go_upto_region 1 with (fail)
  rw [← hV]
  clear hV
  generalize w.heap.size = R at *
  go_wp2_with fail
  refine AW.out.mono ?_; rintro e w1 ⟨rfl, x1⟩
  have q0 : w1.cell? ⟨R, 0, none⟩ = some (.slice A n c) := (kB.ext x1).cell 0
  have q1 : w1.cell? ⟨R, 1, none⟩ = some (.slice Ad zl cd) := (kB.ext x1).cell 1
  have r0 : w1.cell? ⟨R + 1, 0, none⟩ = some (.slice A2 k c2) := (kE.ext x1).cell 0
  have r1 : w1.cell? ⟨R + 1, 1, none⟩ = some (.slice Ae zm ce) := (kE.ext x1).cell 1
  have X1 := Lib.hid x1
  clear x1 AW kB kE
  go_wp2_with fail
  refine (FEW.out _ X1.out).mono ?_; rintro e w2 ⟨rfl, x2⟩
  have q0 := x2.at q0
  have r0 := x2.at r0
  have r1 := x2.at r1
  have X2 := Lib.hid (X1.out.trans x2)
  clear x2 X1 FEW q1
  go_wp2_with fail
  refine (FEU.out _ X2.out).mono ?_; rintro e w3 ⟨rfl, x3⟩
  have q0 := x3.at q0
  have r0 := x3.at r0
  have X3 := Lib.hid (X2.out.trans x3)
  clear x3 X2 FEU r1
  have N1 := Lib.hid (new_list_no c (SL.out.ext X3.out) HN.out OKL.out (by have := HN.out; omega) HP.out)
  go_wp2_with fail
  refine N1.out.mono ?_; rintro e w4 ⟨rfl, x4⟩
  have X4 := Lib.hid (X3.out.trans x4)
  have q0 := x4.at q0
  have r0 := x4.at r0
  clear x4 N1
  have N2 := Lib.hid (new_list_yes c2 (SM.out.ext X4.out) HM.out OKM.out (by have := HM.out; omega) HQ.out)
  go_wp2_with fail
  refine N2.out.mono ?_; rintro e w5 ⟨B2, F2, rfl, x5, T2, hB2, hF2⟩
  have X5 := Lib.hid (X4.out.trans x5)
  have q0 := x5.at q0
  have r0 := x5.at r0
  clear x5 N2
  obtain ⟨A8, n8, c8, w8, A9, n9, c9, w9, hr1, hr2, hn9, ho9, y1, y2, y3⟩ := more_list w5.drew A A2 l m n k c c2 (SL.out.ext (X5.out.trans ((Ext.refl _).drew))) (SM.out.ext (X5.out.trans ((Ext.refl _).drew))) HN.out HM.out hn hm 34 34
  have okU := Lib.hid (show ∀ y ∈ l ++ m, y.Ok from fun y hy => (List.mem_append.1 hy).elim (OKL.out y) (OKM.out y))
  have hs9 : ∀ y ∈ l ++ m, SeenL w9 y.A y.ns := fun y hy => ((List.mem_append.1 hy).elim (SeenW.nums SL.out y) (SeenW.nums SM.out y)).ext ((X5.out.trans ((Ext.refl _).drew)).trans y3)
  have NU := Lib.hid (new_list_no c9 (own_seenP rfl ho9 hs9) hn9 okU.out (by have := HN.out; have := HM.out; rw [List.length_append]; omega) (by rw [List.all_append, HP.out, HQ.out]; rfl))
  clear ho9 hs9 hn9
  have S0 := Lib.hid (show ∀ w', Ext w5.drew w' → w'.cell? ⟨R, 0, none⟩ = some (.slice A n c) ∧ w'.cell? ⟨R + 1, 0, none⟩ = some (.slice A2 k c2) from fun w' x => ⟨x.at q0, x.at r0⟩)
  have hd := ((Ext.refl w5).drew)
  have HDR := Lib.hid hd
  clear hd
  go_upto_region 6 with (fail)
  refine wp_region_noPanic ?_
  refine wp_region_held_drew (S := (fun w' => w'.cell? ⟨R, 0, none⟩ = some (.slice A n c) ∧ w'.cell? ⟨R + 1, 0, none⟩ = some (.slice A2 k c2))) (by kernel_rfl) (S0.out _ (Ext.refl _)) (fun h0 => ?_)
  have X5 := Lib.hid (X5.out.trans HDR.out)
  generalize w5.drew = W5 at *
  refine wpAnyH_take (i := 1) (oi := ?_) (v := ?_) ?_ (by kernel_rfl) (by kernel_rfl) (by kernel_rfl) ?_ ?_ h0 ?_
  rotate_left 2
  · simp only [List.getElem?_toArray, List.getElem?_cons_zero, List.getElem?_cons_succ]; rfl
  · exact fun _ _ _ h => h
  · refine Or.inl ⟨by rfl, ?_⟩
    intro w hSw
    (try dsimp only at hSw)
    go_simp
    (try with_reducible rfl)
  (try simp only [Act.put, List.setIfInBounds_toArray, List.set_cons_zero, List.set_cons_succ])
  refine wpAnyH_take (i := 2) (oi := ?_) (v := ?_) ?_ (by kernel_rfl) (by kernel_rfl) (by kernel_rfl) ?_ ?_ h0 ?_
  rotate_left 2
  · simp only [List.getElem?_toArray, List.getElem?_cons_zero, List.getElem?_cons_succ]; rfl
  · exact fun _ _ _ h => h
  · refine Or.inl ⟨by rfl, ?_⟩
    intro w hSw
    (try dsimp only at hSw)
    go_simp
    (try with_reducible rfl)
  (try simp only [Act.put, List.setIfInBounds_toArray, List.set_cons_zero, List.set_cons_succ])
  refine wpAnyH_take (i := 4) (oi := ?_) (v := ?_) ?_ (by kernel_rfl) (by kernel_rfl) (by kernel_rfl) ?_ ?_ h0 ?_
  rotate_left 2
  · simp only [List.getElem?_toArray, List.getElem?_cons_zero, List.getElem?_cons_succ]; rfl
  · exact fun _ _ _ h => h
  · refine Or.inl ⟨by rfl, ?_⟩
    intro w hSw
    (try dsimp only at hSw)
    go_simp
    (try with_reducible rfl)
  (try simp only [Act.put, List.setIfInBounds_toArray, List.set_cons_zero, List.set_cons_succ])
  refine wpAnyH_take (i := 5) (oi := ?_) (v := ?_) ?_ (by kernel_rfl) (by kernel_rfl) (by kernel_rfl) ?_ ?_ h0 ?_
  rotate_left 2
  · simp only [List.getElem?_toArray, List.getElem?_cons_zero, List.getElem?_cons_succ]; rfl
  · exact fun _ _ _ h => h
  · refine Or.inl ⟨by rfl, ?_⟩
    intro w hSw
    (try dsimp only at hSw)
    go_simp
    (try with_reducible rfl)
  (try simp only [Act.put, List.setIfInBounds_toArray, List.set_cons_zero, List.set_cons_succ])
  refine wpAnyH_ready (rs := [0]) (by kernel_rfl) (by simp) ?_
  refine AllReadyH.cons (o := ?_) ?_ (fun K hK => ?_) AllReadyH.nil
  rotate_left
  · simp only [List.getElem?_toArray, List.getElem?_cons_zero]; rfl
  go_simp
  refine hK.out _ _ (S0.out _ y1) (fun h1 => ?_)
  clear hK K
  (try simp only [Act.put, List.setIfInBounds_toArray, List.set_cons_zero, List.set_cons_succ])
  refine wpAnyH_ready (rs := [3]) (by kernel_rfl) (by simp) ?_
  refine AllReadyH.cons (o := ?_) ?_ (fun K hK => ?_) AllReadyH.nil
  rotate_left
  · simp only [List.getElem?_toArray, List.getElem?_cons_zero, List.getElem?_cons_succ]; rfl
  refine step_app11 (.tmp 60) (.tmp 62) rfl (by kernel_rfl) hr1 ?_
  refine hK.out _ _ (S0.out _ y2) (fun h2 => ?_)
  clear hK K
  (try simp only [Act.put, List.setIfInBounds_toArray, List.set_cons_zero, List.set_cons_succ])
  refine wpAnyH_ready (rs := [6]) (by kernel_rfl) (by simp) ?_
  refine AllReadyH.cons (o := ?_) ?_ (fun K hK => ?_) AllReadyH.nil
  rotate_left
  · simp only [List.getElem?_toArray, List.getElem?_cons_zero, List.getElem?_cons_succ]; rfl
  refine step_app11 (.tmp 63) (.tmp 65) rfl (by kernel_rfl) hr2 ?_
  refine hK.out _ _ (S0.out _ y3) (fun h3 => ?_)
  clear hK K
  (try simp only [Act.put, List.setIfInBounds_toArray, List.set_cons_zero, List.set_cons_succ])
  refine wpAnyH_take (i := 7) (oi := ?_) (v := ?_) ?_ (by kernel_rfl) (by kernel_rfl) (by kernel_rfl) ?_ ?_ h3 ?_
  rotate_left 2
  · simp only [List.getElem?_toArray, List.getElem?_cons_zero, List.getElem?_cons_succ]; rfl
  · exact fun _ _ _ h => h
  · refine Or.inl ⟨by rfl, ?_⟩
    intro w hSw
    (try dsimp only at hSw)
    go_simp
    (try with_reducible rfl)
  (try simp only [Act.put, List.setIfInBounds_toArray, List.set_cons_zero, List.set_cons_succ])
  refine wpAnyH_ready (rs := [8]) (by kernel_rfl) (by simp) ?_
  refine AllReadyH.cons (o := ?_) ?_ (fun K hK => ?_) AllReadyH.nil
  rotate_left
  · simp only [List.getElem?_toArray, List.getElem?_cons_zero, List.getElem?_cons_succ]; rfl
  go_simp
  refine NU.out.mono ?_; rintro e w6 ⟨rfl, x6⟩
  have y4 := y3.trans x6
  refine hK.out _ _ (S0.out _ y4) (fun h4 => ?_)
  clear hK K
  (try simp only [Act.put, List.setIfInBounds_toArray, List.set_cons_zero, List.set_cons_succ])
  refine wpAnyH_take (i := 9) (oi := ?_) (v := ?_) ?_ (by kernel_rfl) (by kernel_rfl) (by kernel_rfl) ?_ ?_ h4 ?_
  rotate_left 2
  · simp only [List.getElem?_toArray, List.getElem?_cons_zero, List.getElem?_cons_succ]; rfl
  · exact fun _ _ _ h => h
  · refine Or.inl ⟨by rfl, ?_⟩
    intro w hSw
    (try dsimp only at hSw)
    go_simp
    (try with_reducible rfl)
  (try simp only [Act.put, List.setIfInBounds_toArray, List.set_cons_zero, List.set_cons_succ])
  refine wpAnyH_take (i := 10) (oi := ?_) (v := ?_) ?_ (by kernel_rfl) (by kernel_rfl) (by kernel_rfl) ?_ ?_ h4 ?_
  rotate_left 2
  · simp only [List.getElem?_toArray, List.getElem?_cons_zero, List.getElem?_cons_succ]; rfl
  · exact fun _ _ _ h => h
  · refine Or.inl ⟨by rfl, ?_⟩
    intro w hSw
    (try dsimp only at hSw)
    go_simp
    (try with_reducible rfl)
  (try simp only [Act.put, List.setIfInBounds_toArray, List.set_cons_zero, List.set_cons_succ])
  refine wpAnyH_take (i := 11) (oi := ?_) (v := ?_) ?_ (by kernel_rfl) (by kernel_rfl) (by kernel_rfl) ?_ ?_ h4 ?_
  rotate_left 2
  · simp only [List.getElem?_toArray, List.getElem?_cons_zero, List.getElem?_cons_succ]; rfl
  · exact fun _ _ _ h => h
  · refine Or.inl ⟨by rfl, ?_⟩
    intro w hSw
    (try dsimp only at hSw)
    go_simp
    (try with_reducible rfl)
  (try simp only [Act.put, List.setIfInBounds_toArray, List.set_cons_zero, List.set_cons_succ])
  refine wpAnyH_take (i := 12) (oi := ?_) (v := ?_) ?_ (by kernel_rfl) (by kernel_rfl) (by kernel_rfl) ?_ ?_ h4 ?_
  rotate_left 2
  · simp only [List.getElem?_toArray, List.getElem?_cons_zero, List.getElem?_cons_succ]; rfl
  · exact fun _ _ _ h => h
  · refine Or.inl ⟨by rfl, ?_⟩
    intro w hSw
    (try dsimp only at hSw)
    go_simp
    (try with_reducible rfl)
  (try simp only [Act.put, List.setIfInBounds_toArray, List.set_cons_zero, List.set_cons_succ])
  refine wpAnyH_take (i := 13) (oi := ?_) (v := ?_) ?_ (by kernel_rfl) (by kernel_rfl) (by kernel_rfl) ?_ ?_ h4 ?_
  rotate_left 2
  · simp only [List.getElem?_toArray, List.getElem?_cons_zero, List.getElem?_cons_succ]; rfl
  · exact fun _ _ _ h => h
  · refine Or.inl ⟨by rfl, ?_⟩
    intro w hSw
    (try dsimp only at hSw)
    go_simp
    (try with_reducible rfl)
  (try simp only [Act.put, List.setIfInBounds_toArray, List.set_cons_zero, List.set_cons_succ])
  refine wpAnyH_done (by kernel_rfl) ?_ _
  refine NoPanic.normal ?_
  clear h0 h1 h2 h3 h4 hr1 hr2
  have X6 := Lib.hid (HX.out.trans (X5.out.trans y4))
  clear NU x6 y1 y2 y3 y4
  go_wp2_with fail
  go_ret
  exact ⟨rfl, X6.out⟩

set_option maxRecDepth 100000 in
set_option maxHeartbeats 16000000 in
theorem yes_no (D : PatsD) (P : PatsP) (ok : PatsOk D P) (E : PatsD) (U : PatsP) (oke : PatsOk E U) (s : ByteArray) (hs : s.size ≤ 60) (w : World) (sn : SeenPats w D P) (se : SeenPats w E U) (hf : fewD D = true) (hg : fewD E = true) (hn : D.l.length ≤ 140) (hm : E.l.length ≤ 140)
    (hp : D.l.all (fun y => patB (tn y)) = true) (hq : E.l.all (fun y => patB (tn y)) = false) : Calls Try.prog 9 #[patsV D P, patsV E U, .string s] w (Ret w (.bool true)) := by
  obtain ⟨f1, f2, f3⟩ := few_len hf
  obtain ⟨g1, g2, g3⟩ := few_len hg
  obtain ⟨V, hV⟩ : ∃ V, V = (w.alloc (.cells #[.slice P.x D.l.length P.c, .slice P.y D.m.length P.d] 37)).alloc (.cells #[.slice U.x E.l.length U.c, .slice U.y E.m.length U.d] 37) := ⟨_, rfl⟩
  have W0 : Ext w V := by rw [hV]; exact ((Ext.refl _).alloc _).alloc _
  have kB : Blk V w.heap.size 37 [.slice P.x D.l.length P.c, .slice P.y D.m.length P.d] := by rw [hV]; exact (Blk.lit w _ _ _ rfl).ext ((Ext.refl _).alloc _)
  have kE : Blk V (w.heap.size + 1) 37 [.slice U.x E.l.length U.c, .slice U.y E.m.length U.d] := by rw [hV]; exact Blk.lit _ _ _ _ (by simp)
  have FEW := Lib.hid (fun w' (x : Ext V w') => by have := fewp_any D P w' ((sn.ext W0).ext x); rw [hf] at this; exact this)
  have FEU := Lib.hid (fun w' (x : Ext V w') => by have := fewp_any E U w' ((se.ext W0).ext x); rw [hg] at this; exact this)
  have AW := Lib.hid (awake_any V)
  have SL := Lib.hid (sn.ext W0).l
  have SM := Lib.hid (se.ext W0).l
  have OKL := Lib.hid ok.li
  have OKM := Lib.hid oke.li
  have HP := Lib.hid hp
  have HQ := Lib.hid hq
  have HX := Lib.hid W0
  unfold patsV at FEW FEU ⊢
  obtain ⟨l, ld⟩ := D
  obtain ⟨A, c, Ad, cd⟩ := P
  obtain ⟨m, md⟩ := E
  obtain ⟨A2, c2, Ae, ce⟩ := U
  dsimp only at FEW FEU SL SM OKL OKM HP HQ kB kE hV hn hm ⊢
  obtain ⟨n, hnl⟩ : ∃ n, n = l.length := ⟨_, rfl⟩
  have HN := Lib.hid hnl
  obtain ⟨k, hkl⟩ : ∃ k, k = m.length := ⟨_, rfl⟩
  have HM := Lib.hid hkl
  rw [← hnl] at FEW kB hV hn ⊢
  rw [← hkl] at FEU kE hm hV ⊢
  clear sn se ok oke hf hg hp hq f1 f2 f3 g1 g2 g3 hnl hkl W0
  generalize ld.length = zl at *
  generalize md.length = zm at *
  go_enter Try.func9, Try.ntmps9
  go_upto_region 1 with (fail)
  rw [← hV]
  clear hV
  generalize w.heap.size = R at *
  go_wp2_with fail
  refine AW.out.mono ?_; rintro e w1 ⟨rfl, x1⟩
  have q0 : w1.cell? ⟨R, 0, none⟩ = some (.slice A n c) := (kB.ext x1).cell 0
  have q1 : w1.cell? ⟨R, 1, none⟩ = some (.slice Ad zl cd) := (kB.ext x1).cell 1
  have r0 : w1.cell? ⟨R + 1, 0, none⟩ = some (.slice A2 k c2) := (kE.ext x1).cell 0
  have r1 : w1.cell? ⟨R + 1, 1, none⟩ = some (.slice Ae zm ce) := (kE.ext x1).cell 1
  have X1 := Lib.hid x1
  clear x1 AW kB kE
  go_wp2_with fail
  refine (FEW.out _ X1.out).mono ?_; rintro e w2 ⟨rfl, x2⟩
  have q0 := x2.at q0
  have r0 := x2.at r0
  have r1 := x2.at r1
  have X2 := Lib.hid (X1.out.trans x2)
  clear x2 X1 FEW q1
  go_wp2_with fail
  refine (FEU.out _ X2.out).mono ?_; rintro e w3 ⟨rfl, x3⟩
  have q0 := x3.at q0
  have r0 := x3.at r0
  have X3 := Lib.hid (X2.out.trans x3)
  clear x3 X2 FEU r1
  have N1 := Lib.hid (new_list_yes c (SL.out.ext X3.out) HN.out OKL.out (by have := HN.out; omega) HP.out)
  go_wp2_with fail
  refine N1.out.mono ?_; rintro e w4 ⟨B1, F1, rfl, x4, T1, hB1, hF1⟩
  have X4 := Lib.hid (X3.out.trans x4)
  have q0 := x4.at q0
  have r0 := x4.at r0
  clear x4 N1
  have N2 := Lib.hid (new_list_no c2 (SM.out.ext X4.out) HM.out OKM.out (by have := HM.out; omega) HQ.out)
  go_wp2_with fail
  refine N2.out.mono ?_; rintro e w5 ⟨rfl, x5⟩
  have X5 := Lib.hid (X4.out.trans x5)
  have q0 := x5.at q0
  have r0 := x5.at r0
  clear x5 N2
  obtain ⟨A8, n8, c8, w8, A9, n9, c9, w9, hr1, hr2, hn9, ho9, y1, y2, y3⟩ := more_list w5.drew A A2 l m n k c c2 (SL.out.ext (X5.out.trans ((Ext.refl _).drew))) (SM.out.ext (X5.out.trans ((Ext.refl _).drew))) HN.out HM.out hn hm 34 34
  have okU := Lib.hid (show ∀ y ∈ l ++ m, y.Ok from fun y hy => (List.mem_append.1 hy).elim (OKL.out y) (OKM.out y))
  have hs9 : ∀ y ∈ l ++ m, SeenL w9 y.A y.ns := fun y hy => ((List.mem_append.1 hy).elim (SeenW.nums SL.out y) (SeenW.nums SM.out y)).ext ((X5.out.trans ((Ext.refl _).drew)).trans y3)
  have NU := Lib.hid (new_list_no c9 (own_seenP rfl ho9 hs9) hn9 okU.out (by have := HN.out; have := HM.out; rw [List.length_append]; omega) (by rw [List.all_append, HP.out, HQ.out]; rfl))
  clear ho9 hs9 hn9
  have S0 := Lib.hid (show ∀ w', Ext w5.drew w' → w'.cell? ⟨R, 0, none⟩ = some (.slice A n c) ∧ w'.cell? ⟨R + 1, 0, none⟩ = some (.slice A2 k c2) from fun w' x => ⟨x.at q0, x.at r0⟩)
  have hd := ((Ext.refl w5).drew)
  have HDR := Lib.hid hd
  clear hd
  go_upto_region 6 with (fail)
  refine wp_region_noPanic ?_
  refine wp_region_held_drew (S := (fun w' => w'.cell? ⟨R, 0, none⟩ = some (.slice A n c) ∧ w'.cell? ⟨R + 1, 0, none⟩ = some (.slice A2 k c2))) (by kernel_rfl) (S0.out _ (Ext.refl _)) (fun h0 => ?_)
  have X5 := Lib.hid (X5.out.trans HDR.out)
  generalize w5.drew = W5 at *
  refine wpAnyH_take (i := 1) (oi := ?_) (v := ?_) ?_ (by kernel_rfl) (by kernel_rfl) (by kernel_rfl) ?_ ?_ h0 ?_
  rotate_left 2
  · simp only [List.getElem?_toArray, List.getElem?_cons_zero, List.getElem?_cons_succ]; rfl
  · exact fun _ _ _ h => h
  · refine Or.inl ⟨by rfl, ?_⟩
    intro w hSw
    (try dsimp only at hSw)
    go_simp
    (try with_reducible rfl)
  (try simp only [Act.put, List.setIfInBounds_toArray, List.set_cons_zero, List.set_cons_succ])
  refine wpAnyH_take (i := 2) (oi := ?_) (v := ?_) ?_ (by kernel_rfl) (by kernel_rfl) (by kernel_rfl) ?_ ?_ h0 ?_
  rotate_left 2
  · simp only [List.getElem?_toArray, List.getElem?_cons_zero, List.getElem?_cons_succ]; rfl
  · exact fun _ _ _ h => h
  · refine Or.inl ⟨by rfl, ?_⟩
    intro w hSw
    (try dsimp only at hSw)
    go_simp
    (try with_reducible rfl)
  (try simp only [Act.put, List.setIfInBounds_toArray, List.set_cons_zero, List.set_cons_succ])
  refine wpAnyH_take (i := 4) (oi := ?_) (v := ?_) ?_ (by kernel_rfl) (by kernel_rfl) (by kernel_rfl) ?_ ?_ h0 ?_
  rotate_left 2
  · simp only [List.getElem?_toArray, List.getElem?_cons_zero, List.getElem?_cons_succ]; rfl
  · exact fun _ _ _ h => h
  · refine Or.inl ⟨by rfl, ?_⟩
    intro w hSw
    (try dsimp only at hSw)
    go_simp
    (try with_reducible rfl)
  (try simp only [Act.put, List.setIfInBounds_toArray, List.set_cons_zero, List.set_cons_succ])
  refine wpAnyH_take (i := 5) (oi := ?_) (v := ?_) ?_ (by kernel_rfl) (by kernel_rfl) (by kernel_rfl) ?_ ?_ h0 ?_
  rotate_left 2
  · simp only [List.getElem?_toArray, List.getElem?_cons_zero, List.getElem?_cons_succ]; rfl
  · exact fun _ _ _ h => h
  · refine Or.inl ⟨by rfl, ?_⟩
    intro w hSw
    (try dsimp only at hSw)
    go_simp
    (try with_reducible rfl)
  (try simp only [Act.put, List.setIfInBounds_toArray, List.set_cons_zero, List.set_cons_succ])
  refine wpAnyH_ready (rs := [0]) (by kernel_rfl) (by simp) ?_
  refine AllReadyH.cons (o := ?_) ?_ (fun K hK => ?_) AllReadyH.nil
  rotate_left
  · simp only [List.getElem?_toArray, List.getElem?_cons_zero]; rfl
  go_simp
  refine hK.out _ _ (S0.out _ y1) (fun h1 => ?_)
  clear hK K
  (try simp only [Act.put, List.setIfInBounds_toArray, List.set_cons_zero, List.set_cons_succ])
  refine wpAnyH_ready (rs := [3]) (by kernel_rfl) (by simp) ?_
  refine AllReadyH.cons (o := ?_) ?_ (fun K hK => ?_) AllReadyH.nil
  rotate_left
  · simp only [List.getElem?_toArray, List.getElem?_cons_zero, List.getElem?_cons_succ]; rfl
  refine step_app11 (.tmp 60) (.tmp 62) rfl (by kernel_rfl) hr1 ?_
  refine hK.out _ _ (S0.out _ y2) (fun h2 => ?_)
  clear hK K
  (try simp only [Act.put, List.setIfInBounds_toArray, List.set_cons_zero, List.set_cons_succ])
  refine wpAnyH_ready (rs := [6]) (by kernel_rfl) (by simp) ?_
  refine AllReadyH.cons (o := ?_) ?_ (fun K hK => ?_) AllReadyH.nil
  rotate_left
  · simp only [List.getElem?_toArray, List.getElem?_cons_zero, List.getElem?_cons_succ]; rfl
  refine step_app11 (.tmp 63) (.tmp 65) rfl (by kernel_rfl) hr2 ?_
  refine hK.out _ _ (S0.out _ y3) (fun h3 => ?_)
  clear hK K
  (try simp only [Act.put, List.setIfInBounds_toArray, List.set_cons_zero, List.set_cons_succ])
  refine wpAnyH_take (i := 7) (oi := ?_) (v := ?_) ?_ (by kernel_rfl) (by kernel_rfl) (by kernel_rfl) ?_ ?_ h3 ?_
  rotate_left 2
  · simp only [List.getElem?_toArray, List.getElem?_cons_zero, List.getElem?_cons_succ]; rfl
  · exact fun _ _ _ h => h
  · refine Or.inl ⟨by rfl, ?_⟩
    intro w hSw
    (try dsimp only at hSw)
    go_simp
    (try with_reducible rfl)
  (try simp only [Act.put, List.setIfInBounds_toArray, List.set_cons_zero, List.set_cons_succ])
  refine wpAnyH_ready (rs := [8]) (by kernel_rfl) (by simp) ?_
  refine AllReadyH.cons (o := ?_) ?_ (fun K hK => ?_) AllReadyH.nil
  rotate_left
  · simp only [List.getElem?_toArray, List.getElem?_cons_zero, List.getElem?_cons_succ]; rfl
  go_simp
  refine NU.out.mono ?_; rintro e w6 ⟨rfl, x6⟩
  have y4 := y3.trans x6
  refine hK.out _ _ (S0.out _ y4) (fun h4 => ?_)
  clear hK K
  (try simp only [Act.put, List.setIfInBounds_toArray, List.set_cons_zero, List.set_cons_succ])
  refine wpAnyH_take (i := 9) (oi := ?_) (v := ?_) ?_ (by kernel_rfl) (by kernel_rfl) (by kernel_rfl) ?_ ?_ h4 ?_
  rotate_left 2
  · simp only [List.getElem?_toArray, List.getElem?_cons_zero, List.getElem?_cons_succ]; rfl
  · exact fun _ _ _ h => h
  · refine Or.inl ⟨by rfl, ?_⟩
    intro w hSw
    (try dsimp only at hSw)
    go_simp
    (try with_reducible rfl)
  (try simp only [Act.put, List.setIfInBounds_toArray, List.set_cons_zero, List.set_cons_succ])
  refine wpAnyH_take (i := 10) (oi := ?_) (v := ?_) ?_ (by kernel_rfl) (by kernel_rfl) (by kernel_rfl) ?_ ?_ h4 ?_
  rotate_left 2
  · simp only [List.getElem?_toArray, List.getElem?_cons_zero, List.getElem?_cons_succ]; rfl
  · exact fun _ _ _ h => h
  · refine Or.inl ⟨by rfl, ?_⟩
    intro w hSw
    (try dsimp only at hSw)
    go_simp
    (try with_reducible rfl)
  (try simp only [Act.put, List.setIfInBounds_toArray, List.set_cons_zero, List.set_cons_succ])
  refine wpAnyH_take (i := 11) (oi := ?_) (v := ?_) ?_ (by kernel_rfl) (by kernel_rfl) (by kernel_rfl) ?_ ?_ h4 ?_
  rotate_left 2
  · simp only [List.getElem?_toArray, List.getElem?_cons_zero, List.getElem?_cons_succ]; rfl
  · exact fun _ _ _ h => h
  · refine Or.inl ⟨by rfl, ?_⟩
    intro w hSw
    (try dsimp only at hSw)
    go_simp
    (try with_reducible rfl)
  (try simp only [Act.put, List.setIfInBounds_toArray, List.set_cons_zero, List.set_cons_succ])
  refine wpAnyH_take (i := 12) (oi := ?_) (v := ?_) ?_ (by kernel_rfl) (by kernel_rfl) (by kernel_rfl) ?_ ?_ h4 ?_
  rotate_left 2
  · simp only [List.getElem?_toArray, List.getElem?_cons_zero, List.getElem?_cons_succ]; rfl
  · exact fun _ _ _ h => h
  · refine Or.inl ⟨by rfl, ?_⟩
    intro w hSw
    (try dsimp only at hSw)
    go_simp
    (try with_reducible rfl)
  (try simp only [Act.put, List.setIfInBounds_toArray, List.set_cons_zero, List.set_cons_succ])
  refine wpAnyH_take (i := 13) (oi := ?_) (v := ?_) ?_ (by kernel_rfl) (by kernel_rfl) (by kernel_rfl) ?_ ?_ h4 ?_
  rotate_left 2
  · simp only [List.getElem?_toArray, List.getElem?_cons_zero, List.getElem?_cons_succ]; rfl
  · exact fun _ _ _ h => h
  · refine Or.inl ⟨by rfl, ?_⟩
    intro w hSw
    (try dsimp only at hSw)
    go_simp
    (try with_reducible rfl)
  (try simp only [Act.put, List.setIfInBounds_toArray, List.set_cons_zero, List.set_cons_succ])
  refine wpAnyH_done (by kernel_rfl) ?_ _
  refine NoPanic.normal ?_
  clear h0 h1 h2 h3 h4 hr1 hr2
  have X6 := Lib.hid (HX.out.trans (X5.out.trans y4))
  clear NU x6 y1 y2 y3 y4
  go_wp2_with fail
  go_ret
  exact ⟨rfl, X6.out⟩

set_option maxRecDepth 100000 in
set_option maxHeartbeats 16000000 in
theorem main (D : PatsD) (P : PatsP) (ok : PatsOk D P) (E : PatsD) (U : PatsP) (oke : PatsOk E U) (s : ByteArray) (hs : s.size ≤ 60) (w : World) (sn : SeenPats w D P) (se : SeenPats w E U) (hf : fewD D = true) (hg : fewD E = true) (hn : D.l.length ≤ 140) (hm : E.l.length ≤ 140)
    (hp : D.l.all (fun y => patB (tn y)) = true) (hq : E.l.all (fun y => patB (tn y)) = true) : Calls Try.prog 9 #[patsV D P, patsV E U, .string s] w (Ret w (.bool true)) := by
  obtain ⟨f1, f2, f3⟩ := few_len hf
  obtain ⟨g1, g2, g3⟩ := few_len hg
  obtain ⟨V, hV⟩ : ∃ V, V = (w.alloc (.cells #[.slice P.x D.l.length P.c, .slice P.y D.m.length P.d] 37)).alloc (.cells #[.slice U.x E.l.length U.c, .slice U.y E.m.length U.d] 37) := ⟨_, rfl⟩
  have W0 : Ext w V := by rw [hV]; exact ((Ext.refl _).alloc _).alloc _
  have kB : Blk V w.heap.size 37 [.slice P.x D.l.length P.c, .slice P.y D.m.length P.d] := by rw [hV]; exact (Blk.lit w _ _ _ rfl).ext ((Ext.refl _).alloc _)
  have kE : Blk V (w.heap.size + 1) 37 [.slice U.x E.l.length U.c, .slice U.y E.m.length U.d] := by rw [hV]; exact Blk.lit _ _ _ _ (by simp)
  have FEW := Lib.hid (fun w' (x : Ext V w') => by have := fewp_any D P w' ((sn.ext W0).ext x); rw [hf] at this; exact this)
  have FEU := Lib.hid (fun w' (x : Ext V w') => by have := fewp_any E U w' ((se.ext W0).ext x); rw [hg] at this; exact this)
  have AW := Lib.hid (awake_any V)
  have SL := Lib.hid (sn.ext W0).l
  have SM := Lib.hid (se.ext W0).l
  have OKL := Lib.hid ok.li
  have OKM := Lib.hid oke.li
  have HP := Lib.hid hp
  have HQ := Lib.hid hq
  have HX := Lib.hid W0
  unfold patsV at FEW FEU ⊢
  obtain ⟨l, ld⟩ := D
  obtain ⟨A, c, Ad, cd⟩ := P
  obtain ⟨m, md⟩ := E
  obtain ⟨A2, c2, Ae, ce⟩ := U
  dsimp only at FEW FEU SL SM OKL OKM HP HQ kB kE hV hn hm ⊢
  obtain ⟨n, hnl⟩ : ∃ n, n = l.length := ⟨_, rfl⟩
  have HN := Lib.hid hnl
  obtain ⟨k, hkl⟩ : ∃ k, k = m.length := ⟨_, rfl⟩
  have HM := Lib.hid hkl
  rw [← hnl] at FEW kB hV hn ⊢
  rw [← hkl] at FEU kE hm hV ⊢
  clear sn se ok oke hf hg hp hq f1 f2 f3 g1 g2 g3 hnl hkl W0
  generalize ld.length = zl at *
  generalize md.length = zm at *
  go_enter Try.func9, Try.ntmps9
  go_upto_region 1 with (fail)
  rw [← hV]
  clear hV
  generalize w.heap.size = R at *
  go_wp2_with fail
  refine AW.out.mono ?_; rintro e w1 ⟨rfl, x1⟩
  have q0 : w1.cell? ⟨R, 0, none⟩ = some (.slice A n c) := (kB.ext x1).cell 0
  have q1 : w1.cell? ⟨R, 1, none⟩ = some (.slice Ad zl cd) := (kB.ext x1).cell 1
  have r0 : w1.cell? ⟨R + 1, 0, none⟩ = some (.slice A2 k c2) := (kE.ext x1).cell 0
  have r1 : w1.cell? ⟨R + 1, 1, none⟩ = some (.slice Ae zm ce) := (kE.ext x1).cell 1
  have X1 := Lib.hid x1
  clear x1 AW kB kE
  go_wp2_with fail
  refine (FEW.out _ X1.out).mono ?_; rintro e w2 ⟨rfl, x2⟩
  have q0 := x2.at q0
  have r0 := x2.at r0
  have r1 := x2.at r1
  have X2 := Lib.hid (X1.out.trans x2)
  clear x2 X1 FEW q1
  go_wp2_with fail
  refine (FEU.out _ X2.out).mono ?_; rintro e w3 ⟨rfl, x3⟩
  have q0 := x3.at q0
  have r0 := x3.at r0
  have X3 := Lib.hid (X2.out.trans x3)
  clear x3 X2 FEU r1
  have N1 := Lib.hid (new_list_yes c (SL.out.ext X3.out) HN.out OKL.out (by have := HN.out; omega) HP.out)
  go_wp2_with fail
  refine N1.out.mono ?_; rintro e w4 ⟨B1, F1, rfl, x4, T1, hB1, hF1⟩
  have HB1 := Lib.hid (show V.heap.size ≤ B1 from Nat.le_trans X3.out.size hB1)
  have X4 := Lib.hid (X3.out.trans x4)
  have q0 := x4.at q0
  have r0 := x4.at r0
  have T1 := Lib.hid T1
  clear x4 N1 hB1 hF1
  have N2 := Lib.hid (new_list_yes c2 (SM.out.ext X4.out) HM.out OKM.out (by have := HM.out; omega) HQ.out)
  go_wp2_with fail
  refine N2.out.mono ?_; rintro e w5 ⟨B2, F2, rfl, x5, T2, hB2, hF2⟩
  have HB2 := Lib.hid (show V.heap.size ≤ B2 from Nat.le_trans X4.out.size hB2)
  have X5 := Lib.hid (X4.out.trans x5)
  have AP := Lib.hid (Apart.new T1.out hB2 hF2)
  have T15 := Lib.hid (T1.out.ext x5)
  have T2 := Lib.hid T2
  have q0 := x5.at q0
  have r0 := x5.at r0
  clear x5 N2 hB2 hF2 T1
  obtain ⟨A8, n8, c8, w8, A9, n9, c9, w9, hr1, hr2, hn9, ho9, y1, y2, y3⟩ := more_list w5.drew A A2 l m n k c c2 (SL.out.ext (X5.out.trans ((Ext.refl _).drew))) (SM.out.ext (X5.out.trans ((Ext.refl _).drew))) HN.out HM.out hn hm 34 34
  have okU := Lib.hid (show ∀ y ∈ l ++ m, y.Ok from fun y hy => (List.mem_append.1 hy).elim (OKL.out y) (OKM.out y))
  have hs9 : ∀ y ∈ l ++ m, SeenL w9 y.A y.ns := fun y hy => ((List.mem_append.1 hy).elim (SeenW.nums SL.out y) (SeenW.nums SM.out y)).ext ((X5.out.trans ((Ext.refl _).drew)).trans y3)
  have NU := Lib.hid (new_list_yes c9 (own_seenP rfl ho9 hs9) hn9 okU.out (by have := HN.out; have := HM.out; rw [List.length_append]; omega) (by rw [List.all_append, HP.out, HQ.out]; rfl))
  clear ho9 hs9 hn9
  have S0 := Lib.hid (show ∀ w', Ext w5.drew w' → w'.cell? ⟨R, 0, none⟩ = some (.slice A n c) ∧ w'.cell? ⟨R + 1, 0, none⟩ = some (.slice A2 k c2) from fun w' x => ⟨x.at q0, x.at r0⟩)
  have hd := ((Ext.refl w5).drew)
  have HDR := Lib.hid hd
  clear hd
  go_upto_region 6 with (fail)
  refine wp_region_noPanic ?_
  refine wp_region_held_drew (S := (fun w' => w'.cell? ⟨R, 0, none⟩ = some (.slice A n c) ∧ w'.cell? ⟨R + 1, 0, none⟩ = some (.slice A2 k c2))) (by kernel_rfl) (S0.out _ (Ext.refl _)) (fun h0 => ?_)
  have X5 := Lib.hid (X5.out.trans HDR.out)
  generalize w5.drew = W5 at *
  refine wpAnyH_take (i := 1) (oi := ?_) (v := ?_) ?_ (by kernel_rfl) (by kernel_rfl) (by kernel_rfl) ?_ ?_ h0 ?_
  rotate_left 2
  · simp only [List.getElem?_toArray, List.getElem?_cons_zero, List.getElem?_cons_succ]; rfl
  · exact fun _ _ _ h => h
  · refine Or.inl ⟨by rfl, ?_⟩
    intro w hSw
    (try dsimp only at hSw)
    go_simp
    (try with_reducible rfl)
  (try simp only [Act.put, List.setIfInBounds_toArray, List.set_cons_zero, List.set_cons_succ])
  refine wpAnyH_take (i := 2) (oi := ?_) (v := ?_) ?_ (by kernel_rfl) (by kernel_rfl) (by kernel_rfl) ?_ ?_ h0 ?_
  rotate_left 2
  · simp only [List.getElem?_toArray, List.getElem?_cons_zero, List.getElem?_cons_succ]; rfl
  · exact fun _ _ _ h => h
  · refine Or.inl ⟨by rfl, ?_⟩
    intro w hSw
    (try dsimp only at hSw)
    go_simp
    (try with_reducible rfl)
  (try simp only [Act.put, List.setIfInBounds_toArray, List.set_cons_zero, List.set_cons_succ])
  refine wpAnyH_take (i := 4) (oi := ?_) (v := ?_) ?_ (by kernel_rfl) (by kernel_rfl) (by kernel_rfl) ?_ ?_ h0 ?_
  rotate_left 2
  · simp only [List.getElem?_toArray, List.getElem?_cons_zero, List.getElem?_cons_succ]; rfl
  · exact fun _ _ _ h => h
  · refine Or.inl ⟨by rfl, ?_⟩
    intro w hSw
    (try dsimp only at hSw)
    go_simp
    (try with_reducible rfl)
  (try simp only [Act.put, List.setIfInBounds_toArray, List.set_cons_zero, List.set_cons_succ])
  refine wpAnyH_take (i := 5) (oi := ?_) (v := ?_) ?_ (by kernel_rfl) (by kernel_rfl) (by kernel_rfl) ?_ ?_ h0 ?_
  rotate_left 2
  · simp only [List.getElem?_toArray, List.getElem?_cons_zero, List.getElem?_cons_succ]; rfl
  · exact fun _ _ _ h => h
  · refine Or.inl ⟨by rfl, ?_⟩
    intro w hSw
    (try dsimp only at hSw)
    go_simp
    (try with_reducible rfl)
  (try simp only [Act.put, List.setIfInBounds_toArray, List.set_cons_zero, List.set_cons_succ])
  refine wpAnyH_ready (rs := [0]) (by kernel_rfl) (by simp) ?_
  refine AllReadyH.cons (o := ?_) ?_ (fun K hK => ?_) AllReadyH.nil
  rotate_left
  · simp only [List.getElem?_toArray, List.getElem?_cons_zero]; rfl
  go_simp
  refine hK.out _ _ (S0.out _ y1) (fun h1 => ?_)
  clear hK K
  (try simp only [Act.put, List.setIfInBounds_toArray, List.set_cons_zero, List.set_cons_succ])
  refine wpAnyH_ready (rs := [3]) (by kernel_rfl) (by simp) ?_
  refine AllReadyH.cons (o := ?_) ?_ (fun K hK => ?_) AllReadyH.nil
  rotate_left
  · simp only [List.getElem?_toArray, List.getElem?_cons_zero, List.getElem?_cons_succ]; rfl
  refine step_app11 (.tmp 60) (.tmp 62) rfl (by kernel_rfl) hr1 ?_
  refine hK.out _ _ (S0.out _ y2) (fun h2 => ?_)
  clear hK K
  (try simp only [Act.put, List.setIfInBounds_toArray, List.set_cons_zero, List.set_cons_succ])
  refine wpAnyH_ready (rs := [6]) (by kernel_rfl) (by simp) ?_
  refine AllReadyH.cons (o := ?_) ?_ (fun K hK => ?_) AllReadyH.nil
  rotate_left
  · simp only [List.getElem?_toArray, List.getElem?_cons_zero, List.getElem?_cons_succ]; rfl
  refine step_app11 (.tmp 63) (.tmp 65) rfl (by kernel_rfl) hr2 ?_
  refine hK.out _ _ (S0.out _ y3) (fun h3 => ?_)
  clear hK K
  (try simp only [Act.put, List.setIfInBounds_toArray, List.set_cons_zero, List.set_cons_succ])
  refine wpAnyH_take (i := 7) (oi := ?_) (v := ?_) ?_ (by kernel_rfl) (by kernel_rfl) (by kernel_rfl) ?_ ?_ h3 ?_
  rotate_left 2
  · simp only [List.getElem?_toArray, List.getElem?_cons_zero, List.getElem?_cons_succ]; rfl
  · exact fun _ _ _ h => h
  · refine Or.inl ⟨by rfl, ?_⟩
    intro w hSw
    (try dsimp only at hSw)
    go_simp
    (try with_reducible rfl)
  (try simp only [Act.put, List.setIfInBounds_toArray, List.set_cons_zero, List.set_cons_succ])
  refine wpAnyH_ready (rs := [8]) (by kernel_rfl) (by simp) ?_
  refine AllReadyH.cons (o := ?_) ?_ (fun K hK => ?_) AllReadyH.nil
  rotate_left
  · simp only [List.getElem?_toArray, List.getElem?_cons_zero, List.getElem?_cons_succ]; rfl
  go_simp
  refine NU.out.mono ?_; rintro e w6 ⟨B3, F3, rfl, x6, T3, hB3, hF3⟩
  have y4 := y3.trans x6
  refine hK.out _ _ (S0.out _ y4) (fun h4 => ?_)
  clear hK K
  (try simp only [Act.put, List.setIfInBounds_toArray, List.set_cons_zero, List.set_cons_succ])
  refine wpAnyH_take (i := 9) (oi := ?_) (v := ?_) ?_ (by kernel_rfl) (by kernel_rfl) (by kernel_rfl) ?_ ?_ h4 ?_
  rotate_left 2
  · simp only [List.getElem?_toArray, List.getElem?_cons_zero, List.getElem?_cons_succ]; rfl
  · exact fun _ _ _ h => h
  · refine Or.inl ⟨by rfl, ?_⟩
    intro w hSw
    (try dsimp only at hSw)
    go_simp
    (try with_reducible rfl)
  (try simp only [Act.put, List.setIfInBounds_toArray, List.set_cons_zero, List.set_cons_succ])
  refine wpAnyH_take (i := 10) (oi := ?_) (v := ?_) ?_ (by kernel_rfl) (by kernel_rfl) (by kernel_rfl) ?_ ?_ h4 ?_
  rotate_left 2
  · simp only [List.getElem?_toArray, List.getElem?_cons_zero, List.getElem?_cons_succ]; rfl
  · exact fun _ _ _ h => h
  · refine Or.inl ⟨by rfl, ?_⟩
    intro w hSw
    (try dsimp only at hSw)
    go_simp
    (try with_reducible rfl)
  (try simp only [Act.put, List.setIfInBounds_toArray, List.set_cons_zero, List.set_cons_succ])
  refine wpAnyH_take (i := 11) (oi := ?_) (v := ?_) ?_ (by kernel_rfl) (by kernel_rfl) (by kernel_rfl) ?_ ?_ h4 ?_
  rotate_left 2
  · simp only [List.getElem?_toArray, List.getElem?_cons_zero, List.getElem?_cons_succ]; rfl
  · exact fun _ _ _ h => h
  · refine Or.inl ⟨by rfl, ?_⟩
    intro w hSw
    (try dsimp only at hSw)
    go_simp
    (try with_reducible rfl)
  (try simp only [Act.put, List.setIfInBounds_toArray, List.set_cons_zero, List.set_cons_succ])
  refine wpAnyH_take (i := 12) (oi := ?_) (v := ?_) ?_ (by kernel_rfl) (by kernel_rfl) (by kernel_rfl) ?_ ?_ h4 ?_
  rotate_left 2
  · simp only [List.getElem?_toArray, List.getElem?_cons_zero, List.getElem?_cons_succ]; rfl
  · exact fun _ _ _ h => h
  · refine Or.inl ⟨by rfl, ?_⟩
    intro w hSw
    (try dsimp only at hSw)
    go_simp
    (try with_reducible rfl)
  (try simp only [Act.put, List.setIfInBounds_toArray, List.set_cons_zero, List.set_cons_succ])
  refine wpAnyH_take (i := 13) (oi := ?_) (v := ?_) ?_ (by kernel_rfl) (by kernel_rfl) (by kernel_rfl) ?_ ?_ h4 ?_
  rotate_left 2
  · simp only [List.getElem?_toArray, List.getElem?_cons_zero, List.getElem?_cons_succ]; rfl
  · exact fun _ _ _ h => h
  · refine Or.inl ⟨by rfl, ?_⟩
    intro w hSw
    (try dsimp only at hSw)
    go_simp
    (try with_reducible rfl)
  (try simp only [Act.put, List.setIfInBounds_toArray, List.set_cons_zero, List.set_cons_succ])
  refine wpAnyH_done (by kernel_rfl) ?_ _
  refine NoPanic.normal ?_
  clear h0 h1 h2 h3 h4 hr1 hr2
  have TH := Lib.hid (three_new (T15.out.ext (HDR.out.trans y3)) (T2.out.ext (HDR.out.trans y3)) AP.out x6 T3 hB3 hF3)
  have X6 := Lib.hid (X5.out.trans y4)
  have HB3 := Lib.hid (show V.heap.size ≤ B3 from Nat.le_trans (X5.out.trans y3).size hB3)
  clear NU x6 y1 y2 y3 y4 T3 hB3 hF3 T15 T2 AP X5 X4 X3 q0 r0 HDR S0
  have VB := Lib.hid (vals_both (l.map tn) (m.map tn) s.data.toList)
  have VS := Lib.hid (vals_short (l.map tn ++ m.map tn) s.data.toList)
  have NA := Lib.hid (nodes_append (l.map tn) (m.map tn))
  have NL := Lib.hid (show (nodesL (l.map tn)).length ≤ (nodesL (l.map tn ++ m.map tn)).length ∧ (nodesL (m.map tn)).length ≤ (nodesL (l.map tn ++ m.map tn)).length from ⟨nodes_le (fun x hx => List.mem_append.2 (.inl hx)), nodes_le (fun x hx => List.mem_append.2 (.inr hx))⟩)
  have NM := Lib.hid (show (nodesL (l.map tn)).length ≤ 6000 ∧ (nodesL (m.map tn)).length ≤ 6000 from by
    have h1 := nodes_length (l.map tn)
    have h2 := nodes_length (m.map tn)
    have h3 := sumLen_le (p := l.map tn) (fun x hx => by obtain ⟨y, hy, rfl⟩ := List.mem_map.1 hx; exact List.all_eq_true.1 HP.out y hy)
    have h4 := sumLen_le (p := m.map tn) (fun x hx => by obtain ⟨y, hy, rfl⟩ := List.mem_map.1 hx; exact List.all_eq_true.1 HQ.out y hy)
    have h5 := HN.out
    have h6 := HM.out
    rw [List.length_map] at h3 h4
    omega)
  have EM := Lib.hid (show (l ++ m).map tn = l.map tn ++ m.map tn from List.map_append)
  rw [EM.out] at TH
  have V1 := Lib.hid (TH.out.vals s)
  clear TH
  go_wp2_with fail
  refine V1.out.mono ?_; rintro e w7 ⟨b7, T7, A7, c7, rfl, s7, a7⟩
  have X7 := Lib.hid (b7.ext X6.out (fun k hk => by rw [show k = B1 from hk]; exact HB1.out))
  have S7 := Lib.hid s7
  have HA7 := Lib.hid a7
  have V2 := Lib.hid (T7.rot.vals s)
  clear V1 b7 X6 s7 a7 T7
  go_wp2_with fail
  refine V2.out.mono ?_; rintro e w8 ⟨b8, T8, A10, c10, rfl, s8, a8⟩
  have X8 := Lib.hid (b8.ext X7.out (fun k hk => by rw [show k = B2 from hk]; exact HB2.out))
  have S7 := Lib.hid (seenL_but S7.out b8 (fun ad e h => by have := HA7.out ad e; have h' : ad.block = B2 := h; omega))
  have S8 := Lib.hid s8
  have HA8 := Lib.hid a8
  have V3 := Lib.hid (T8.rot.vals s)
  clear V2 b8 X7 s8 a8 T8
  go_wp2_with fail
  refine V3.out.mono ?_; rintro e w11 ⟨b11, T11, A11, c11, rfl, s11, _⟩
  have X11 := Lib.hid (b11.ext X8.out (fun k hk => by rw [show k = B3 from hk]; exact HB3.out))
  have S7 := Lib.hid (seenL_but S7.out b11 (fun ad e h => by have := HA7.out ad e; have h' : ad.block = B3 := h; omega))
  have S8 := Lib.hid (seenL_but S8.out b11 (fun ad e h => by have := HA8.out ad e; have h' : ad.block = B3 := h; omega))
  have S11 := Lib.hid s11
  have T11 := Lib.hid T11
  clear V3 b11 X8 s11
  generalize valsL (l.map tn) s.data.toList = va at *
  generalize valsL (m.map tn) s.data.toList = vb at *
  generalize valsL (l.map tn ++ m.map tn) s.data.toList = vc at *
  obtain ⟨z, hz⟩ : ∃ z, z = vc.length := ⟨_, rfl⟩
  have HZ := Lib.hid hz
  have hza : va.length = z := by rw [hz]; exact VB.out.1.symm
  have hzb : vb.length = z := by rw [hz]; exact VB.out.2.1.symm
  have hz41 : z ≤ 41 := by rw [hz]; exact VS.out
  rw [← hz, hza, hzb]
  have HZA := Lib.hid hza
  have HZB := Lib.hid hzb
  clear hz hza hzb
  go_wp2_with fail
  go_loopw [17] (fun i wr => ∃ j : Nat, j ≤ z ∧ i = .int .i64 j ∧ Ext w11 wr) (fun i _ => z - (intOf i).toNat)
  case atStart => exact ⟨0, Nat.zero_le _, rfl, Ext.refl _⟩
  case round =>
    obtain ⟨j, hj, rfl, xr⟩ := hrel
    by_cases hlt : j < z
    · have h1 : j < va.length := by rw [HZA.out]; exact hlt
      have h2 : j < vb.length := by rw [HZB.out]; exact hlt
      have h3 : j < vc.length := by rw [← HZ.out]; exact hlt
      obtain ⟨a1, rfl, d1⟩ := (S7.out.ext xr).get h1
      obtain ⟨a2, rfl, d2⟩ := (S8.out.ext xr).get h2
      obtain ⟨a3, rfl, d3⟩ := (S11.out.ext xr).get h3
      have hmx := VB.out.2.2 j
      have HMX := Lib.hid hmx
      have XR := Lib.hid xr
      clear xr hmx h1 h2 h3
      generalize va.getD j 0 = u1 at *
      generalize vb.getD j 0 = u2 at *
      generalize vc.getD j 0 = u3 at *
      have hmx := HMX.out
      subst hmx
      go_wp2_with fail
      go_quiet (fail)
      rename_i nq
      have X2 := Lib.hid (XR.out.trans ((Ext.refl _).drewN nq))
      go_wp2_with fail
      go_roundw
      case rel => exact ⟨j + 1, by omega, by go_num, X2.out⟩
      case measure => simp [intOf]; omega
    · obtain rfl : j = z := by omega
      have V4 := Lib.hid (T11.out.ext xr).nodes
      have XR := Lib.hid (X11.out.trans xr)
      obtain ⟨M1, hM1⟩ : ∃ M1, (nodesL (l.map tn)).length = M1 := ⟨_, rfl⟩
      obtain ⟨M2, hM2⟩ : ∃ M2, (nodesL (m.map tn)).length = M2 := ⟨_, rfl⟩
      obtain ⟨M3, hM3⟩ : ∃ M3, (nodesL (l.map tn ++ m.map tn)).length = M3 := ⟨_, rfl⟩
      have na := NA.out
      have nl := NL.out
      have nm := NM.out
      rw [hM1, hM2, hM3] at na
      rw [hM1, hM2, hM3] at nl
      rw [hM1, hM2] at nm
      have HM1 := Lib.hid hM1
      have HM2 := Lib.hid hM2
      have HM3 := Lib.hid hM3
      obtain ⟨nl1, nl2⟩ := nl
      obtain ⟨nm1, nm2⟩ := nm
      clear xr hM1 hM2 hM3
      go_wp2_with fail
      refine V4.out.mono ?_; rintro e w12 ⟨rfl, b12, T12⟩
      rw [HM3.out]
      have X12 := Lib.hid (b12.ext XR.out (fun k hk => by rw [show k = B3 from hk]; exact HB3.out))
      have V5 := Lib.hid T12.rot.nodes
      clear b12 T12 XR V4
      go_wp2_with fail
      refine V5.out.mono ?_; rintro e w13 ⟨rfl, b13, T13⟩
      rw [HM1.out]
      have X13 := Lib.hid (b13.ext X12.out (fun k hk => by rw [show k = B1 from hk]; exact HB1.out))
      have V6 := Lib.hid T13.rot.nodes
      clear b13 T13 X12 V5
      go_wp2_with fail
      refine V6.out.mono ?_; rintro e w14 ⟨rfl, b14, T14⟩
      rw [HM2.out]
      have X14 := Lib.hid (b14.ext X13.out (fun k hk => by rw [show k = B2 from hk]; exact HB2.out))
      have V7 := Lib.hid T14.rot.nodes
      clear b14 T14 X13 V6
      go_wp2_with fail
      refine V7.out.mono ?_; rintro e w15 ⟨rfl, b15, T15⟩
      rw [HM3.out]
      have X15 := Lib.hid (b15.ext X14.out (fun k hk => by rw [show k = B3 from hk]; exact HB3.out))
      have V8 := Lib.hid T15.rot.nodes
      clear b15 T15 X14 V7
      go_wp2_with fail
      refine V8.out.mono ?_; rintro e w16 ⟨rfl, b16, T16⟩
      rw [HM1.out]
      have X16 := Lib.hid (b16.ext X15.out (fun k hk => by rw [show k = B1 from hk]; exact HB1.out))
      have V9 := Lib.hid T16.rot.nodes
      clear b16 T16 X15 V8
      go_wp2_with fail
      refine V9.out.mono ?_; rintro e w17 ⟨rfl, b17, _⟩
      rw [HM2.out]
      have X17 := Lib.hid (HX.out.trans (b17.ext X16.out (fun k hk => by rw [show k = B2 from hk]; exact HB2.out)))
      clear b17 X16 V9
      go_wp2_with fail
      go_ret
      exact ⟨ret_bool (by first | rfl | (simp; done) | (simp; omega)), X17.out⟩

set_option maxRecDepth 100000 in
set_option maxHeartbeats 16000000 in
theorem short (D : PatsD) (P : PatsP) (E : PatsD) (U : PatsP) (s : ByteArray) (w : World) (sn : SeenPats w D P) (se : SeenPats w E U) (h : fewD D = false ∨ fewD E = false ∨ 140 < D.l.length ∨ 140 < E.l.length ∨ 60 < s.size) :
    Calls Try.prog 9 #[patsV D P, patsV E U, .string s] w (Ret w (.bool true)) := by
  obtain ⟨V, hV⟩ : ∃ V, V = (w.alloc (.cells #[.slice P.x D.l.length P.c, .slice P.y D.m.length P.d] 37)).alloc (.cells #[.slice U.x E.l.length U.c, .slice U.y E.m.length U.d] 37) := ⟨_, rfl⟩
  have W0 : Ext w V := by rw [hV]; exact ((Ext.refl _).alloc _).alloc _
  have kB : Blk V w.heap.size 37 [.slice P.x D.l.length P.c, .slice P.y D.m.length P.d] := by rw [hV]; exact (Blk.lit w _ _ _ rfl).ext ((Ext.refl _).alloc _)
  have kE : Blk V (w.heap.size + 1) 37 [.slice U.x E.l.length U.c, .slice U.y E.m.length U.d] := by rw [hV]; exact Blk.lit _ _ _ _ (by simp)
  obtain ⟨b, hb⟩ : ∃ b, fewD D = b := ⟨_, rfl⟩
  obtain ⟨b', hb'⟩ : ∃ b', fewD E = b' := ⟨_, rfl⟩
  have FEW := Lib.hid (fun w' (x : Ext V w') => by have := fewp_any D P w' ((sn.ext W0).ext x); rw [hb] at this; exact this)
  have FEU := Lib.hid (fun w' (x : Ext V w') => by have := fewp_any E U w' ((se.ext W0).ext x); rw [hb'] at this; exact this)
  have HC := Lib.hid (show b = false ∨ (b = true ∧ (b' = false ∨ (b' = true ∧ (140 < D.l.length ∨ (D.l.length ≤ 140 ∧ (140 < E.l.length ∨ (E.l.length ≤ 140 ∧ 60 < s.size))))))) by
    cases b with
    | false => exact .inl rfl
    | true =>
      have h2 := h.resolve_left (fun e => by rw [hb] at e; cases e)
      cases b' with
      | false => exact .inr ⟨rfl, .inl rfl⟩
      | true =>
        have h3 := h2.resolve_left (fun e => by rw [hb'] at e; cases e)
        exact .inr ⟨rfl, .inr ⟨rfl, by omega⟩⟩)
  have AW := Lib.hid (awake_any V)
  unfold patsV at FEW FEU ⊢
  have HX := Lib.hid W0
  clear sn se hb hb' h W0
  generalize D.l.length = n at *
  generalize D.m.length = q at *
  generalize E.l.length = k at *
  generalize E.m.length = q' at *
  obtain ⟨A, c, A2, d⟩ := P
  obtain ⟨Ae, ce, Ad, de⟩ := U
  dsimp only at *
  go_enter Try.func9, Try.ntmps9
  go_upto_region 1 with (fail)
  rw [← hV]
  clear hV
  generalize w.heap.size = R at *
  go_wp2_with fail
  refine AW.out.mono ?_; rintro e w1 ⟨rfl, x1⟩
  have q0 : w1.cell? ⟨R, 0, none⟩ = some (.slice A n c) := (kB.ext x1).cell 0
  have q1 : w1.cell? ⟨R, 1, none⟩ = some (.slice A2 q d) := (kB.ext x1).cell 1
  have r0 : w1.cell? ⟨R + 1, 0, none⟩ = some (.slice Ae k ce) := (kE.ext x1).cell 0
  have r1 : w1.cell? ⟨R + 1, 1, none⟩ = some (.slice Ad q' de) := (kE.ext x1).cell 1
  have X1 := Lib.hid x1
  clear kB kE x1
  go_wp2_with fail
  refine (FEW.out _ X1.out).mono ?_; rintro e w2 ⟨rfl, x2⟩
  have q0 := x2.at q0
  have r0 := x2.at r0
  have r1 := x2.at r1
  have X2 := Lib.hid (X1.out.trans x2)
  clear x2 q1 FEW X1
  rcases HC.out with rfl | ⟨rfl, hc⟩
  · go_wp2_with fail
    go_ret
    exact ⟨rfl, HX.out.trans X2.out⟩
  · have HC2 := Lib.hid hc
    clear hc HC
    go_wp2_with fail
    refine (FEU.out _ X2.out).mono ?_; rintro e w3 ⟨rfl, x3⟩
    have q0 := x3.at q0
    have r0 := x3.at r0
    have X3 := Lib.hid (HX.out.trans (X2.out.trans x3))
    clear x3 r1 FEU X2
    rcases HC2.out with rfl | ⟨rfl, h1 | ⟨h1, h2 | ⟨h2, h3⟩⟩⟩
    all_goals
      go_wp2_with fail
      go_ret
      exact ⟨rfl, X3.out⟩
theorem walk (D : PatsD) (P : PatsP) (ok : PatsOk D P) (E : PatsD) (U : PatsP) (oke : PatsOk E U) (s : ByteArray) (_ : s.size ≤ maxLen) (w : World) (sn : SeenPats w D P) (se : SeenPats w E U) :
    Calls Try.prog 9 #[patsV D P, patsV E U, .string s] w (Ret w (.bool true)) := by
  cases hf : fewD D with
  | false => exact short D P E U s w sn se (.inl hf)
  | true =>
    cases hg : fewD E with
    | false => exact short D P E U s w sn se (.inr (.inl hg))
    | true =>
      by_cases h1 : D.l.length ≤ 140
      · by_cases h2 : E.l.length ≤ 140
        · by_cases h3 : s.size ≤ 60
          · cases hp : D.l.all (fun y => patB (tn y)) with
            | false => cases hq : E.l.all (fun y => patB (tn y)) with
              | false => exact no_no D P ok E U oke s h3 w sn se hf hg h1 h2 hp hq
              | true => exact no_yes D P ok E U oke s h3 w sn se hf hg h1 h2 hp hq
            | true => cases hq : E.l.all (fun y => patB (tn y)) with
              | false => exact yes_no D P ok E U oke s h3 w sn se hf hg h1 h2 hp hq
              | true => exact main D P ok E U oke s h3 w sn se hf hg h1 h2 hp hq
          · exact short D P E U s w sn se (.inr (.inr (.inr (.inr (by omega)))))
        · exact short D P E U s w sn se (.inr (.inr (.inr (.inl (by omega)))))
      · exact short D P E U s w sn se (.inr (.inr (.inl (by omega))))

set_option maxRecDepth 100000 in
theorem lifted (os : Os) (started : os.Started) (H : Type) (enc : TypeId × Value → H) :
    ReturnsInHanded {} Try.checked os 9 .any (Rows.trieMoreSpec.pre6 enc Try.prog Try.f9 [] false) (Rows.trieMoreSpec.post enc Try.prog Try.f9 false true false false) := by
  refine law_lift (C := Try.checked) own started (by kernel_rfl) Try.func9 laidOut rfl rfl Try.underlying4 (by kernel_rfl) ?_
    (ChangeSpec.witness6 (enc := enc) (C := Try.checked) false ⟨#[], #[.agg #[.slice none 0 0, .slice none 0 0], .agg #[.slice none 0 0, .slice none 0 0], .string ByteArray.empty], []⟩ 8 (by kernel_rfl) (by kernel_rfl) (by kernel_rfl) (by kernel_rfl)) ?_
  · intro H ds h
    match ds, h with
    | [_, _, _], _ => rfl
  · intro W base args ds p hval hA hlt hwt hsh
    rw [Try.params9] at hA hval
    obtain ⟨v0, vs0, d0, ds0, p0, q0, hargs, rfl, rfl, h0, r0⟩ := trodAll_cons hA
    obtain ⟨v1, vs1, d1, ds1, p1, q1, rfl, rfl, rfl, h1, r1⟩ := trodAll_cons r0
    obtain ⟨v2, vs2, d2, ds2, p2, q2, rfl, rfl, rfl, h2, r2⟩ := trodAll_cons r1
    obtain ⟨rfl, rfl, rfl⟩ := trodAll_nil r2
    obtain rfl : args = #[v0, v1, v2] := by cases args; simp_all
    obtain ⟨D0, P0, rfl, ok0, hs0⟩ := arg_pats (hval 0 37 v0 rfl rfl) h0
    obtain ⟨D1, P1, rfl, ok1, hs1⟩ := arg_pats (hval 1 37 v1 rfl rfl) h1
    obtain ⟨a2, rfl, rfl, rfl, hs2⟩ := Go.ChangeMaps.open_string Try.underlying9 (hval 2 9 v2 rfl rfl) h2
    exact walk D0 P0 ok0 D1 P1 ok1 a2 hs2 W hs0 hs1

theorem holds : Rows.TrieMoreSaid :=
  OpenClaim.holds_of_wide 9 Try.f9 rfl rfl rfl rfl rfl rfl rfl ⟨rfl, rfl, rfl, rfl, rfl⟩ rfl rfl rfl rfl rfl (by kernel_rfl) Try.func9 (by kernel_rfl)
    (of_decide_eq_true (by kernel_rfl)) (by unfold Func.isWrapper; first | (rw [if_pos (by decide +kernel)]; kernel_rfl) | (rw [if_neg (by decide +kernel)]; exact ⟨rfl, rfl⟩))
    (fun os started H enc _ => lifted os started H enc)
end TrieMore
end Go.Proofs.Ytfdoohangemojaa

