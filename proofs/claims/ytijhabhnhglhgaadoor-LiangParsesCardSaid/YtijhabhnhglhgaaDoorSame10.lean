/- The document's Same of layer 10. -/
import Derived.Test.YtijhabhnhglhgaaDoorFew10
namespace Go.Proofs.YtijhabhnhglhgaaDoor
open Go.RowKit
open Go.Lib hiding intOf
namespace L10

theorem same_drop {l m : List WP} {k : Nat} (h : k < l.length) (h' : k < m.length) : decide ((l.drop k).map tn = (m.drop k).map tn) = ((decide (l[k].ns = m[k].ns) && decide (l[k].s = m[k].s)) && decide ((l.drop (k + 1)).map tn = (m.drop (k + 1)).map tn)) := by
  rw [List.drop_eq_getElem_cons h, List.drop_eq_getElem_cons h', List.map_cons, List.map_cons, ← Bool.decide_and, ← Bool.decide_and, decide_eq_decide, List.cons.injEq]
  refine and_congr_left fun _ => ?_
  unfold tn
  rw [Prod.mk.injEq, and_comm]
  refine and_congr_right fun _ => ⟨fun h => ?_, fun h => by rw [h]⟩
  exact ByteArray.ext (by rw [← Array.toList_inj]; exact h)
theorem sameB_list (x y : List Int) : L04.sameB x.length y.length (fun j => x.getD j 0) (fun j => y.getD j 0) = decide (x = y) := by
  unfold L04.sameB
  rw [decide_eq_decide]
  refine ⟨fun ⟨h1, h2⟩ => List.ext_getElem h1 fun i h h' => ?_, fun h => by subst h; exact ⟨rfl, fun _ _ => rfl⟩⟩
  have := h2 i h
  simpa [List.getD, List.getElem?_eq_getElem h, List.getElem?_eq_getElem h'] using this
theorem strs_dec (s t : ByteArray) : (s.toList == t.toList) = decide (s = t) := by
  rw [ByteArray.toList_eq, ByteArray.toList_eq]
  by_cases e : s = t
  · subst e; simp
  · rw [decide_eq_false e]
    have : ¬ s.data.toList = t.data.toList := fun h => e (ByteArray.ext (by rw [← Array.toList_inj]; exact h))
    simpa using this

set_option maxRecDepth 100000 in
set_option maxHeartbeats 4000000 in
theorem samep_any (D E : PatsD) (P Q : PatsP) (w : World) (sd : SeenPats w D P) (se : SeenPats w E Q) (hin : ∀ x ∈ D.l ++ D.m, x.ns.length ≤ 1000000) (hll : D.l.length ≤ 1000000) (hlm : D.m.length ≤ 1000000) : Calls Tryd.prog 12 #[patsV D P, patsV E Q] w (Ret w (.bool (decide (rd D = rd E)))) := by
  obtain ⟨l, m⟩ := D
  obtain ⟨A, c, B, d⟩ := P
  obtain ⟨l', m'⟩ := E
  obtain ⟨A', c', B', d'⟩ := Q
  obtain ⟨V, hV⟩ : ∃ V, V = (w.alloc (.cells #[.slice A l.length c, .slice B m.length d] 27)).alloc (.cells #[.slice A' l'.length c', .slice B' m'.length d'] 27) := ⟨_, rfl⟩
  have W0 : Ext w V := by rw [hV]; exact ((Ext.refl _).alloc _).alloc _
  have kB : Blk V w.heap.size 27 [.slice A l.length c, .slice B m.length d] := by rw [hV]; exact (Blk.lit _ _ _ _ rfl).ext ((Ext.refl _).alloc _)
  have kC : Blk V (w.heap.size + 1) 27 [.slice A' l'.length c', .slice B' m'.length d'] := by rw [hV]; exact Blk.lit _ _ _ _ (by simp)
  have SL := Lib.hid (fun w' (x : Ext V w') => ((sd.ext W0).ext x).l)
  have SM := Lib.hid (fun w' (x : Ext V w') => ((sd.ext W0).ext x).m)
  have SL' := Lib.hid (fun w' (x : Ext V w') => ((se.ext W0).ext x).l)
  have SM' := Lib.hid (fun w' (x : Ext V w') => ((se.ext W0).ext x).m)
  have INL := Lib.hid (show ∀ x ∈ l, x.ns.length ≤ 1000000 from fun x hx => hin x (List.mem_append.2 (.inl hx)))
  have INM := Lib.hid (show ∀ x ∈ m, x.ns.length ≤ 1000000 from fun x hx => hin x (List.mem_append.2 (.inr hx)))
  obtain ⟨b, hb⟩ : ∃ b, decide (rd ⟨l, m⟩ = rd ⟨l', m'⟩) = b := ⟨_, rfl⟩
  rw [hb]
  have HB := Lib.hid (show (decide (l.map tn = l'.map tn) && decide (m.map tn = m'.map tn)) = b by
    rw [← hb, ← Bool.decide_and, decide_eq_decide]
    unfold rd
    rw [Prod.mk.injEq])
  clear hin hb sd se
  unfold patsV
  dsimp only at SL SM SL' SM' ⊢
  by_cases h1 : l.length = l'.length
  rotate_left
  · have HF := Lib.hid (show false = b by rw [← HB.out, decide_eq_false (fun h => h1 (by simpa using congrArg List.length h))]; rfl)
    clear HB SL SM SL' SM' INL INM
    generalize l.length = n at *
    generalize m.length = q at *
    generalize l'.length = n' at *
    generalize m'.length = q' at *
    have h1' : ((n : Int) == (n' : Int)) = false := by simp; omega
    clear h1
    go_enter Tryd.func12, Tryd.ntmps12
    go_upto_region 1 with (fail)
    rw [← hV]
    have q0 : V.cell? ⟨w.heap.size, 0, none⟩ = some (.slice A n c) := kB.cell 0
    have q1 : V.cell? ⟨w.heap.size, 1, none⟩ = some (.slice B q d) := kB.cell 1
    have r0 : V.cell? ⟨w.heap.size + 1, 0, none⟩ = some (.slice A' n' c') := kC.cell 0
    have r1 : V.cell? ⟨w.heap.size + 1, 1, none⟩ = some (.slice B' q' d') := kC.cell 1
    clear hV kB kC
    go_wp2_with fail
    go_ret
    exact ⟨ret_bool HF.out, W0⟩
  by_cases h2 : m.length = m'.length
  rotate_left
  · have HF := Lib.hid (show false = b by rw [← HB.out, decide_eq_false (p := m.map tn = m'.map tn) (fun h => h2 (by simpa using congrArg List.length h)), Bool.and_false])
    rw [← h1] at hV kC ⊢
    clear HB SL SM SL' SM' INL INM h1
    generalize l.length = n at *
    generalize m.length = q at *
    generalize m'.length = q' at *
    have h1' : ((q : Int) == (q' : Int)) = false := by simp; omega
    clear h2
    go_enter Tryd.func12, Tryd.ntmps12
    go_upto_region 1 with (fail)
    rw [← hV]
    have q0 : V.cell? ⟨w.heap.size, 0, none⟩ = some (.slice A n c) := kB.cell 0
    have q1 : V.cell? ⟨w.heap.size, 1, none⟩ = some (.slice B q d) := kB.cell 1
    have r0 : V.cell? ⟨w.heap.size + 1, 0, none⟩ = some (.slice A' n c') := kC.cell 0
    have r1 : V.cell? ⟨w.heap.size + 1, 1, none⟩ = some (.slice B' q' d') := kC.cell 1
    clear hV kB kC
    go_wp2_with fail
    go_ret
    exact ⟨ret_bool HF.out, W0⟩
  obtain ⟨n, hn⟩ : ∃ n, n = l.length := ⟨_, rfl⟩
  obtain ⟨q, hq⟩ : ∃ q, q = m.length := ⟨_, rfl⟩
  rw [← h1, ← h2] at hV kC ⊢
  rw [← hn] at hV kB kC ⊢
  rw [← hq] at hV kB kC ⊢
  dsimp only at hll hlm
  rw [← hn] at hll
  rw [← hq] at hlm
  have hn64 : (n : Int) ≤ 1000000 := by omega
  have hq64 : (q : Int) ≤ 1000000 := by omega
  have HN := Lib.hid hn
  have HQ := Lib.hid hq
  have H1 := Lib.hid (hn.trans h1)
  have H2 := Lib.hid (hq.trans h2)
  clear hn hq h1 h2
  go_enter Tryd.func12, Tryd.ntmps12
  go_upto_region 1 with (fail)
  rw [← hV]
  clear hV
  generalize hx : w.heap.size + 1 = Bc at *
  generalize w.heap.size = Bx at *
  clear hx
  have HX := Lib.hid W0
  clear W0
  have q0 : V.cell? ⟨Bx, 0, none⟩ = some (.slice A n c) := kB.cell 0
  have q1 : V.cell? ⟨Bx, 1, none⟩ = some (.slice B q d) := kB.cell 1
  have r0 : V.cell? ⟨Bc, 0, none⟩ = some (.slice A' n c') := kC.cell 0
  have r1 : V.cell? ⟨Bc, 1, none⟩ = some (.slice B' q d') := kC.cell 1
  clear kB kC
  go_wp2_with fail
  go_loopw [5] (fun i wr => ∃ k : Nat, k ≤ n ∧ i = .int .i64 k ∧ Hid (Ext V wr) ∧ Hid (decide (l.map tn = l'.map tn) = decide ((l.drop k).map tn = (l'.drop k).map tn))) (fun i _ => n - (intOf i).toNat)
  case atStart => exact ⟨0, Nat.zero_le _, rfl, Lib.hid (Ext.refl _), rfl⟩
  case round =>
    obtain ⟨k, hkk, rfl, hXk, hall⟩ := hrel
    obtain ⟨wk, rfl⟩ : ∃ wk : World, wk = wr := ⟨_, rfl⟩
    have q0 := hXk.out.at q0
    have q1 := hXk.out.at q1
    have r0 := hXk.out.at r0
    have r1 := hXk.out.at r1
    by_cases hltk : k < n
    · have hlt1 : k < l.length := by rw [← HN.out]; exact hltk
      have hlt2 : k < l'.length := by rw [← H1.out]; exact hltk
      obtain ⟨⟨ad, rfl, e0, e1⟩, hsn⟩ := (SL.out _ (hXk.out)).get hlt1
      obtain ⟨⟨be, rfl, f0, f1⟩, hsn2⟩ := (SL'.out _ (hXk.out)).get hlt2
      have hinl := INL.out l[k] (List.getElem_mem hlt1)
      have hall := hall.out
      rw [same_drop hlt1 hlt2] at hall
      have HALL := Lib.hid hall
      have hk64 : (k : Int) < (n : Int) := by omega
      generalize l[k] = x at *
      generalize l'[k] = y at *
      obtain ⟨s, ns, Ax, cx⟩ := x
      obtain ⟨t, nt, Ay, cy⟩ := y
      dsimp only at e0 e1 f0 f1 hsn hsn2 hinl HALL
      have C := Lib.hid (fun dd os => L04.same_any Ax Ay ns.length nt.length cx cy _ _ (Sort.grow (redrawn wk dd) os) (hsn.ext (below_regrown _ _ _)).fn (hsn2.ext (below_regrown _ _ _)).fn (by omega))
      rw [sameB_list] at C
      obtain ⟨v, hv⟩ : ∃ v, decide (ns = nt) = v := ⟨_, rfl⟩
      rw [hv] at C HALL
      generalize ns.length = z1 at *
      generalize nt.length = z2 at *
      clear hsn hsn2 hv hall hinl
      have q0' := cell_regrown q0
      have q1' := cell_regrown q1
      have r0' := cell_regrown r0
      have r1' := cell_regrown r1
      have e0' := cell_regrown e0
      have e1' := cell_regrown e1
      have f0' := cell_regrown f0
      have f1' := cell_regrown f1
      go_wp2_with fail
      refine wp_region_quiet_below (by kernel_rfl) (by kernel_rfl) ?_
      repeat (go_big_quiet_step (with_reducible exact rg10 (C.out _ _)))
      refine wpQuiet_nil ?_
      intro _ hw'
      obtain ⟨⟨dq, osq⟩, hw''⟩ := hw'
      subst hw''
      clear q0' q1' r0' r1' e0' e1' f0' f1'
      have z2 : Ext wk (Sort.grow (redrawn wk dq) osq) := below_regrown _ _ _
      generalize Sort.grow (redrawn wk dq) osq = u2 at *
      have q0 := z2.at q0
      have q1 := z2.at q1
      have r0 := z2.at r0
      have r1 := z2.at r1
      have e0 := z2.at e0
      have f0 := z2.at f0
      have Z2 := Lib.hid z2
      clear z2 C
      cases v with
      | false =>
        have HF := Lib.hid (show false = b by rw [← HB.out, HALL.out]; rfl)
        clear HALL
        go_wp2_with fail
        go_quiet (fail)
        go_wp2_with fail
        go_ret
        exact ⟨ret_bool HF.out, (HX.out.trans ((hXk.out).trans Z2.out)).drewN _⟩
      | true =>
        have SE := strs_dec s t
        by_cases hst : s = t
        · rw [decide_eq_true hst] at SE
          have HR := Lib.hid (show decide (l.map tn = l'.map tn) = decide ((l.drop (k + 1)).map tn = (l'.drop (k + 1)).map tn) by rw [HALL.out, decide_eq_true hst]; rfl)
          clear HALL hst
          go_wp2_with fail
          go_quiet (fail)
          go_wp2_with fail
          go_roundw
          case rel => exact ⟨k + 1, by omega, by go_num, Lib.hid ((hXk.out.trans Z2.out).drewN _), HR⟩
          case measure => simp [intOf]; omega
        · rw [decide_eq_false hst] at SE
          have HF := Lib.hid (show false = b by rw [← HB.out, HALL.out, decide_eq_false hst]; rfl)
          clear HALL hst
          go_wp2_with fail
          go_quiet (fail)
          go_wp2_with fail
          go_ret
          exact ⟨ret_bool HF.out, (HX.out.trans ((hXk.out).trans Z2.out)).drewN _⟩
    · obtain rfl : k = n := by omega
      have HB2 := Lib.hid (show decide (m.map tn = m'.map tn) = b by rw [← HB.out, hall.out, HN.out, List.drop_length, ← HN.out, H1.out, List.drop_length]; rfl)
      clear hall HB
      go_wp2_with fail
      go_loopw [7] (fun i wr => ∃ k : Nat, k ≤ q ∧ i = .int .i64 k ∧ Hid (Ext wk wr) ∧ Hid (decide (m.map tn = m'.map tn) = decide ((m.drop k).map tn = (m'.drop k).map tn))) (fun i _ => q - (intOf i).toNat)
      case atStart => exact ⟨0, Nat.zero_le _, rfl, Lib.hid (Ext.refl _), rfl⟩
      case round =>
        obtain ⟨j, hkj, rfl, hXj, hall⟩ := hrel
        obtain ⟨wj, rfl⟩ : ∃ wj : World, wj = wr := ⟨_, rfl⟩
        have q0 := hXj.out.at q0
        have q1 := hXj.out.at q1
        have r0 := hXj.out.at r0
        have r1 := hXj.out.at r1
        by_cases hltj : j < q
        · have hlt1 : j < m.length := by rw [← HQ.out]; exact hltj
          have hlt2 : j < m'.length := by rw [← H2.out]; exact hltj
          obtain ⟨⟨ad, rfl, e0, e1⟩, hsn⟩ := (SM.out _ (hXk.out.trans hXj.out)).get hlt1
          obtain ⟨⟨be, rfl, f0, f1⟩, hsn2⟩ := (SM'.out _ (hXk.out.trans hXj.out)).get hlt2
          have hinl := INM.out m[j] (List.getElem_mem hlt1)
          have hall := hall.out
          rw [same_drop hlt1 hlt2] at hall
          have HALL := Lib.hid hall
          have hk64 : (j : Int) < (q : Int) := by omega
          generalize m[j] = x at *
          generalize m'[j] = y at *
          obtain ⟨s, ns, Ax, cx⟩ := x
          obtain ⟨t, nt, Ay, cy⟩ := y
          dsimp only at e0 e1 f0 f1 hsn hsn2 hinl HALL
          have C := Lib.hid (fun dd os => L04.same_any Ax Ay ns.length nt.length cx cy _ _ (Sort.grow (redrawn wj dd) os) (hsn.ext (below_regrown _ _ _)).fn (hsn2.ext (below_regrown _ _ _)).fn (by omega))
          rw [sameB_list] at C
          obtain ⟨v, hv⟩ : ∃ v, decide (ns = nt) = v := ⟨_, rfl⟩
          rw [hv] at C HALL
          generalize ns.length = z1 at *
          generalize nt.length = z2 at *
          clear hsn hsn2 hv hall hinl
          have q0' := cell_regrown q0
          have q1' := cell_regrown q1
          have r0' := cell_regrown r0
          have r1' := cell_regrown r1
          have e0' := cell_regrown e0
          have e1' := cell_regrown e1
          have f0' := cell_regrown f0
          have f1' := cell_regrown f1
          go_wp2_with fail
          refine wp_region_quiet_below (by kernel_rfl) (by kernel_rfl) ?_
          repeat (go_big_quiet_step (with_reducible exact rg10 (C.out _ _)))
          refine wpQuiet_nil ?_
          intro _ hw'
          obtain ⟨⟨dq, osq⟩, hw''⟩ := hw'
          subst hw''
          clear q0' q1' r0' r1' e0' e1' f0' f1'
          have z2 : Ext wj (Sort.grow (redrawn wj dq) osq) := below_regrown _ _ _
          generalize Sort.grow (redrawn wj dq) osq = u2 at *
          have q0 := z2.at q0
          have q1 := z2.at q1
          have r0 := z2.at r0
          have r1 := z2.at r1
          have e0 := z2.at e0
          have f0 := z2.at f0
          have Z2 := Lib.hid z2
          clear z2 C
          cases v with
          | false =>
            have HF := Lib.hid (show false = b by rw [← HB2.out, HALL.out]; simp)
            clear HALL
            go_wp2_with fail
            go_quiet (fail)
            go_wp2_with fail
            go_ret
            exact ⟨ret_bool HF.out, (HX.out.trans ((hXk.out.trans hXj.out).trans Z2.out)).drewN _⟩
          | true =>
            have SE := strs_dec s t
            by_cases hst : s = t
            · rw [decide_eq_true hst] at SE
              have HR := Lib.hid (show decide (m.map tn = m'.map tn) = decide ((m.drop (j + 1)).map tn = (m'.drop (j + 1)).map tn) by rw [HALL.out, decide_eq_true hst]; rfl)
              clear HALL hst
              go_wp2_with fail
              go_quiet (fail)
              go_wp2_with fail
              go_roundw
              case rel => exact ⟨j + 1, by omega, by go_num, Lib.hid ((hXj.out.trans Z2.out).drewN _), HR⟩
              case measure => simp [intOf]; omega
            · rw [decide_eq_false hst] at SE
              have HF := Lib.hid (show false = b by rw [← HB2.out, HALL.out, decide_eq_false hst]; simp)
              clear HALL hst
              go_wp2_with fail
              go_quiet (fail)
              go_wp2_with fail
              go_ret
              exact ⟨ret_bool HF.out, (HX.out.trans ((hXk.out.trans hXj.out).trans Z2.out)).drewN _⟩
        · obtain rfl : j = q := by omega
          have HF := Lib.hid (show true = b by rw [← HB2.out, hall.out, HQ.out, List.drop_length, ← HQ.out, H2.out, List.drop_length]; rfl)
          clear hall
          go_wp2_with fail
          go_ret
          exact ⟨ret_bool HF.out, HX.out.trans (hXk.out.trans hXj.out)⟩
end L10
end Go.Proofs.YtijhabhnhglhgaaDoor

