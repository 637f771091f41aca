/- ParamTurns: where a text of a layout is cut, behind a byte 10, its parts may change places: for every input. Written by gen14/turns.py. -/
import Derived.Test.YteflkagilhmeiaaDoorUni14
import Derived.Test.YteflkagilhmeiaaDoorOrd14
namespace Go.Proofs.YteflkagilhmeiaaDoor
open Go.ChangeShapes Go.WideShapes Go.ChangeAt Go.RowKit Go.Deep
namespace ParamTurns
open L14

set_option maxRecDepth 100000 in
set_option maxHeartbeats 16000000 in
theorem core (L : LayD) (A : Option Addr) (c : Nat) (ok : LayOk L c) (cut : Int) (hc0 : 0 ≤ cut) (hc1 : cut ≤ 65535) (w : World) (hT : Home w) :
    Calls Tryd.prog 5 #[.agg (layC L A c).toArray, .int .u16 cut] w (Ret w (.bool true)) := by
  obtain ⟨D, hD⟩ : ∃ D : LayD, D = ⟨L.v, 0, L.sh⟩ := ⟨_, rfl⟩
  have okD : LayOk D 0 := by rw [hD]; exact ⟨ok.v, fun i h => absurd h (Nat.not_lt_zero _), Nat.le_refl _, Nat.zero_le _⟩
  have nD : D.n = 0 := by rw [hD]
  have setD : (layC L A c).set 4 (.slice none 0 0) = layC D none 0 := by rw [hD]; rfl
  obtain ⟨WA, hWA⟩ : ∃ WA, WA = w.alloc (.cells (layC L A c).toArray 24) := ⟨_, rfl⟩
  have x0 : Ext w WA := by rw [hWA]; exact (Ext.refl _).alloc _
  have K0 := Lib.hid (show Blk WA w.heap.size 24 (layC L A c) by rw [hWA]; exact Blk.lit _ _ _ _ rfl)
  have X := Lib.hid x0
  have HT0 := Lib.hid hT
  have HT := Lib.hid (hT.ext x0)
  have AW := Lib.hid (awake_any WA HT.out)
  have OK := Lib.hid okD
  have ND := Lib.hid nD
  have SD := Lib.hid setD
  have SND := Lib.hid (fun (w' : World) => show SeenP w' none D.n D.sh by rw [nD]; exact SeenP.nil)
  clear hT x0 ok hD okD nD setD
  go_enter Tryd.func5, Tryd.ntmps5
  go_upto_region 1 with (fail)
  rw [← hWA]
  clear hWA
  obtain ⟨b0, hb0⟩ : ∃ b0, b0 = w.heap.size := ⟨_, rfl⟩
  rw [← hb0] at K0 ⊢
  have hlt : Hid (w.heap.size ≤ b0) := Lib.hid (Nat.le_of_eq hb0.symm)
  clear hb0
  go_wp2_with fail
  refine AW.out.mono ?_
  rintro e w1 ⟨rfl, x1⟩
  clear AW
  have HT := Lib.hid (HT.out.ext x1)
  have K0 := Lib.hid (K0.out.ext x1)
  have X := Lib.hid (X.out.trans x1)
  clear x1
  have a4 : w1.cell? ⟨b0, 4, none⟩ = some (.slice A L.n c) := K0.out.cell 4
  have f4 : w1.frozen? ⟨b0, 4, none⟩ = false := K0.out.free 4
  have hb : b0 < w1.heap.size := K0.out.lt
  go_upto_region 3 with (fail)
  obtain ⟨w2, hw2⟩ : ∃ w2, w2 = w1.setCell ⟨b0, 4, none⟩ (.slice none 0 0) := ⟨_, rfl⟩
  have K2 := Lib.hid (show Blk w2 b0 24 (layC D none 0) by rw [hw2, ← SD.out]; exact K0.out.set 4 _)
  have X := Lib.hid (show Ext w w2 by rw [hw2]; exact X.out.setCell hlt.out _)
  have HT := Lib.hid (HT0.out.ext X.out)
  rw [← hw2]
  clear hw2 a4 f4 K0
  have CW := Lib.hid (write_uni D none 0 w2 OK.out (SND.out w2) HT.out)
  go_wp2_with (first | (refine wpList_getW (by kernel_rfl) _ rfl b0 rfl K2.out ?_) | fail)
  refine CW.out.mono ?_
  rintro e w3 ⟨x3, A2, n2, c2, rfl, h2, hc2, hm2, s2⟩
  clear CW
  have HT := Lib.hid (HT.out.ext x3)
  have K2 := Lib.hid (K2.out.ext x3)
  have X := Lib.hid (X.out.trans x3)
  have S2 := Lib.hid s2
  clear s2 x3
  rcases wrote OK.out with ⟨hm, h5, _, _⟩ | ⟨_, h5, _, _⟩
  rotate_left
  · rw [h5]
    go_wp2_with fail
    go_ret
    exact ⟨rfl, X.out⟩
  rw [h5]
  obtain ⟨T, hT⟩ : ∃ T, T = tW D := ⟨_, rfl⟩
  have ET := Lib.hid (show T = (seqN 0).flatMap (lineL D) by rw [hT, tW, if_pos hm, textL, ND.out])
  have TL := Lib.hid (text_len OK.out)
  rw [← hT] at h2 S2 TL
  have HC := Lib.hid hc2
  have HM := Lib.hid hm2
  have HN := Lib.hid h2
  have n64 : (n2 : Int) ≤ 6000 := by have := TL.out; omega
  have MAY := Lib.hid hm
  clear hT hc2 hm2 h2 h5 hm TL
  go_wp2_with fail
  go_loopw [8, 9] (fun va vi wr => ∃ k p : Nat, k ≤ 9 ∧ p ≤ n2 ∧ va = .int .i64 (pos D k : Int) ∧ vi = .int .i64 p ∧ wr = w3) (fun _ i _ => 1000001 - (intOf i).toNat)
  case atStart => exact ⟨0, 0, by decide, Nat.zero_le _, rfl, rfl, rfl⟩
  case round =>
    obtain ⟨k, p, hk, hp, rfl, rfl, rfl⟩ := hrel
    by_cases hlt : p < n2
    · have hp64 : (p : Int) < (n2 : Int) := by omega
      obtain ⟨ad, hA, _, hc⟩ := S2.out.get (show p < T.length by rw [← HN.out]; exact hlt)
      rw [hA]
      have HA := Lib.hid hA
      clear hA
      by_cases h10 : T[p]'(by rw [← HN.out]; exact hlt) = 10
      · have EN := Lib.hid (ends_at D (seqN 0) p (by rw [← ET.out, List.getElem?_eq_getElem (by rw [← HN.out]; exact hlt), h10]))
        rw [h10] at hc
        have hc : wr.cell? (ad.add p) = some (.int .u8 10) := hc
        clear h10
        obtain ⟨k', hk', he⟩ := EN.out
        have HE := Lib.hid he
        clear he
        go_wp2_with fail
        all_goals
          go_roundw
          case rel => first | exact ⟨k, p + 1, hk, hlt, rfl, by go_num, trivial⟩ | exact ⟨k', p + 1, hk', hlt, congrArg (Value.int IntKind.i64) (by have := HE.out; unfold pos; omega), by go_num, trivial⟩
          case measure => simp [intOf]; omega
      · have hne : ((T[p]'(by rw [← HN.out]; exact hlt)).toNat : Int) ≠ 10 := fun h => h10 (UInt8.toNat_inj.1 (by show _ = 10; omega))
        generalize ((T[p]'(by rw [← HN.out]; exact hlt)).toNat : Int) = bv at *
        clear h10
        go_wp2_with fail
        go_roundw
        case rel => exact ⟨k, p + 1, hk, hlt, rfl, by go_num, trivial⟩
        case measure => simp [intOf]; omega
    · have hp64 : ¬ (p : Int) < (n2 : Int) := by omega
      obtain ⟨R, hR⟩ : ∃ R, R = T.drop (pos D k) ++ T.take (pos D k) := ⟨_, rfl⟩
      have RD := Lib.hid hR
      have PR := Lib.hid (show ∃ M, parseT R = some M ∧ LEq D M by
        have tc := text_cut D (seqN 0) k
        rw [← ET.out] at tc
        have := parse_turned OK.out MAY.out ND.out (k := k) (by omega)
        have e : ((seqN 0).drop k ++ (seqN 0).take k).flatMap (lineL D) = T.drop (pos D k) ++ T.take (pos D k) := by
          rw [List.flatMap_append]
          unfold pos
          rw [tc.1, tc.2]
        rw [e] at this
        rw [hR]
        exact this)
      have hpk : pos D k ≤ n2 := by have := pos_le D k; rw [← ET.out] at this; have := HN.out; omega
      have hpc : pos D k ≤ c2 := by have := HC.out; omega
      obtain ⟨AC, hAC⟩ : ∃ AC, AC = cutA A2 (pos D k) c2 := ⟨_, rfl⟩
      have SC := Lib.hid (fun w' (x : Ext wr w') => show SeenB w' AC (T.drop (pos D k)) by rw [hAC]; exact (S2.out.ext x).cut (k := pos D k) (cap := c2) (by rw [← HN.out]; exact hpk) (by rw [← HN.out]; exact HC.out))
      have EAC := Lib.hid (show (if c2 = pos D k then A2 else Option.map (fun x => x.add (pos D k)) A2) = AC from hAC.symm)
      clear hAC
      have SD2 := Lib.hid (fun w' (x : Ext wr w') => (S2.out.ext x).take (pos D k))
      have NC := Lib.hid (show n2 - pos D k = (T.drop (pos D k)).length by rw [List.length_drop, ← HN.out])
      have ND2 := Lib.hid (show pos D k = (T.take (pos D k)).length by rw [List.length_take, ← HN.out]; omega)
      have BC := Lib.hid (show ([] : List UInt8).length + (T.drop (pos D k)).length ≤ 900000 by rw [← NC.out, List.length_nil]; omega)
      have BD := Lib.hid (show (([] : List UInt8) ++ T.drop (pos D k)).length + (T.take (pos D k)).length ≤ 900000 by rw [List.nil_append, ← NC.out, ← ND2.out]; omega)
      have BT := Lib.hid (show R.length ≤ 800000 by rw [hR, List.length_append, ← NC.out, ← ND2.out]; omega)
      have RE := Lib.hid (show ([] ++ T.drop (pos D k)) ++ T.take (pos D k) = R by rw [hR, List.nil_append])
      clear hR
      go_upto_region 12 with (fail)
      go_cut [10, 11] from 47 to 59 (fun vp vz wx => ∃ (b : Nat) (A7 : Option Addr) (c7 : Nat), vp = .pointer (some ⟨b, 0, none⟩) ∧ vz = .int .i64 (zP R) ∧ Blk wx b 24 (layC (lP R) A7 c7) ∧ SeenP wx A7 (lP R).n (lP R).sh ∧ Ext wr wx)
      case first =>
        skip
        refine wp_region_noPanic ?_
        have xd : Ext wr wr.drew := (Ext.refl _).drew
        refine wp_region_held_drew (S := fun w' => Ext wr w') (by kernel_rfl) xd (fun h0 => ?_)
        obtain ⟨V0, hV0⟩ : ∃ V0, V0 = wr.drew := ⟨_, rfl⟩
        rw [← hV0] at xd h0 ⊢
        have X := Lib.hid xd
        clear xd hV0
        refine wpAnyH_take (i := 1) (oi := ?_) (v := ?_) ?_ (by kernel_rfl) (by kernel_rfl) (by kernel_rfl) ?_ ?_ h0 ?_
        rotate_left 2
        · simp only [List.getElem?_toArray, List.getElem?_cons_zero, List.getElem?_cons_succ]; rfl
        · exact fun _ _ _ h => h
        · refine Or.inl ⟨by rfl, ?_⟩
          intro w hSw
          (try dsimp only at hSw)
          go_simp
          (try with_reducible rfl)
        (try simp only [Act.put, List.setIfInBounds_toArray, List.set_cons_zero, List.set_cons_succ])
        refine wpAnyH_take (i := 2) (oi := ?_) (v := ?_) ?_ (by kernel_rfl) (by kernel_rfl) (by kernel_rfl) ?_ ?_ h0 ?_
        rotate_left 2
        · simp only [List.getElem?_toArray, List.getElem?_cons_zero, List.getElem?_cons_succ]; rfl
        · exact fun _ _ _ h => h
        · refine Or.inl ⟨by rfl, ?_⟩
          intro w hSw
          (try dsimp only at hSw)
          go_simp
          (try with_reducible rfl)
        (try simp only [Act.put, List.setIfInBounds_toArray, List.set_cons_zero, List.set_cons_succ])
        refine wpAnyH_take (i := 3) (oi := ?_) (v := ?_) ?_ (by kernel_rfl) (by kernel_rfl) (by kernel_rfl) ?_ ?_ h0 ?_
        rotate_left 2
        · simp only [List.getElem?_toArray, List.getElem?_cons_zero, List.getElem?_cons_succ]; rfl
        · exact fun _ _ _ h => h
        · refine Or.inl ⟨by rfl, ?_⟩
          intro w hSw
          (try dsimp only at hSw)
          go_simp
          (try with_reducible rfl)
        (try simp only [Act.put, List.setIfInBounds_toArray, List.set_cons_zero, List.set_cons_succ])
        refine wpAnyH_take (i := 5) (oi := ?_) (v := ?_) ?_ (by kernel_rfl) (by kernel_rfl) (by kernel_rfl) ?_ ?_ h0 ?_
        rotate_left 2
        · simp only [List.getElem?_toArray, List.getElem?_cons_zero, List.getElem?_cons_succ]; rfl
        · exact fun _ _ _ h => h
        · refine Or.inl ⟨by rfl, ?_⟩
          intro w hSw
          (try dsimp only at hSw)
          go_simp
          (try with_reducible rfl)
        (try simp only [Act.put, List.setIfInBounds_toArray, List.set_cons_zero, List.set_cons_succ])
        refine wpAnyH_take (i := 6) (oi := ?_) (v := ?_) ?_ (by kernel_rfl) (by kernel_rfl) (by kernel_rfl) ?_ ?_ h0 ?_
        rotate_left 2
        · simp only [List.getElem?_toArray, List.getElem?_cons_zero, List.getElem?_cons_succ]; rfl
        · exact fun _ _ _ h => h
        · refine Or.inl ⟨by rfl, ?_⟩
          intro w hSw
          (try dsimp only at hSw)
          go_simp
          (try with_reducible rfl)
        (try simp only [Act.put, List.setIfInBounds_toArray, List.set_cons_zero, List.set_cons_succ])
        refine wpAnyH_take (i := 7) (oi := ?_) (v := ?_) ?_ (by kernel_rfl) (by kernel_rfl) (by kernel_rfl) ?_ ?_ h0 ?_
        rotate_left 2
        · simp only [List.getElem?_toArray, List.getElem?_cons_zero, List.getElem?_cons_succ]; rfl
        · exact fun _ _ _ h => h
        · refine Or.inl ⟨by rfl, ?_⟩
          intro w hSw
          (try dsimp only at hSw)
          go_simp
          (try with_reducible rfl)
        (try simp only [Act.put, List.setIfInBounds_toArray, List.set_cons_zero, List.set_cons_succ])
        rw [EAC.out]
        refine wpAnyH_ready (rs := [0, 13]) (by kernel_rfl) (by simp) ?_
        refine AllReadyH.cons (o := ?_) ?_ (fun K hK => ?_) ?_
        rotate_left
        · simp only [List.getElem?_toArray, List.getElem?_cons_zero]; rfl
        · skip
          obtain ⟨V1, hV⟩ : ∃ V1, V1 = V0.alloc (.cells #[] 5) := ⟨_, rfl⟩
          have y : Ext V0 V1 := by rw [hV]; exact (Ext.refl _).alloc _
          have OWN := Lib.hid (show OwnB 5 wr V1 (.slice (some ⟨V0.heap.size, 0, none⟩) 0 0) [] by rw [hV]; exact OwnB.lit 5 wr V0 [] #[] 0 rfl rfl (by simp) X.out)
          have OLT := Lib.hid (show V0.heap.size < V1.heap.size by rw [hV]; simp)
          have X := Lib.hid (X.out.trans y)
          go_simp
          rw [← hV]
          refine hK.out _ _ X.out (fun h1 => ?_)
          clear hK K y hV
          (try simp only [Act.put, List.setIfInBounds_toArray, List.set_cons_zero, List.set_cons_succ])
          refine wpAnyH_ready (rs := [4, 13]) (by kernel_rfl) (by simp) ?_
          refine AllReadyH.cons (o := ?_) ?_ (fun K hK => ?_) ?_
          rotate_left
          · simp only [List.getElem?_toArray, List.getElem?_cons_zero, List.getElem?_cons_succ]; rfl
          · skip
            obtain ⟨v2, V2, rn, on, gn, bn⟩ := run_bytes14 OWN.out (AC) (n2 - pos D k) (c2 - pos D k) (T.drop (pos D k)) (SC.out _ X.out) (NC.out) (BC.out) 26
            refine step_ran (.tmp 48) (.tmp 51) rfl (by kernel_rfl) rn ?_
            have X := Lib.hid on.2
            have OWN := Lib.hid on
            refine hK.out _ _ X.out (fun h2 => ?_)
            clear hK K rn on gn bn
            (try simp only [Act.put, List.setIfInBounds_toArray, List.set_cons_zero, List.set_cons_succ])
            refine wpAnyH_ready (rs := [8, 13]) (by kernel_rfl) (by simp) ?_
            refine AllReadyH.cons (o := ?_) ?_ (fun K hK => ?_) ?_
            rotate_left
            · simp only [List.getElem?_toArray, List.getElem?_cons_zero, List.getElem?_cons_succ]; rfl
            · skip
              obtain ⟨v3, V3, rn, on, gn, bn⟩ := run_bytes14 OWN.out (A2) (pos D k) (c2) (T.take (pos D k)) (SD2.out _ X.out) (ND2.out) (BD.out) 26
              refine step_ran (.tmp 52) (.tmp 55) rfl (by kernel_rfl) rn ?_
              have X := Lib.hid on.2
              have OWN := Lib.hid on
              refine hK.out _ _ X.out (fun h3 => ?_)
              clear hK K rn on gn bn
              (try simp only [Act.put, List.setIfInBounds_toArray, List.set_cons_zero, List.set_cons_succ])
              refine wpAnyH_ready (rs := [9, 13]) (by kernel_rfl) (by simp) ?_
              refine AllReadyH.cons (o := ?_) ?_ (fun K hK => ?_) ?_
              rotate_left
              · simp only [List.getElem?_toArray, List.getElem?_cons_zero, List.getElem?_cons_succ]; rfl
              · skip
                have ow := OWN.out
                rw [RE.out] at ow
                obtain ⟨A6, c6, hv, hc6, hs6⟩ := ow.seen
                clear ow
                subst hv
                have PQ := Lib.hid (parse_new A6 _ _ c6 V3 hs6 rfl (BT.out) hc6 (HT.out.ext X.out))
                clear hs6 hc6
                go_simp
                refine PQ.out.mono ?_
                rintro e V4 ⟨A7, c7, rfl, y, _, sn7, fr7⟩
                have SN7 := Lib.hid sn7
                have X := Lib.hid (X.out.trans y)
                refine hK.out _ _ X.out (fun h4 => ?_)
                clear hK K y sn7 fr7 PQ OWN
                (try simp only [Act.put, List.setIfInBounds_toArray, List.set_cons_zero, List.set_cons_succ])
                refine wpAnyH_take (i := 10) (oi := ?_) (v := ?_) ?_ (by kernel_rfl) (by kernel_rfl) (by kernel_rfl) ?_ ?_ h4 ?_
                rotate_left 2
                · simp only [List.getElem?_toArray, List.getElem?_cons_zero, List.getElem?_cons_succ]; rfl
                · exact fun _ _ _ h => h
                · refine Or.inl ⟨by rfl, ?_⟩
                  intro w hSw
                  (try dsimp only at hSw)
                  go_simp
                  (try with_reducible rfl)
                (try simp only [Act.put, List.setIfInBounds_toArray, List.set_cons_zero, List.set_cons_succ])
                refine wpAnyH_take (i := 11) (oi := ?_) (v := ?_) ?_ (by kernel_rfl) (by kernel_rfl) (by kernel_rfl) ?_ ?_ h4 ?_
                rotate_left 2
                · simp only [List.getElem?_toArray, List.getElem?_cons_zero, List.getElem?_cons_succ]; rfl
                · exact fun _ _ _ h => h
                · refine Or.inl ⟨by rfl, ?_⟩
                  intro w hSw
                  (try dsimp only at hSw)
                  go_simp
                  (try with_reducible rfl)
                (try simp only [Act.put, List.setIfInBounds_toArray, List.set_cons_zero, List.set_cons_succ])
                refine wpAnyH_take (i := 12) (oi := ?_) (v := ?_) ?_ (by kernel_rfl) (by kernel_rfl) (by kernel_rfl) ?_ ?_ h4 ?_
                rotate_left 2
                · simp only [List.getElem?_toArray, List.getElem?_cons_zero, List.getElem?_cons_succ]; rfl
                · exact fun _ _ _ h => h
                · refine Or.inl ⟨by rfl, ?_⟩
                  intro w hSw
                  (try dsimp only at hSw)
                  go_simp
                  (try with_reducible rfl)
                (try simp only [Act.put, List.setIfInBounds_toArray, List.set_cons_zero, List.set_cons_succ])
                refine wpAnyH_ready (rs := [13]) (by kernel_rfl) (by simp) ?_
                refine AllReadyH.cons (o := ?_) ?_ (fun K hK => ?_) AllReadyH.nil
                rotate_left
                · simp only [List.getElem?_toArray, List.getElem?_cons_zero, List.getElem?_cons_succ]; rfl
                obtain ⟨V5, hV⟩ : ∃ V5, V5 = V4.alloc (.cells #[.int .i64 0, .int .i64 0, .int .i64 0, .int .i64 0, .slice none 0 0, .int .i64 0, .int .i64 0, .int .i64 0, .int .i64 0, .int .i64 0, .int .i64 0, .int .i64 0, .int .i64 0, .int .i64 0, .int .i64 0, .int .i64 0, .int .i64 0, .int .i64 0, .int .i64 0, .int .i64 0, .int .i64 0] 24) := ⟨_, rfl⟩
                have y : Ext V4 V5 := by rw [hV]; exact (Ext.refl _).alloc _
                have BOX := Lib.hid (show Blk V5 V4.heap.size 24 Z21 by rw [hV]; exact Blk.lit _ _ _ _ rfl)
                have BLE := Lib.hid (show wr.heap.size ≤ V4.heap.size from X.out.size)
                have F7 := Lib.hid (fun (cs : List Value) => SN7.out.ext (ext_setCells (Nat.le_refl V4.heap.size) cs 0 _ y))
                have X := Lib.hid (X.out.trans y)
                go_simp
                rw [← hV]
                refine hK.out _ _ X.out (fun h5 => ?_)
                clear hK K y hV
                (try simp only [Act.put, List.setIfInBounds_toArray, List.set_cons_zero, List.set_cons_succ])
                refine wpAnyH_ready (rs := [14]) (by kernel_rfl) (by simp) ?_
                refine AllReadyH.cons (o := ?_) ?_ (fun K hK => ?_) AllReadyH.nil
                rotate_left
                · simp only [List.getElem?_toArray, List.getElem?_cons_zero, List.getElem?_cons_succ]; rfl
                refine step_store 24 (.tmp 10) (.tmp 58) rfl (V4.heap.size) _ rfl rfl BOX.out.there lay_info (all_oneCell_toArray (layC_one _ _ _)) (by kernel_rfl) ?_
                obtain ⟨V6, hV⟩ : ∃ V6, V6 = V5.setCells (V4.heap.size) 0 (layC (lP R) A7 c7) := ⟨_, rfl⟩
                have X := Lib.hid (show Ext wr V6 by rw [hV]; exact ext_setCells BLE.out _ _ _ X.out)
                have K7 := Lib.hid (show Blk V6 (V4.heap.size) 24 (layC (lP R) A7 c7) by rw [hV]; exact blk_setCells BOX.out _ rfl)
                have S7 := Lib.hid (show SeenP V6 A7 (lP R).n (lP R).sh by rw [hV]; exact F7.out _)
                (try change K _ (V5.setCells (V4.heap.size) 0 (layC (lP R) A7 c7)))
                rw [← hV]
                refine hK.out _ _ X.out (fun h6 => ?_)
                clear hK K hV
                (try simp only [Act.put])
                refine wpAnyH_take (i := 15) (oi := ?_) (v := ?_) ?_ (by kernel_rfl) (by kernel_rfl) (by kernel_rfl) ?_ ?_ h6 ?_
                rotate_left 2
                · simp only [List.getElem?_toArray, List.getElem?_cons_zero, List.getElem?_cons_succ]; rfl
                · exact fun _ _ _ h => h
                · refine Or.inl ⟨by rfl, ?_⟩
                  intro w hSw
                  (try dsimp only at hSw)
                  go_simp
                  (try with_reducible rfl)
                (try simp only [Act.put, List.setIfInBounds_toArray, List.set_cons_zero, List.set_cons_succ])
                refine wpAnyH_done (by kernel_rfl) ?_ _
                refine NoPanic.normal ?_
                clear OK SND PR
                go_wp2_with fail
                go_meet
                exact ⟨V4.heap.size, A7, c7, rfl, rfl, K7.out, S7.out, X.out⟩
              · refine AllReadyH.cons (o := ?_) ?_ (fun K hK => ?_) AllReadyH.nil
                rotate_left
                · simp only [List.getElem?_toArray, List.getElem?_cons_zero, List.getElem?_cons_succ]; rfl
                obtain ⟨V7, hV⟩ : ∃ V7, V7 = V3.alloc (.cells #[.int .i64 0, .int .i64 0, .int .i64 0, .int .i64 0, .slice none 0 0, .int .i64 0, .int .i64 0, .int .i64 0, .int .i64 0, .int .i64 0, .int .i64 0, .int .i64 0, .int .i64 0, .int .i64 0, .int .i64 0, .int .i64 0, .int .i64 0, .int .i64 0, .int .i64 0, .int .i64 0, .int .i64 0] 24) := ⟨_, rfl⟩
                have y : Ext V3 V7 := by rw [hV]; exact (Ext.refl _).alloc _
                have BOX := Lib.hid (show Blk V7 V3.heap.size 24 Z21 by rw [hV]; exact Blk.lit _ _ _ _ rfl)
                have BLE := Lib.hid (show wr.heap.size ≤ V3.heap.size from X.out.size)
                have OWN := Lib.hid (OWN.out.over y)
                have X := Lib.hid (X.out.trans y)
                go_simp
                rw [← hV]
                refine hK.out _ _ X.out (fun h7 => ?_)
                clear hK K y hV
                (try simp only [Act.put, List.setIfInBounds_toArray, List.set_cons_zero, List.set_cons_succ])
                refine wpAnyH_ready (rs := [9]) (by kernel_rfl) (by simp) ?_
                refine AllReadyH.cons (o := ?_) ?_ (fun K hK => ?_) AllReadyH.nil
                rotate_left
                · simp only [List.getElem?_toArray, List.getElem?_cons_zero, List.getElem?_cons_succ]; rfl
                have ow := OWN.out
                rw [RE.out] at ow
                obtain ⟨A6, c6, hv, hc6, hs6⟩ := ow.seen
                clear ow
                subst hv
                have PQ := Lib.hid (parse_new A6 _ _ c6 V7 hs6 rfl (BT.out) hc6 (HT.out.ext X.out))
                clear hs6 hc6
                go_simp
                refine PQ.out.mono ?_
                rintro e V8 ⟨A7, c7, rfl, y, _, sn7, fr7⟩
                have SN7 := Lib.hid sn7
                have NE := Lib.hid (show ∀ ad, A7 = some ad → V3.heap.size ≠ ad.block from fun ad e => by have := fr7 ad e; have := BOX.out.lt; omega)
                have F7 := Lib.hid (fun (cs : List Value) => seenP_sets NE.out cs 0 _ sn7)
                have BOX := Lib.hid (BOX.out.ext y)
                have X := Lib.hid (X.out.trans y)
                refine hK.out _ _ X.out (fun h8 => ?_)
                clear hK K y sn7 fr7 PQ OWN
                (try simp only [Act.put, List.setIfInBounds_toArray, List.set_cons_zero, List.set_cons_succ])
                refine wpAnyH_take (i := 10) (oi := ?_) (v := ?_) ?_ (by kernel_rfl) (by kernel_rfl) (by kernel_rfl) ?_ ?_ h8 ?_
                rotate_left 2
                · simp only [List.getElem?_toArray, List.getElem?_cons_zero, List.getElem?_cons_succ]; rfl
                · exact fun _ _ _ h => h
                · refine Or.inl ⟨by rfl, ?_⟩
                  intro w hSw
                  (try dsimp only at hSw)
                  go_simp
                  (try with_reducible rfl)
                (try simp only [Act.put, List.setIfInBounds_toArray, List.set_cons_zero, List.set_cons_succ])
                refine wpAnyH_take (i := 11) (oi := ?_) (v := ?_) ?_ (by kernel_rfl) (by kernel_rfl) (by kernel_rfl) ?_ ?_ h8 ?_
                rotate_left 2
                · simp only [List.getElem?_toArray, List.getElem?_cons_zero, List.getElem?_cons_succ]; rfl
                · exact fun _ _ _ h => h
                · refine Or.inl ⟨by rfl, ?_⟩
                  intro w hSw
                  (try dsimp only at hSw)
                  go_simp
                  (try with_reducible rfl)
                (try simp only [Act.put, List.setIfInBounds_toArray, List.set_cons_zero, List.set_cons_succ])
                refine wpAnyH_take (i := 12) (oi := ?_) (v := ?_) ?_ (by kernel_rfl) (by kernel_rfl) (by kernel_rfl) ?_ ?_ h8 ?_
                rotate_left 2
                · simp only [List.getElem?_toArray, List.getElem?_cons_zero, List.getElem?_cons_succ]; rfl
                · exact fun _ _ _ h => h
                · refine Or.inl ⟨by rfl, ?_⟩
                  intro w hSw
                  (try dsimp only at hSw)
                  go_simp
                  (try with_reducible rfl)
                (try simp only [Act.put, List.setIfInBounds_toArray, List.set_cons_zero, List.set_cons_succ])
                refine wpAnyH_ready (rs := [14]) (by kernel_rfl) (by simp) ?_
                refine AllReadyH.cons (o := ?_) ?_ (fun K hK => ?_) AllReadyH.nil
                rotate_left
                · simp only [List.getElem?_toArray, List.getElem?_cons_zero, List.getElem?_cons_succ]; rfl
                refine step_store 24 (.tmp 10) (.tmp 58) rfl (V3.heap.size) _ rfl rfl BOX.out.there lay_info (all_oneCell_toArray (layC_one _ _ _)) (by kernel_rfl) ?_
                obtain ⟨V9, hV⟩ : ∃ V9, V9 = V8.setCells (V3.heap.size) 0 (layC (lP R) A7 c7) := ⟨_, rfl⟩
                have X := Lib.hid (show Ext wr V9 by rw [hV]; exact ext_setCells BLE.out _ _ _ X.out)
                have K7 := Lib.hid (show Blk V9 (V3.heap.size) 24 (layC (lP R) A7 c7) by rw [hV]; exact blk_setCells BOX.out _ rfl)
                have S7 := Lib.hid (show SeenP V9 A7 (lP R).n (lP R).sh by rw [hV]; exact F7.out _)
                (try change K _ (V8.setCells (V3.heap.size) 0 (layC (lP R) A7 c7)))
                rw [← hV]
                refine hK.out _ _ X.out (fun h9 => ?_)
                clear hK K hV
                (try simp only [Act.put])
                refine wpAnyH_take (i := 15) (oi := ?_) (v := ?_) ?_ (by kernel_rfl) (by kernel_rfl) (by kernel_rfl) ?_ ?_ h9 ?_
                rotate_left 2
                · simp only [List.getElem?_toArray, List.getElem?_cons_zero, List.getElem?_cons_succ]; rfl
                · exact fun _ _ _ h => h
                · refine Or.inl ⟨by rfl, ?_⟩
                  intro w hSw
                  (try dsimp only at hSw)
                  go_simp
                  (try with_reducible rfl)
                (try simp only [Act.put, List.setIfInBounds_toArray, List.set_cons_zero, List.set_cons_succ])
                refine wpAnyH_done (by kernel_rfl) ?_ _
                refine NoPanic.normal ?_
                clear OK SND PR
                go_wp2_with fail
                go_meet
                exact ⟨V3.heap.size, A7, c7, rfl, rfl, K7.out, S7.out, X.out⟩
            · refine AllReadyH.cons (o := ?_) ?_ (fun K hK => ?_) AllReadyH.nil
              rotate_left
              · simp only [List.getElem?_toArray, List.getElem?_cons_zero, List.getElem?_cons_succ]; rfl
              obtain ⟨V10, hV⟩ : ∃ V10, V10 = V2.alloc (.cells #[.int .i64 0, .int .i64 0, .int .i64 0, .int .i64 0, .slice none 0 0, .int .i64 0, .int .i64 0, .int .i64 0, .int .i64 0, .int .i64 0, .int .i64 0, .int .i64 0, .int .i64 0, .int .i64 0, .int .i64 0, .int .i64 0, .int .i64 0, .int .i64 0, .int .i64 0, .int .i64 0, .int .i64 0] 24) := ⟨_, rfl⟩
              have y : Ext V2 V10 := by rw [hV]; exact (Ext.refl _).alloc _
              have BOX := Lib.hid (show Blk V10 V2.heap.size 24 Z21 by rw [hV]; exact Blk.lit _ _ _ _ rfl)
              have BLE := Lib.hid (show wr.heap.size ≤ V2.heap.size from X.out.size)
              have OWN := Lib.hid (OWN.out.over y)
              have X := Lib.hid (X.out.trans y)
              go_simp
              rw [← hV]
              refine hK.out _ _ X.out (fun h10 => ?_)
              clear hK K y hV
              (try simp only [Act.put, List.setIfInBounds_toArray, List.set_cons_zero, List.set_cons_succ])
              refine wpAnyH_ready (rs := [8]) (by kernel_rfl) (by simp) ?_
              refine AllReadyH.cons (o := ?_) ?_ (fun K hK => ?_) AllReadyH.nil
              rotate_left
              · simp only [List.getElem?_toArray, List.getElem?_cons_zero, List.getElem?_cons_succ]; rfl
              obtain ⟨v11, V11, rn, on, gn, bn⟩ := run_bytes14 OWN.out (A2) (pos D k) (c2) (T.take (pos D k)) (SD2.out _ X.out) (ND2.out) (BD.out) 26
              refine step_ran (.tmp 52) (.tmp 55) rfl (by kernel_rfl) rn ?_
              have BOX := Lib.hid (bn _ _ BOX.out)
              have X := Lib.hid on.2
              have OWN := Lib.hid on
              refine hK.out _ _ X.out (fun h11 => ?_)
              clear hK K rn on gn bn
              (try simp only [Act.put, List.setIfInBounds_toArray, List.set_cons_zero, List.set_cons_succ])
              refine wpAnyH_ready (rs := [9]) (by kernel_rfl) (by simp) ?_
              refine AllReadyH.cons (o := ?_) ?_ (fun K hK => ?_) AllReadyH.nil
              rotate_left
              · simp only [List.getElem?_toArray, List.getElem?_cons_zero, List.getElem?_cons_succ]; rfl
              have ow := OWN.out
              rw [RE.out] at ow
              obtain ⟨A6, c6, hv, hc6, hs6⟩ := ow.seen
              clear ow
              subst hv
              have PQ := Lib.hid (parse_new A6 _ _ c6 V11 hs6 rfl (BT.out) hc6 (HT.out.ext X.out))
              clear hs6 hc6
              go_simp
              refine PQ.out.mono ?_
              rintro e V12 ⟨A7, c7, rfl, y, _, sn7, fr7⟩
              have SN7 := Lib.hid sn7
              have NE := Lib.hid (show ∀ ad, A7 = some ad → V2.heap.size ≠ ad.block from fun ad e => by have := fr7 ad e; have := BOX.out.lt; omega)
              have F7 := Lib.hid (fun (cs : List Value) => seenP_sets NE.out cs 0 _ sn7)
              have BOX := Lib.hid (BOX.out.ext y)
              have X := Lib.hid (X.out.trans y)
              refine hK.out _ _ X.out (fun h12 => ?_)
              clear hK K y sn7 fr7 PQ OWN
              (try simp only [Act.put, List.setIfInBounds_toArray, List.set_cons_zero, List.set_cons_succ])
              refine wpAnyH_take (i := 10) (oi := ?_) (v := ?_) ?_ (by kernel_rfl) (by kernel_rfl) (by kernel_rfl) ?_ ?_ h12 ?_
              rotate_left 2
              · simp only [List.getElem?_toArray, List.getElem?_cons_zero, List.getElem?_cons_succ]; rfl
              · exact fun _ _ _ h => h
              · refine Or.inl ⟨by rfl, ?_⟩
                intro w hSw
                (try dsimp only at hSw)
                go_simp
                (try with_reducible rfl)
              (try simp only [Act.put, List.setIfInBounds_toArray, List.set_cons_zero, List.set_cons_succ])
              refine wpAnyH_take (i := 11) (oi := ?_) (v := ?_) ?_ (by kernel_rfl) (by kernel_rfl) (by kernel_rfl) ?_ ?_ h12 ?_
              rotate_left 2
              · simp only [List.getElem?_toArray, List.getElem?_cons_zero, List.getElem?_cons_succ]; rfl
              · exact fun _ _ _ h => h
              · refine Or.inl ⟨by rfl, ?_⟩
                intro w hSw
                (try dsimp only at hSw)
                go_simp
                (try with_reducible rfl)
              (try simp only [Act.put, List.setIfInBounds_toArray, List.set_cons_zero, List.set_cons_succ])
              refine wpAnyH_take (i := 12) (oi := ?_) (v := ?_) ?_ (by kernel_rfl) (by kernel_rfl) (by kernel_rfl) ?_ ?_ h12 ?_
              rotate_left 2
              · simp only [List.getElem?_toArray, List.getElem?_cons_zero, List.getElem?_cons_succ]; rfl
              · exact fun _ _ _ h => h
              · refine Or.inl ⟨by rfl, ?_⟩
                intro w hSw
                (try dsimp only at hSw)
                go_simp
                (try with_reducible rfl)
              (try simp only [Act.put, List.setIfInBounds_toArray, List.set_cons_zero, List.set_cons_succ])
              refine wpAnyH_ready (rs := [14]) (by kernel_rfl) (by simp) ?_
              refine AllReadyH.cons (o := ?_) ?_ (fun K hK => ?_) AllReadyH.nil
              rotate_left
              · simp only [List.getElem?_toArray, List.getElem?_cons_zero, List.getElem?_cons_succ]; rfl
              refine step_store 24 (.tmp 10) (.tmp 58) rfl (V2.heap.size) _ rfl rfl BOX.out.there lay_info (all_oneCell_toArray (layC_one _ _ _)) (by kernel_rfl) ?_
              obtain ⟨V13, hV⟩ : ∃ V13, V13 = V12.setCells (V2.heap.size) 0 (layC (lP R) A7 c7) := ⟨_, rfl⟩
              have X := Lib.hid (show Ext wr V13 by rw [hV]; exact ext_setCells BLE.out _ _ _ X.out)
              have K7 := Lib.hid (show Blk V13 (V2.heap.size) 24 (layC (lP R) A7 c7) by rw [hV]; exact blk_setCells BOX.out _ rfl)
              have S7 := Lib.hid (show SeenP V13 A7 (lP R).n (lP R).sh by rw [hV]; exact F7.out _)
              (try change K _ (V12.setCells (V2.heap.size) 0 (layC (lP R) A7 c7)))
              rw [← hV]
              refine hK.out _ _ X.out (fun h13 => ?_)
              clear hK K hV
              (try simp only [Act.put])
              refine wpAnyH_take (i := 15) (oi := ?_) (v := ?_) ?_ (by kernel_rfl) (by kernel_rfl) (by kernel_rfl) ?_ ?_ h13 ?_
              rotate_left 2
              · simp only [List.getElem?_toArray, List.getElem?_cons_zero, List.getElem?_cons_succ]; rfl
              · exact fun _ _ _ h => h
              · refine Or.inl ⟨by rfl, ?_⟩
                intro w hSw
                (try dsimp only at hSw)
                go_simp
                (try with_reducible rfl)
              (try simp only [Act.put, List.setIfInBounds_toArray, List.set_cons_zero, List.set_cons_succ])
              refine wpAnyH_done (by kernel_rfl) ?_ _
              refine NoPanic.normal ?_
              clear OK SND PR
              go_wp2_with fail
              go_meet
              exact ⟨V2.heap.size, A7, c7, rfl, rfl, K7.out, S7.out, X.out⟩
          · refine AllReadyH.cons (o := ?_) ?_ (fun K hK => ?_) AllReadyH.nil
            rotate_left
            · simp only [List.getElem?_toArray, List.getElem?_cons_zero, List.getElem?_cons_succ]; rfl
            obtain ⟨V14, hV⟩ : ∃ V14, V14 = V1.alloc (.cells #[.int .i64 0, .int .i64 0, .int .i64 0, .int .i64 0, .slice none 0 0, .int .i64 0, .int .i64 0, .int .i64 0, .int .i64 0, .int .i64 0, .int .i64 0, .int .i64 0, .int .i64 0, .int .i64 0, .int .i64 0, .int .i64 0, .int .i64 0, .int .i64 0, .int .i64 0, .int .i64 0, .int .i64 0] 24) := ⟨_, rfl⟩
            have y : Ext V1 V14 := by rw [hV]; exact (Ext.refl _).alloc _
            have BOX := Lib.hid (show Blk V14 V1.heap.size 24 Z21 by rw [hV]; exact Blk.lit _ _ _ _ rfl)
            have BLE := Lib.hid (show wr.heap.size ≤ V1.heap.size from X.out.size)
            have OWN := Lib.hid (OWN.out.over y)
            have OLT := Lib.hid (Nat.lt_of_lt_of_le OLT.out y.size)
            have X := Lib.hid (X.out.trans y)
            go_simp
            rw [← hV]
            refine hK.out _ _ X.out (fun h14 => ?_)
            clear hK K y hV
            (try simp only [Act.put, List.setIfInBounds_toArray, List.set_cons_zero, List.set_cons_succ])
            refine wpAnyH_ready (rs := [4]) (by kernel_rfl) (by simp) ?_
            refine AllReadyH.cons (o := ?_) ?_ (fun K hK => ?_) AllReadyH.nil
            rotate_left
            · simp only [List.getElem?_toArray, List.getElem?_cons_zero, List.getElem?_cons_succ]; rfl
            obtain ⟨v15, V15, rn, on, gn, bn⟩ := run_bytes14 OWN.out (AC) (n2 - pos D k) (c2 - pos D k) (T.drop (pos D k)) (SC.out _ X.out) (NC.out) (BC.out) 26
            refine step_ran (.tmp 48) (.tmp 51) rfl (by kernel_rfl) rn ?_
            have BOX := Lib.hid (bn _ _ BOX.out)
            have X := Lib.hid on.2
            have OWN := Lib.hid on
            refine hK.out _ _ X.out (fun h15 => ?_)
            clear hK K rn on gn bn
            (try simp only [Act.put, List.setIfInBounds_toArray, List.set_cons_zero, List.set_cons_succ])
            refine wpAnyH_ready (rs := [8]) (by kernel_rfl) (by simp) ?_
            refine AllReadyH.cons (o := ?_) ?_ (fun K hK => ?_) AllReadyH.nil
            rotate_left
            · simp only [List.getElem?_toArray, List.getElem?_cons_zero, List.getElem?_cons_succ]; rfl
            obtain ⟨v16, V16, rn, on, gn, bn⟩ := run_bytes14 OWN.out (A2) (pos D k) (c2) (T.take (pos D k)) (SD2.out _ X.out) (ND2.out) (BD.out) 26
            refine step_ran (.tmp 52) (.tmp 55) rfl (by kernel_rfl) rn ?_
            have BOX := Lib.hid (bn _ _ BOX.out)
            have X := Lib.hid on.2
            have OWN := Lib.hid on
            refine hK.out _ _ X.out (fun h16 => ?_)
            clear hK K rn on gn bn
            (try simp only [Act.put, List.setIfInBounds_toArray, List.set_cons_zero, List.set_cons_succ])
            refine wpAnyH_ready (rs := [9]) (by kernel_rfl) (by simp) ?_
            refine AllReadyH.cons (o := ?_) ?_ (fun K hK => ?_) AllReadyH.nil
            rotate_left
            · simp only [List.getElem?_toArray, List.getElem?_cons_zero, List.getElem?_cons_succ]; rfl
            have ow := OWN.out
            rw [RE.out] at ow
            obtain ⟨A6, c6, hv, hc6, hs6⟩ := ow.seen
            clear ow
            subst hv
            have PQ := Lib.hid (parse_new A6 _ _ c6 V16 hs6 rfl (BT.out) hc6 (HT.out.ext X.out))
            clear hs6 hc6
            go_simp
            refine PQ.out.mono ?_
            rintro e V17 ⟨A7, c7, rfl, y, _, sn7, fr7⟩
            have SN7 := Lib.hid sn7
            have NE := Lib.hid (show ∀ ad, A7 = some ad → V1.heap.size ≠ ad.block from fun ad e => by have := fr7 ad e; have := BOX.out.lt; omega)
            have F7 := Lib.hid (fun (cs : List Value) => seenP_sets NE.out cs 0 _ sn7)
            have BOX := Lib.hid (BOX.out.ext y)
            have X := Lib.hid (X.out.trans y)
            refine hK.out _ _ X.out (fun h17 => ?_)
            clear hK K y sn7 fr7 PQ OWN
            (try simp only [Act.put, List.setIfInBounds_toArray, List.set_cons_zero, List.set_cons_succ])
            refine wpAnyH_take (i := 10) (oi := ?_) (v := ?_) ?_ (by kernel_rfl) (by kernel_rfl) (by kernel_rfl) ?_ ?_ h17 ?_
            rotate_left 2
            · simp only [List.getElem?_toArray, List.getElem?_cons_zero, List.getElem?_cons_succ]; rfl
            · exact fun _ _ _ h => h
            · refine Or.inl ⟨by rfl, ?_⟩
              intro w hSw
              (try dsimp only at hSw)
              go_simp
              (try with_reducible rfl)
            (try simp only [Act.put, List.setIfInBounds_toArray, List.set_cons_zero, List.set_cons_succ])
            refine wpAnyH_take (i := 11) (oi := ?_) (v := ?_) ?_ (by kernel_rfl) (by kernel_rfl) (by kernel_rfl) ?_ ?_ h17 ?_
            rotate_left 2
            · simp only [List.getElem?_toArray, List.getElem?_cons_zero, List.getElem?_cons_succ]; rfl
            · exact fun _ _ _ h => h
            · refine Or.inl ⟨by rfl, ?_⟩
              intro w hSw
              (try dsimp only at hSw)
              go_simp
              (try with_reducible rfl)
            (try simp only [Act.put, List.setIfInBounds_toArray, List.set_cons_zero, List.set_cons_succ])
            refine wpAnyH_take (i := 12) (oi := ?_) (v := ?_) ?_ (by kernel_rfl) (by kernel_rfl) (by kernel_rfl) ?_ ?_ h17 ?_
            rotate_left 2
            · simp only [List.getElem?_toArray, List.getElem?_cons_zero, List.getElem?_cons_succ]; rfl
            · exact fun _ _ _ h => h
            · refine Or.inl ⟨by rfl, ?_⟩
              intro w hSw
              (try dsimp only at hSw)
              go_simp
              (try with_reducible rfl)
            (try simp only [Act.put, List.setIfInBounds_toArray, List.set_cons_zero, List.set_cons_succ])
            refine wpAnyH_ready (rs := [14]) (by kernel_rfl) (by simp) ?_
            refine AllReadyH.cons (o := ?_) ?_ (fun K hK => ?_) AllReadyH.nil
            rotate_left
            · simp only [List.getElem?_toArray, List.getElem?_cons_zero, List.getElem?_cons_succ]; rfl
            refine step_store 24 (.tmp 10) (.tmp 58) rfl (V1.heap.size) _ rfl rfl BOX.out.there lay_info (all_oneCell_toArray (layC_one _ _ _)) (by kernel_rfl) ?_
            obtain ⟨V18, hV⟩ : ∃ V18, V18 = V17.setCells (V1.heap.size) 0 (layC (lP R) A7 c7) := ⟨_, rfl⟩
            have X := Lib.hid (show Ext wr V18 by rw [hV]; exact ext_setCells BLE.out _ _ _ X.out)
            have K7 := Lib.hid (show Blk V18 (V1.heap.size) 24 (layC (lP R) A7 c7) by rw [hV]; exact blk_setCells BOX.out _ rfl)
            have S7 := Lib.hid (show SeenP V18 A7 (lP R).n (lP R).sh by rw [hV]; exact F7.out _)
            (try change K _ (V17.setCells (V1.heap.size) 0 (layC (lP R) A7 c7)))
            rw [← hV]
            refine hK.out _ _ X.out (fun h18 => ?_)
            clear hK K hV
            (try simp only [Act.put])
            refine wpAnyH_take (i := 15) (oi := ?_) (v := ?_) ?_ (by kernel_rfl) (by kernel_rfl) (by kernel_rfl) ?_ ?_ h18 ?_
            rotate_left 2
            · simp only [List.getElem?_toArray, List.getElem?_cons_zero, List.getElem?_cons_succ]; rfl
            · exact fun _ _ _ h => h
            · refine Or.inl ⟨by rfl, ?_⟩
              intro w hSw
              (try dsimp only at hSw)
              go_simp
              (try with_reducible rfl)
            (try simp only [Act.put, List.setIfInBounds_toArray, List.set_cons_zero, List.set_cons_succ])
            refine wpAnyH_done (by kernel_rfl) ?_ _
            refine NoPanic.normal ?_
            clear OK SND PR
            go_wp2_with fail
            go_meet
            exact ⟨V1.heap.size, A7, c7, rfl, rfl, K7.out, S7.out, X.out⟩
        · refine AllReadyH.cons (o := ?_) ?_ (fun K hK => ?_) AllReadyH.nil
          rotate_left
          · simp only [List.getElem?_toArray, List.getElem?_cons_zero, List.getElem?_cons_succ]; rfl
          obtain ⟨V19, hV⟩ : ∃ V19, V19 = V0.alloc (.cells #[.int .i64 0, .int .i64 0, .int .i64 0, .int .i64 0, .slice none 0 0, .int .i64 0, .int .i64 0, .int .i64 0, .int .i64 0, .int .i64 0, .int .i64 0, .int .i64 0, .int .i64 0, .int .i64 0, .int .i64 0, .int .i64 0, .int .i64 0, .int .i64 0, .int .i64 0, .int .i64 0, .int .i64 0] 24) := ⟨_, rfl⟩
          have y : Ext V0 V19 := by rw [hV]; exact (Ext.refl _).alloc _
          have BOX := Lib.hid (show Blk V19 V0.heap.size 24 Z21 by rw [hV]; exact Blk.lit _ _ _ _ rfl)
          have BLE := Lib.hid (show wr.heap.size ≤ V0.heap.size from X.out.size)
          have X := Lib.hid (X.out.trans y)
          go_simp
          rw [← hV]
          refine hK.out _ _ X.out (fun h19 => ?_)
          clear hK K y hV
          (try simp only [Act.put, List.setIfInBounds_toArray, List.set_cons_zero, List.set_cons_succ])
          refine wpAnyH_ready (rs := [0]) (by kernel_rfl) (by simp) ?_
          refine AllReadyH.cons (o := ?_) ?_ (fun K hK => ?_) AllReadyH.nil
          rotate_left
          · simp only [List.getElem?_toArray, List.getElem?_cons_zero]; rfl
          obtain ⟨V20, hV⟩ : ∃ V20, V20 = V19.alloc (.cells #[] 5) := ⟨_, rfl⟩
          have y : Ext V19 V20 := by rw [hV]; exact (Ext.refl _).alloc _
          have OWN := Lib.hid (show OwnB 5 wr V20 (.slice (some ⟨V19.heap.size, 0, none⟩) 0 0) [] by rw [hV]; exact OwnB.lit 5 wr V19 [] #[] 0 rfl rfl (by simp) X.out)
          have BOX := Lib.hid (BOX.out.ext y)
          have OLT := Lib.hid (show V19.heap.size < V20.heap.size by rw [hV]; simp)
          have X := Lib.hid (X.out.trans y)
          go_simp
          rw [← hV]
          refine hK.out _ _ X.out (fun h20 => ?_)
          clear hK K y hV
          (try simp only [Act.put, List.setIfInBounds_toArray, List.set_cons_zero, List.set_cons_succ])
          refine wpAnyH_ready (rs := [4]) (by kernel_rfl) (by simp) ?_
          refine AllReadyH.cons (o := ?_) ?_ (fun K hK => ?_) AllReadyH.nil
          rotate_left
          · simp only [List.getElem?_toArray, List.getElem?_cons_zero, List.getElem?_cons_succ]; rfl
          obtain ⟨v21, V21, rn, on, gn, bn⟩ := run_bytes14 OWN.out (AC) (n2 - pos D k) (c2 - pos D k) (T.drop (pos D k)) (SC.out _ X.out) (NC.out) (BC.out) 26
          refine step_ran (.tmp 48) (.tmp 51) rfl (by kernel_rfl) rn ?_
          have BOX := Lib.hid (bn _ _ BOX.out)
          have X := Lib.hid on.2
          have OWN := Lib.hid on
          refine hK.out _ _ X.out (fun h21 => ?_)
          clear hK K rn on gn bn
          (try simp only [Act.put, List.setIfInBounds_toArray, List.set_cons_zero, List.set_cons_succ])
          refine wpAnyH_ready (rs := [8]) (by kernel_rfl) (by simp) ?_
          refine AllReadyH.cons (o := ?_) ?_ (fun K hK => ?_) AllReadyH.nil
          rotate_left
          · simp only [List.getElem?_toArray, List.getElem?_cons_zero, List.getElem?_cons_succ]; rfl
          obtain ⟨v22, V22, rn, on, gn, bn⟩ := run_bytes14 OWN.out (A2) (pos D k) (c2) (T.take (pos D k)) (SD2.out _ X.out) (ND2.out) (BD.out) 26
          refine step_ran (.tmp 52) (.tmp 55) rfl (by kernel_rfl) rn ?_
          have BOX := Lib.hid (bn _ _ BOX.out)
          have X := Lib.hid on.2
          have OWN := Lib.hid on
          refine hK.out _ _ X.out (fun h22 => ?_)
          clear hK K rn on gn bn
          (try simp only [Act.put, List.setIfInBounds_toArray, List.set_cons_zero, List.set_cons_succ])
          refine wpAnyH_ready (rs := [9]) (by kernel_rfl) (by simp) ?_
          refine AllReadyH.cons (o := ?_) ?_ (fun K hK => ?_) AllReadyH.nil
          rotate_left
          · simp only [List.getElem?_toArray, List.getElem?_cons_zero, List.getElem?_cons_succ]; rfl
          have ow := OWN.out
          rw [RE.out] at ow
          obtain ⟨A6, c6, hv, hc6, hs6⟩ := ow.seen
          clear ow
          subst hv
          have PQ := Lib.hid (parse_new A6 _ _ c6 V22 hs6 rfl (BT.out) hc6 (HT.out.ext X.out))
          clear hs6 hc6
          go_simp
          refine PQ.out.mono ?_
          rintro e V23 ⟨A7, c7, rfl, y, _, sn7, fr7⟩
          have SN7 := Lib.hid sn7
          have NE := Lib.hid (show ∀ ad, A7 = some ad → V0.heap.size ≠ ad.block from fun ad e => by have := fr7 ad e; have := BOX.out.lt; omega)
          have F7 := Lib.hid (fun (cs : List Value) => seenP_sets NE.out cs 0 _ sn7)
          have BOX := Lib.hid (BOX.out.ext y)
          have X := Lib.hid (X.out.trans y)
          refine hK.out _ _ X.out (fun h23 => ?_)
          clear hK K y sn7 fr7 PQ OWN
          (try simp only [Act.put, List.setIfInBounds_toArray, List.set_cons_zero, List.set_cons_succ])
          refine wpAnyH_take (i := 10) (oi := ?_) (v := ?_) ?_ (by kernel_rfl) (by kernel_rfl) (by kernel_rfl) ?_ ?_ h23 ?_
          rotate_left 2
          · simp only [List.getElem?_toArray, List.getElem?_cons_zero, List.getElem?_cons_succ]; rfl
          · exact fun _ _ _ h => h
          · refine Or.inl ⟨by rfl, ?_⟩
            intro w hSw
            (try dsimp only at hSw)
            go_simp
            (try with_reducible rfl)
          (try simp only [Act.put, List.setIfInBounds_toArray, List.set_cons_zero, List.set_cons_succ])
          refine wpAnyH_take (i := 11) (oi := ?_) (v := ?_) ?_ (by kernel_rfl) (by kernel_rfl) (by kernel_rfl) ?_ ?_ h23 ?_
          rotate_left 2
          · simp only [List.getElem?_toArray, List.getElem?_cons_zero, List.getElem?_cons_succ]; rfl
          · exact fun _ _ _ h => h
          · refine Or.inl ⟨by rfl, ?_⟩
            intro w hSw
            (try dsimp only at hSw)
            go_simp
            (try with_reducible rfl)
          (try simp only [Act.put, List.setIfInBounds_toArray, List.set_cons_zero, List.set_cons_succ])
          refine wpAnyH_take (i := 12) (oi := ?_) (v := ?_) ?_ (by kernel_rfl) (by kernel_rfl) (by kernel_rfl) ?_ ?_ h23 ?_
          rotate_left 2
          · simp only [List.getElem?_toArray, List.getElem?_cons_zero, List.getElem?_cons_succ]; rfl
          · exact fun _ _ _ h => h
          · refine Or.inl ⟨by rfl, ?_⟩
            intro w hSw
            (try dsimp only at hSw)
            go_simp
            (try with_reducible rfl)
          (try simp only [Act.put, List.setIfInBounds_toArray, List.set_cons_zero, List.set_cons_succ])
          refine wpAnyH_ready (rs := [14]) (by kernel_rfl) (by simp) ?_
          refine AllReadyH.cons (o := ?_) ?_ (fun K hK => ?_) AllReadyH.nil
          rotate_left
          · simp only [List.getElem?_toArray, List.getElem?_cons_zero, List.getElem?_cons_succ]; rfl
          refine step_store 24 (.tmp 10) (.tmp 58) rfl (V0.heap.size) _ rfl rfl BOX.out.there lay_info (all_oneCell_toArray (layC_one _ _ _)) (by kernel_rfl) ?_
          obtain ⟨V24, hV⟩ : ∃ V24, V24 = V23.setCells (V0.heap.size) 0 (layC (lP R) A7 c7) := ⟨_, rfl⟩
          have X := Lib.hid (show Ext wr V24 by rw [hV]; exact ext_setCells BLE.out _ _ _ X.out)
          have K7 := Lib.hid (show Blk V24 (V0.heap.size) 24 (layC (lP R) A7 c7) by rw [hV]; exact blk_setCells BOX.out _ rfl)
          have S7 := Lib.hid (show SeenP V24 A7 (lP R).n (lP R).sh by rw [hV]; exact F7.out _)
          (try change K _ (V23.setCells (V0.heap.size) 0 (layC (lP R) A7 c7)))
          rw [← hV]
          refine hK.out _ _ X.out (fun h24 => ?_)
          clear hK K hV
          (try simp only [Act.put])
          refine wpAnyH_take (i := 15) (oi := ?_) (v := ?_) ?_ (by kernel_rfl) (by kernel_rfl) (by kernel_rfl) ?_ ?_ h24 ?_
          rotate_left 2
          · simp only [List.getElem?_toArray, List.getElem?_cons_zero, List.getElem?_cons_succ]; rfl
          · exact fun _ _ _ h => h
          · refine Or.inl ⟨by rfl, ?_⟩
            intro w hSw
            (try dsimp only at hSw)
            go_simp
            (try with_reducible rfl)
          (try simp only [Act.put, List.setIfInBounds_toArray, List.set_cons_zero, List.set_cons_succ])
          refine wpAnyH_done (by kernel_rfl) ?_ _
          refine NoPanic.normal ?_
          clear OK SND PR
          go_wp2_with fail
          go_meet
          exact ⟨V0.heap.size, A7, c7, rfl, rfl, K7.out, S7.out, X.out⟩
      case rest =>
        obtain ⟨b1, A7, c7, rfl, rfl, k7, s7, x7⟩ := hcut
        obtain ⟨M, hM, hQ⟩ := PR.out
        rw [show lP R = M by rw [lP, hM]; rfl] at k7 s7
        rw [show zP R = 0 by rw [zP, hM]; rfl]
        have K7 := Lib.hid k7
        have K2 := Lib.hid (K2.out.ext x7)
        have X := Lib.hid (X.out.trans x7)
        have SAME := Lib.hid (rsame_yes D M none A7 0 c7 _ hQ (SND.out _) s7 (by rw [ND.out]; omega))
        clear k7 s7 x7 hM hQ PR
        go_wp2_with (first | (refine wpList_getW (by kernel_rfl) _ rfl b0 rfl K2.out ?_) | (refine wpList_getW (by kernel_rfl) _ rfl b1 rfl K7.out ?_) | fail)
        refine SAME.out.mono ?_
        rintro e w9 ⟨rfl, x9⟩
        go_wp2_with fail
        go_ret
        exact ⟨rfl, X.out.trans x9⟩
theorem walk (D0 : LayD) (A0 : Option Addr) (c0 : Nat) (ok0 : LayOk D0 c0) (z : Int) (hz : 0 ≤ z ∧ z ≤ 65535) (w : World) (_ : SeenP w A0 D0.n D0.sh) (hT : Home w) :
    Calls Tryd.prog 5 #[layV D0 A0 c0, .int .u16 z] w (Ret w (.bool true)) := core D0 A0 c0 ok0 z hz.1 hz.2 w hT

set_option maxRecDepth 100000 in
theorem lifted (os : Os) (started : os.Started) (H : Type) (enc : TypeId × Value → H) :
    ReturnsInHanded {} Tryd.checked os 5 .any (fun w args => (Rows.paramTurnsSpec.pre enc Tryd.prog Tryd.f5 [] false w args ∧ laidMetH Tryd.prog doorLaid w) ∧ sizedMet enc Tryd.prog Tryd.f5 (OpenSpec.ofChange Rows.paramTurnsSpec) false w args)
      (Rows.paramTurnsSpec.post enc Tryd.prog Tryd.f5 false true false false) := by
  refine law_liftH started (by kernel_rfl) Tryd.func5 rfl rfl Tryd.underlying4 (by kernel_rfl) ?_
    (ChangeSpec.witness_shaped (enc := enc) (C := Tryd.checked) (os := os) (X := fun w _ => laidMetH Tryd.prog doorLaid w) false (World.laidAll Tryd.prog os doorLaid) #[.agg #[.int .i64 0, .int .i64 0, .int .i64 0, .int .i64 0, .slice none 0 0, .int .i64 0, .int .i64 0, .int .i64 0, .int .i64 0, .int .i64 0, .int .i64 0, .int .i64 0, .int .i64 0, .int .i64 0, .int .i64 0, .int .i64 0, .int .i64 0, .int .i64 0, .int .i64 0, .int .i64 0, .int .i64 0], .int .u16 0] 8 (World.laidAll_os _ _ _)
      (World.shaped_of_ZipB (by kernel_rfl) (by kernel_rfl)) (by kernel_rfl) (by kernel_rfl) (by kernel_rfl) (laidStart os _)) ?_
  · intro H ds h
    match ds, h with
    | [_, _], _ => rfl
  · intro W base args ds p hval hA hlt hT
    rw [Tryd.params5] at hA hval
    obtain ⟨v0, vs0, d0, ds0, p0, q0, hargs, rfl, rfl, h0, r0⟩ := trodAll_cons hA
    obtain ⟨v1, vs1, d1, ds1, p1, q1, rfl, rfl, rfl, h1, r1⟩ := trodAll_cons r0
    obtain ⟨rfl, rfl, rfl⟩ := trodAll_nil r1
    obtain rfl : args = #[v0, v1] := by cases args; simp_all
    obtain ⟨D0, A0, c0, rfl, ok0, hs0⟩ := arg_layout (hval 0 24 v0 rfl rfl) h0
    obtain ⟨a1, rfl, rfl, rfl, wf1⟩ := open_int Tryd.underlying35 (hval 1 35 v1 rfl rfl) h1
    exact walk D0 A0 c0 ok0 a1 (bounds_u16 wf1) W hs0 hT

theorem bare : Rows.ParamTurnsSaid :=
  OpenClaim.holds_of_wide 5 Tryd.f5 rfl rfl rfl rfl rfl rfl rfl ⟨rfl, rfl, rfl, rfl, rfl⟩ rfl rfl rfl rfl rfl (by kernel_rfl) Tryd.func5 (by kernel_rfl)
    (of_decide_eq_true (by kernel_rfl)) (by unfold Func.isWrapper; first | (rw [if_pos (by decide +kernel)]; kernel_rfl) | (rw [if_neg (by decide +kernel)]; exact ⟨rfl, rfl⟩))
    (fun os started H enc _ => lifted os started H enc)
theorem holds : Rows.ParamTurnsCardSaid :=
  Claim7.holds_tied_plain_at .later [] [.data, .data, .data, .data, .sentinel, .sentinel, .data, .pinned] true Rows.paramTurnsCard.stood.harness true bare (fun _ h => by cases h) (by kernel_rfl) (fun _ h => by cases h) paramTurns_row_tie rfl ⟨rfl, rfl⟩ (by kernel_rfl) rfl
    (fun f fn hf hfn => by
      obtain rfl : f = 5 := Option.some.inj ((show Tryd.prog.funcNamed "compositor/compositorlaw14.ParamTurns" = some 5 by kernel_rfl).symm.trans hf) |>.symm
      obtain rfl : fn = Tryd.f5 := (Option.some.inj (Tryd.func5.symm.trans hfn)).symm
      exact ⟨by kernel_rfl, standsIn (ts := [24, 35]) (by kernel_rfl) (by rw [Tryd.params5])⟩)
    (by kernel_rfl)
end ParamTurns
end Go.Proofs.YteflkagilhmeiaaDoor

