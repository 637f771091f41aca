/- The document's breaks of a paragraph. Written by gen16/all.py. -/
import Derived.Test.YtdiccmlpppkgpaaGreatDoorDocA16
import Derived.Test.YtdiccmlpppkgpaaGreatDoorGH16
import Derived.Deep.CutBlock
import Derived.Deep.DeepCutAuto
import Derived.Deep.RegionHeld3
namespace Go.Proofs.YtdiccmlpppkgpaaGreatDoor
open Go.RowKit
open Go.Lib hiding intOf
namespace L16
open L10 (TN patB tn)
open L12 (pointsL)
open L13 (TW tw checkB)
open L14 (LayD layC LayOk mayL wpList_getW)

theorem points_len {p but : List TN} {u : List Int} {lf rg : Int} (h : ∀ x ∈ but, x.2.length ≤ 900000) : (pointsL p but u lf rg).length ≤ 1000000 := by
  unfold pointsL
  split
  · rw [List.length_map]
    refine Nat.le_trans (List.length_filter_le _ _) ?_
    unfold L12.placesL
    split
    · rename_i x hx
      have := h x (List.mem_of_find?_eq_some hx)
      omega
    · have h1 := L12.core_most u
      unfold L12.oddL
      rw [List.length_map]
      refine Nat.le_trans (List.length_filter_le _ _) ?_
      rw [List.length_range]
      omega
  · simp
theorem pointsW_len {p but : List TN} {lf rg : Int} {w : TW} {parted : Bool} (h : ∀ x ∈ but, x.2.length ≤ 900000) : (pointsW p but lf rg w parted).length ≤ 1000000 := by
  unfold pointsW
  split
  · exact points_len h
  · simp
theorem run_putsK {ops : Array Oper} {o : Oper} {a : Act} {w w' : World} {K : Act → World → Prop} {Q : Exit → Act → World → Prop} {E : Prop} {t : TypeId} {v : Value} (s x : Operand)
    (ho : o.op = .call { callee := .builtin .append, args := #[s, x], argTypes := #[t, t] }) (hw : Region.wanted o (yielded ops a.tmps) = true) (hrun : (Builtin.append_ #[t, t] o.type #[a.eval s, a.eval x]).run Tryz.prog w = .ok v w')
    (h : K (a.put o.dst v) w') : if Region.wanted o (yielded ops a.tmps) = true then Oper.wp Tryz.prog o a w K Q else E := by
  rw [if_pos hw]
  unfold Oper.wp execOp
  simp only [ho, resolve, invoke, builtin, Sem.run_bind, Sem.run_pure, Result.andThen_ok, List.map_toArray, List.map_cons, List.map_nil, hrun]
  exact h
theorem allTo_len (p but : List TN) (lf rg : Int) (parted : Bool) (l : List TW) (k : Nat) (hw : ∀ x ∈ l, x.1.length ≤ 1000) (hk : k ≤ l.length) : (allTo p but lf rg parted l k).length ≤ 1 + k * 1001 := by
  induction k with
  | zero => simp [allTo]
  | succ k ih =>
    have ih := ih (by omega)
    rw [allTo_succ, List.length_append, List.length_append, List.length_singleton]
    have h1 : (l.getD k ([], [])).1.length ≤ 1000 := by
      rw [List.getD, List.getElem?_eq_getElem (by omega)]
      exact hw _ (List.getElem_mem _)
    have h2 := ofTo_length (l.getD k ([], [])) (pointsW p but lf rg (l.getD k ([], [])) parted) k (l.getD k ([], [])).1.length
    unfold ofW
    omega
set_option maxRecDepth 100000 in
set_option maxHeartbeats 2000000 in
theorem rall_any (D : PatsD) (P : PatsP) (w : World) (sn : SeenPats w D P) (hp : ∀ x ∈ D.l, patB (tn x) = true) (hdn : D.l.length ≤ 400) (A : Option Addr) (l : List WP) (n c : Nat) (hs : SeenW w A l) (hn : n = l.length) (hm : n ≤ 1000000)
    (ok : ∀ x ∈ l, x.Ok ∧ x.ns.length ≤ 900000) (L : LayD) (SA : Option Addr) (sc : Nat) (WA : Option Addr) (wl : List CW) (m d : Nat) (sw : SeenC w WA wl) (hwn : m = wl.length) (hwm : m ≤ 110) (hwo : ∀ x ∈ wl, 1 ≤ x.cs.length ∧ x.cs.length ≤ 1000 ∧ x.ss.length ≤ 1000) (parted : Bool) :
    Calls Tryz.prog 27 #[patsV D P, .slice A n c, .agg (layC L SA sc).toArray, .slice WA m d, .bool parted] w (BrksQ w (allL (D.l.map tn) (l.map tn) (L.v 7) (L.v 8) parted (wl.map tw))) := by
  have hok : ∀ x ∈ l.map tn, x.2.length ≤ 900000 := fun x hx => by
    obtain ⟨y, hy, rfl⟩ := List.mem_map.1 hx
    exact (ok y hy).2
  obtain ⟨W1, hW1⟩ : ∃ W1, W1 = (w.alloc (.cells #[.slice P.x D.l.length P.c, .slice P.y D.m.length P.d] 25)).alloc (.cells (layC L SA sc).toArray 28) := ⟨_, rfl⟩
  have x0 : Ext w W1 := by rw [hW1]; exact ((Ext.refl _).alloc _).alloc _
  have KP := Lib.hid (show Blk W1 w.heap.size 25 [.slice P.x D.l.length P.c, .slice P.y D.m.length P.d] by rw [hW1]; exact (Blk.lit _ _ _ _ rfl).ext ((Ext.refl _).alloc _))
  have KL := Lib.hid (show Blk W1 (w.heap.size + 1) 28 (layC L SA sc) by rw [hW1]; exact Blk.lit _ _ _ _ (by simp))
  have SC := Lib.hid (sw.ext x0)
  have X := Lib.hid x0
  have OF := Lib.hid (fun (V : World) (y : Ext W1 V) (k : Nat) (hk : k < wl.length) => rof_any D P V (sn.ext (x0.trans y)) hp hdn A l n c (hs.ext (x0.trans y)) hn hm ok L SA sc wl[k] ((sw.ext (x0.trans y)).get hk).2.1 ((sw.ext (x0.trans y)).get hk).2.2
    (hwo _ (List.getElem_mem hk)).1 (hwo _ (List.getElem_mem hk)).2.1 (hwo _ (List.getElem_mem hk)).2.2 k parted (pointsW_len hok))
  have ALEN := Lib.hid (fun k (hk : k ≤ wl.length) => allTo_len (D.l.map tn) (l.map tn) (L.v 7) (L.v 8) parted (wl.map tw) k (fun x hx => by
    obtain ⟨y, hy, rfl⟩ := List.mem_map.1 hx
    exact (hwo y hy).2.1) (by rw [List.length_map]; exact hk))
  have GD := Lib.hid (fun k (hk : k < wl.length) => show (wl.map tw).getD k ([], []) = tw wl[k] by simp [List.getD, hk])
  have SUC := Lib.hid (allTo_succ (D.l.map tn) (l.map tn) (L.v 7) (L.v 8) parted (wl.map tw))
  have ZERO := Lib.hid (allTo_zero (D.l.map tn) (l.map tn) (L.v 7) (L.v 8) parted (wl.map tw))
  have OLEN := Lib.hid (fun k (hk : k < wl.length) => show (ofW (D.l.map tn) (l.map tn) (L.v 7) (L.v 8) (tw wl[k]) parted k).length ≤ 1000 from Nat.le_trans (ofTo_length _ _ _ _) (hwo _ (List.getElem_mem hk)).2.1)
  have ZL := Lib.hid (fun k (hk : k < wl.length) => (hwo _ (List.getElem_mem hk)).2.1)
  have HW1 := Lib.hid hW1
  obtain ⟨b0, hb0⟩ : ∃ b0, w.heap.size = b0 := ⟨_, rfl⟩
  obtain ⟨b1, hb1⟩ : ∃ b1, b0 + 1 = b1 := ⟨_, rfl⟩
  rw [hb0] at KP KL
  rw [hb1] at KL
  have H0 := Lib.hid hb0
  have H1 := Lib.hid hb1
  have HM := Lib.hid hwn
  have m64 : (m : Int) ≤ 110 := by omega
  have EV := Lib.hid (show allL (D.l.map tn) (l.map tn) (L.v 7) (L.v 8) parted (wl.map tw) = allTo (D.l.map tn) (l.map tn) (L.v 7) (L.v 8) parted (wl.map tw) m by rw [hwn, ← List.length_map (f := tw)]; rfl)
  rw [EV.out]
  have EN := Lib.hid (show ∀ k, endK (wl.map tw).length k = if k + 1 = m then 5 else 1 from fun k => by rw [List.length_map, ← hwn]; rfl)
  clear hW1 hb0 hb1 sn hp hdn hs hn hm ok x0 hok sw hwn hwo EV
  unfold patsV
  unfold patsV at OF
  go_enter Tryz.func27, Tryz.ntmps27
  go_upto_region 1 with (fail)
  rw [← HW1.out, H0.out, H1.out]
  clear HW1 H0 H1
  have O1 := Lib.hid (OwnK.one W1 (0, 0, 0))
  rw [← ZERO.out] at O1
  dsimp only at O1
  go_wp2_with fail
  go_loopw [11, 12] (fun v i wr => ∃ k : Nat, k ≤ m ∧ i = .int .i64 k ∧ Hid (OwnK W1 wr v (allTo (D.l.map tn) (l.map tn) (L.v 7) (L.v 8) parted (wl.map tw) k))) (fun _ i _ => m - (intOf i).toNat)
  case atStart => exact ⟨0, by omega, rfl, O1⟩
  case round =>
    clear O1
    obtain ⟨k, k2, rfl, HO⟩ := hrel
    obtain ⟨wo, rfl⟩ : ∃ wo : World, wo = wr := ⟨_, rfl⟩
    by_cases hlt : k < m
    · have hk64 : (k : Int) < (m : Int) := by omega
      have hkl : k < wl.length := by have := HM.out; omega
      obtain ⟨⟨ad, rfl, c0, c1⟩, _, _⟩ := SC.out.get hkl
      have OF := Lib.hid (fun V y => OF.out V y k hkl)
      have AL := Lib.hid (ALEN.out k (by omega))
      have SU := Lib.hid (SUC.out k)
      rw [GD.out k hkl] at SU
      have OL := Lib.hid (OLEN.out k hkl)
      have ZK := Lib.hid (ZL.out k hkl)
      have SU := Lib.hid (show allTo (D.l.map tn) (l.map tn) (L.v 7) (L.v 8) parted (wl.map tw) (k + 1) = (allTo (D.l.map tn) (l.map tn) (L.v 7) (L.v 8) parted (wl.map tw) k ++ ofW (D.l.map tn) (l.map tn) (L.v 7) (L.v 8) (tw wl[k]) parted k) ++ [((if k + 1 = m then 5 else 1 : Int), (k : Int), (wl[k].cs.length : Int))] by
        rw [SU.out, EN.out k]; rfl)
      generalize wl[k] = xw at *
      generalize ofW (D.l.map tn) (l.map tn) (L.v 7) (L.v 8) (tw xw) parted k = ow at *
      obtain ⟨a1, ha1⟩ : ∃ a1, a1 = allTo (D.l.map tn) (l.map tn) (L.v 7) (L.v 8) parted (wl.map tw) (k + 1) := ⟨_, rfl⟩
      have HA1 := Lib.hid ha1
      rw [← ha1] at SU
      clear ha1
      generalize allTo (D.l.map tn) (l.map tn) (L.v 7) (L.v 8) parted (wl.map tw) k = a0 at *
      have hkl := Lib.hid hkl
      go_upto_region 5 with (fail)
      go_cut [11] from 22 to 33 (fun v wx => Hid (OwnK W1 wx v (a0 ++ ow)))
      case first =>
        skip
        refine wp_region_noPanic ?_
        have xd : Ext W1 wo.drew := HO.out.2.trans (Ext.refl _).drew
        have HO := Lib.hid (HO.out.over (Ext.refl wo).drew)
        refine wp_region_held_drew (S := fun w' => Ext W1 w') (by kernel_rfl) xd (fun h0 => ?_)
        obtain ⟨V0, hV0⟩ : ∃ V0, V0 = wo.drew := ⟨_, rfl⟩
        rw [← hV0] at xd h0 HO ⊢
        have OF := Lib.hid (OF.out V0 xd)
        clear hV0
        refine wpAnyH_take (i := 0) (oi := ?_) (v := ?_) ?_ (by kernel_rfl) (by kernel_rfl) (by kernel_rfl) ?_ ?_ h0 ?_
        rotate_left 2
        · simp only [List.getElem?_toArray, List.getElem?_cons_zero]; rfl
        · exact fun _ _ _ h => h
        · refine Or.inl ⟨by rfl, ?_⟩
          intro w hSw
          (try dsimp only at hSw)
          go_simp
          (try with_reducible rfl)
        (try simp only [Act.put, List.setIfInBounds_toArray, List.set_cons_zero, List.set_cons_succ])
        refine wpAnyH_take (i := 1) (oi := ?_) (v := ?_) ?_ (by kernel_rfl) (by kernel_rfl) (by kernel_rfl) ?_ ?_ h0 ?_
        rotate_left 2
        · simp only [List.getElem?_toArray, List.getElem?_cons_zero, List.getElem?_cons_succ]; rfl
        · exact fun _ _ _ h => h
        · refine Or.inl ⟨by rfl, ?_⟩
          intro w hSw
          have p0 : w.cell? ⟨b0, 0, none⟩ = some (.slice P.x D.l.length P.c) := (KP.out.ext hSw).cell 0
          have p1 : w.cell? ⟨b0, 1, none⟩ = some (.slice P.y D.m.length P.d) := (KP.out.ext hSw).cell 1
          go_simp
          (try with_reducible rfl)
        (try simp only [Act.put, List.setIfInBounds_toArray, List.set_cons_zero, List.set_cons_succ])
        refine wpAnyH_take (i := 2) (oi := ?_) (v := ?_) ?_ (by kernel_rfl) (by kernel_rfl) (by kernel_rfl) ?_ ?_ h0 ?_
        rotate_left 2
        · simp only [List.getElem?_toArray, List.getElem?_cons_zero, List.getElem?_cons_succ]; rfl
        · exact fun _ _ _ h => h
        · refine Or.inl ⟨by rfl, ?_⟩
          intro w hSw
          (try dsimp only at hSw)
          go_simp
          (try with_reducible rfl)
        (try simp only [Act.put, List.setIfInBounds_toArray, List.set_cons_zero, List.set_cons_succ])
        refine wpAnyH_take (i := 3) (oi := ?_) (v := .agg (layC L SA sc).toArray) ?_ (by kernel_rfl) (by kernel_rfl) (by kernel_rfl) ?_ ?_ h0 ?_
        rotate_left 1
        · simp only [List.getElem?_toArray, List.getElem?_cons_zero, List.getElem?_cons_succ]; rfl
        · exact fun _ _ _ h => h
        · exact yieldsIf_load_mid (by rfl) 28 _ rfl b1 0 rfl (layC L SA sc) _ (fun w h => (KL.out.ext h).range) Tryz.underlying28 rfl (by kernel_rfl)
        (try simp only [Act.put, List.setIfInBounds_toArray, List.set_cons_zero, List.set_cons_succ])
        refine wpAnyH_take (i := 4) (oi := ?_) (v := ?_) ?_ (by kernel_rfl) (by kernel_rfl) (by kernel_rfl) ?_ ?_ h0 ?_
        rotate_left 2
        · simp only [List.getElem?_toArray, List.getElem?_cons_zero, List.getElem?_cons_succ]; rfl
        · exact fun _ _ _ h => h
        · refine Or.inl ⟨by rfl, ?_⟩
          intro w hSw
          (try dsimp only at hSw)
          go_simp
          (try with_reducible rfl)
        (try simp only [Act.put, List.setIfInBounds_toArray, List.set_cons_zero, List.set_cons_succ])
        refine wpAnyH_take (i := 5) (oi := ?_) (v := ?_) ?_ (by kernel_rfl) (by kernel_rfl) (by kernel_rfl) ?_ ?_ h0 ?_
        rotate_left 2
        · simp only [List.getElem?_toArray, List.getElem?_cons_zero, List.getElem?_cons_succ]; rfl
        · exact fun _ _ _ h => h
        · refine Or.inl ⟨by rfl, ?_⟩
          intro w hSw
          (try dsimp only at hSw)
          go_simp
          (try with_reducible rfl)
        (try simp only [Act.put, List.setIfInBounds_toArray, List.set_cons_zero, List.set_cons_succ])
        refine wpAnyH_take (i := 6) (oi := ?_) (v := ?_) ?_ (by kernel_rfl) (by kernel_rfl) (by kernel_rfl) ?_ ?_ h0 ?_
        rotate_left 2
        · simp only [List.getElem?_toArray, List.getElem?_cons_zero, List.getElem?_cons_succ]; rfl
        · exact fun _ _ _ h => h
        · refine Or.inl ⟨by rfl, ?_⟩
          intro w hSw
          (try dsimp only at hSw)
          go_simp
          (try with_reducible rfl)
        (try simp only [Act.put, List.setIfInBounds_toArray, List.set_cons_zero, List.set_cons_succ])
        refine wpAnyH_take (i := 7) (oi := ?_) (v := ?_) ?_ (by kernel_rfl) (by kernel_rfl) (by kernel_rfl) ?_ ?_ h0 ?_
        rotate_left 2
        · simp only [List.getElem?_toArray, List.getElem?_cons_zero, List.getElem?_cons_succ]; rfl
        · exact fun _ _ _ h => h
        · refine Or.inl ⟨by rfl, ?_⟩
          intro w hSw
          have q0 := Ext.at hSw c0
          have q1 := Ext.at hSw c1
          go_simp
          (try with_reducible rfl)
        (try simp only [Act.put, List.setIfInBounds_toArray, List.set_cons_zero, List.set_cons_succ])
        refine wpAnyH_take (i := 8) (oi := ?_) (v := ?_) ?_ (by kernel_rfl) (by kernel_rfl) (by kernel_rfl) ?_ ?_ h0 ?_
        rotate_left 2
        · simp only [List.getElem?_toArray, List.getElem?_cons_zero, List.getElem?_cons_succ]; rfl
        · exact fun _ _ _ h => h
        · refine Or.inl ⟨by rfl, ?_⟩
          intro w hSw
          (try dsimp only at hSw)
          go_simp
          (try with_reducible rfl)
        (try simp only [Act.put, List.setIfInBounds_toArray, List.set_cons_zero, List.set_cons_succ])
        refine wpAnyH_take (i := 9) (oi := ?_) (v := ?_) ?_ (by kernel_rfl) (by kernel_rfl) (by kernel_rfl) ?_ ?_ h0 ?_
        rotate_left 2
        · simp only [List.getElem?_toArray, List.getElem?_cons_zero, List.getElem?_cons_succ]; rfl
        · exact fun _ _ _ h => h
        · refine Or.inl ⟨by rfl, ?_⟩
          intro w hSw
          (try dsimp only at hSw)
          go_simp
          (try with_reducible rfl)
        (try simp only [Act.put, List.setIfInBounds_toArray, List.set_cons_zero, List.set_cons_succ])
        refine wpAnyH_ready (rs := [10]) (by kernel_rfl) (by simp) ?_
        refine AllReadyH.cons (o := ?_) ?_ (fun K hK => ?_) AllReadyH.nil
        rotate_left
        · simp only [List.getElem?_toArray, List.getElem?_cons_zero, List.getElem?_cons_succ]; rfl
        go_simp
        refine OF.out.mono ?_
        rintro e w3 ⟨v3, rfl, ho3⟩
        have HO := Lib.hid (HO.out.over ho3.2)
        obtain ⟨A3, c3, rfl, hs3, _⟩ := ho3.seen
        have S3 := Lib.hid hs3
        refine hK.out _ _ (xd.trans ho3.2) (fun h1 => ?_)
        clear hK K hs3 ho3
        (try simp only [Act.put, List.setIfInBounds_toArray, List.set_cons_zero, List.set_cons_succ])
        refine wpAnyH_ready (rs := [11]) (by kernel_rfl) (by simp) ?_
        refine AllReadyH.cons (o := ?_) ?_ (fun K hK => ?_) AllReadyH.nil
        rotate_left
        · simp only [List.getElem?_toArray, List.getElem?_cons_zero, List.getElem?_cons_succ]; rfl
        obtain ⟨v4, w4, rn, ho4⟩ := HO.out.puts A3 ow ow.length c3 S3.out rfl (by have := AL.out; have := OL.out; omega) 37
        refine run_putsK (.tmp 22) (.tmp 32) rfl (by kernel_rfl) rn ?_
        refine hK.out _ _ ho4.2 (fun h2 => ?_)
        clear hK K rn
        have HO := Lib.hid ho4
        clear ho4
        (try simp only [Act.put, List.setIfInBounds_toArray, List.set_cons_zero, List.set_cons_succ])
        refine wpAnyH_take (i := 12) (oi := ?_) (v := ?_) ?_ (by kernel_rfl) (by kernel_rfl) (by kernel_rfl) ?_ ?_ h2 ?_
        rotate_left 2
        · simp only [List.getElem?_toArray, List.getElem?_cons_zero, List.getElem?_cons_succ]; rfl
        · exact fun _ _ _ h => h
        · refine Or.inl ⟨by rfl, ?_⟩
          intro w hSw
          (try dsimp only at hSw)
          go_simp
          (try with_reducible rfl)
        (try simp only [Act.put, List.setIfInBounds_toArray, List.set_cons_zero, List.set_cons_succ])
        refine wpAnyH_done (by kernel_rfl) ?_ _
        refine NoPanic.normal ?_
        go_wp2_with fail
        go_meet
        exact HO
      case rest =>
        clear HO
        rename World => w4
        have HO := hcut
        clear hcut OF
        have q0 := HO.out.2.at c0
        have q1 := HO.out.2.at c1
        have wm1 : IntKind.i64.wrap ((m : Int) - 1) = (m : Int) - 1 := IntWalk.i64_in _ (by omega)
        have AL2 := Lib.hid (show (a0 ++ ow).length + 1 ≤ 1000000 by have := AL.out; have := OL.out; rw [List.length_append]; omega)
        have PUT := Lib.hid (fun z => HO.out.put (z, (k : Int), (xw.cs.length : Int)) AL2.out 37)
        generalize hcl : xw.cs.length = cl at *
        have z64 : (cl : Int) ≤ 1000 := by have := ZK.out; omega
        clear c0 c1 AL OL ZK hcl
        by_cases hl : k + 1 = m
        · have hlb : decide ((k : Int) = (m : Int) - 1) = true := decide_eq_true (by omega)
          have hlc : ((k : Int) == (m : Int) - 1) = true := by simpa using hlb
          have hl := Lib.hid hl
          have SU := Lib.hid (show a1 = (a0 ++ ow) ++ [((5 : Int), (k : Int), (cl : Int))] by rw [SU.out, if_pos hl.out])
          obtain ⟨v5, w5, hr, ho⟩ := PUT.out 5
          have HO2 := Lib.hid (show OwnK W1 w5 v5 a1 by rw [SU.out]; exact ho)
          clear PUT SU HO ho AL2
          go_wp2_with (first | (at_builtin; refine wpList_ran rfl _ _ rfl hr ?_) | fail)
          go_roundw
          case rel => exact ⟨k + 1, by omega, by go_num, by rw [← HA1.out]; exact HO2⟩
          case measure => simp [intOf]; omega
        · have hl64 : ¬ (k : Int) = (m : Int) - 1 := by omega
          have SU := Lib.hid (show a1 = (a0 ++ ow) ++ [((1 : Int), (k : Int), (cl : Int))] by rw [SU.out, if_neg hl])
          obtain ⟨v5, w5, hr, ho⟩ := PUT.out 1
          have HO2 := Lib.hid (show OwnK W1 w5 v5 a1 by rw [SU.out]; exact ho)
          clear PUT SU HO ho AL2
          go_wp2_with (first | (at_builtin; refine wpList_ran rfl _ _ rfl hr ?_) | fail)
          go_roundw
          case rel => exact ⟨k + 1, by omega, by go_num, by rw [← HA1.out]; exact HO2⟩
          case measure => simp [intOf]; omega
    · obtain rfl : k = m := by omega
      have hk64 : ¬ (k : Int) < (k : Int) := by omega
      go_wp2_with fail
      go_ret
      exact ⟨_, rfl, OwnK.down X.out HO.out⟩
end L16
end Go.Proofs.YtdiccmlpppkgpaaGreatDoor

