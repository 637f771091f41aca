/- The document's rule of two codes, and whether codes may be set. -/
import Derived.Test.YtijhabhnhglhgaaRSteps08
import Derived.Deep.RegionHeld3
namespace Go.Proofs.Ytijhabhnhglhgaa
open Go.RowKit Go.Lib Go.Deep
namespace L08
open L07

theorem ruleO_places {D : FontD} {b : Int} : ∀ (l : List (Option Nat)), ruleO D b l = ruleO D b ((placesO l).map some)
  | [] => rfl
  | none :: r => ruleO_places r
  | some k :: r => by
    simp only [placesO, List.map_cons, ruleO]
    rw [ruleO_places r]
theorem placesO_length : ∀ (l : List (Option Nat)), (placesO l).length ≤ l.length
  | [] => Nat.le_refl _
  | none :: r => Nat.le_trans (placesO_length r) (by simp)
  | some k :: r => by have := placesO_length r; simp only [placesO, List.length_cons]; omega
theorem seqC_length (D : FontD) (j : Nat) : (seqC D j).length ≤ D.ns + 2 := by
  rw [seqC, seqO, List.length_map]; exact seqS_length _ _ _
theorem placesO_mem {k : Nat} : ∀ {l : List (Option Nat)}, k ∈ placesO l → some k ∈ l
  | none :: r, h => List.mem_cons_of_mem _ (placesO_mem (l := r) h)
  | some k' :: r, h => by
    rcases List.mem_cons.1 h with rfl | h
    · simp
    · exact List.mem_cons_of_mem _ (placesO_mem h)
theorem places_lt {D : FontD} {j : Nat} {i : Nat} (h : i < (placesO (seqC D j)).length) : (placesO (seqC D j)).getD i 0 < D.ns := by
  rw [List.getD, List.getElem?_eq_getElem h]
  exact seqC_lt D j _ (placesO_mem (List.getElem_mem h)) _ rfl
/-- What a function answers whose results are a step's box, and a bool. -/
theorem results_step2 {fn : Func} (h : fn.results = #[.cell 6 53, .tmp 7]) (tmps : Array Value) (W : World) (R : Nat) (t : TypeId) (v0 v1 v2 v3 e : Value) (h6 : tmps[6]? = some (.pointer (some ⟨R, 0, none⟩))) (h7 : tmps[7]? = some e)
    (hb : Blk W R t [v0, v1, v2, v3]) : (results fn tmps).run Try.prog W = .ok (.tuple #[.agg #[v0, v1, v2, v3], e]) W := by
  have r0 : W.cell? ⟨R, 0, none⟩ = some v0 := hb.cell 0
  have r1 : W.cell? ⟨R, 1, none⟩ = some v1 := hb.cell 1
  have r2 : W.cell? ⟨R, 2, none⟩ = some v2 := hb.cell 2
  have r3 : W.cell? ⟨R, 3, none⟩ = some v3 := hb.cell 3
  simp only [results, h]
  simp [go_sem, loadVar, asAddr, *]

set_option maxRecDepth 100000 in
set_option maxHeartbeats 8000000 in
theorem rrule_any (D : FontD) (P : FontP) (a b : Int) (w : World) (sn : SeenFont w D P) (ha : hasB D a = true) :
    Calls Try.prog 59 #[fontV D P, .int .i64 a, .int .i64 b] w (Ret w (ruleV D a b)) := by
  obtain ⟨hD, a1, a2, hj⟩ := has_in ha
  have hf := (check_in hD).first
  have ht := ((check_in hD).chr _ hj).2.2.2.2
  have hnc := (check_in hD).nc
  have hns := (check_in hD).ns
  obtain ⟨j, hja⟩ : ∃ j : Nat, a - D.first = j := ⟨(a - D.first).toNat, by omega⟩
  have hjt : (a - D.first).toNat = j := by omega
  have HR := Lib.hid (show ruleD D a b = ruleO D b ((placesO (seqC D j)).map some) by rw [ruleD, hjt, ruleO_places])
  rw [hjt] at ht hj
  have wa : IntKind.i64.wrap (a - D.first) = (j : Int) := by rw [hja]; exact IntWalk.i64_in _ (by omega)
  have hpl := Nat.le_trans (placesO_length (seqC D j)) (seqC_length D j)
  have LT := Lib.hid (fun i (h : i < (placesO (seqC D j)).length) => places_lt (D := D) (j := j) h)
  have hao : ¬ D.first + (D.nc : Int) ≤ a := by omega
  have hal : ¬ a < D.first := by omega
  clear ha hja hjt
  have HD := Lib.hid hD
  clear hD
  unfold fontV
  go_enter Try.func59, Try.ntmps59
  go_wp2_with fail
  obtain ⟨WA, hWA⟩ : ∃ WA, WA = (w.alloc (.cells #[.int .i64 D.sum, .int .i64 D.design, .int .i64 D.first, .slice P.xc D.nc P.zc, .slice P.xw D.nw P.zw, .slice P.xh D.nh P.zh, .slice P.xd D.nd P.zd, .slice P.xi D.ni P.zi, .slice P.xs D.ns P.zs, .slice P.xk D.nk P.zk, .slice P.xp D.np P.zp] 28)).alloc (.cells #[.int .i64 0, .int .i64 0, .int .i64 0, .int .i64 0] 53) := ⟨_, rfl⟩
  rw [← hWA]
  have kF : Blk WA w.heap.size 28 [.int .i64 D.sum, .int .i64 D.design, .int .i64 D.first, .slice P.xc D.nc P.zc, .slice P.xw D.nw P.zw, .slice P.xh D.nh P.zh, .slice P.xd D.nd P.zd, .slice P.xi D.ni P.zi, .slice P.xs D.ns P.zs, .slice P.xk D.nk P.zk, .slice P.xp D.np P.zp] := by rw [hWA]; exact (Blk.lit _ _ _ _ rfl).ext ((Ext.refl _).alloc _)
  have kR : Blk WA (w.heap.size + 1) 53 [.int .i64 0, .int .i64 0, .int .i64 0, .int .i64 0] := by rw [hWA]; exact Blk.lit _ _ _ _ (by simp)
  have X0 : Ext w WA := by rw [hWA]; exact ((Ext.refl _).alloc _).alloc _
  clear hWA
  have SN := sn.ext X0
  obtain ⟨ad, hA, e0, e1, e2, e3, e4, e5⟩ := row6 SN.oc hj
  generalize hb1 : w.heap.size + 1 = b1 at *
  generalize hb0 : w.heap.size = b0 at *
  have q0 : WA.cell? ⟨b0, 0, none⟩ = some (.int .i64 D.sum) := kF.cell 0
  have q1 : WA.cell? ⟨b0, 1, none⟩ = some (.int .i64 D.design) := kF.cell 1
  have q2 : WA.cell? ⟨b0, 2, none⟩ = some (.int .i64 D.first) := kF.cell 2
  have q3 : WA.cell? ⟨b0, 3, none⟩ = some (.slice P.xc D.nc P.zc) := kF.cell 3
  have q4 : WA.cell? ⟨b0, 4, none⟩ = some (.slice P.xw D.nw P.zw) := kF.cell 4
  have q5 : WA.cell? ⟨b0, 5, none⟩ = some (.slice P.xh D.nh P.zh) := kF.cell 5
  have q6 : WA.cell? ⟨b0, 6, none⟩ = some (.slice P.xd D.nd P.zd) := kF.cell 6
  have q7 : WA.cell? ⟨b0, 7, none⟩ = some (.slice P.xi D.ni P.zi) := kF.cell 7
  have q8 : WA.cell? ⟨b0, 8, none⟩ = some (.slice P.xs D.ns P.zs) := kF.cell 8
  have q9 : WA.cell? ⟨b0, 9, none⟩ = some (.slice P.xk D.nk P.zk) := kF.cell 9
  have q10 : WA.cell? ⟨b0, 10, none⟩ = some (.slice P.xp D.np P.zp) := kF.cell 10
  rw [hA] at q3
  have HA := Lib.hid hA
  clear hA
  have ST := Lib.hid (show Calls Try.prog 38 #[.agg #[.int .i64 D.sum, .int .i64 D.design, .int .i64 D.first, .slice P.xc D.nc P.zc, .slice P.xw D.nw P.zw, .slice P.xh D.nh P.zh, .slice P.xd D.nd P.zd, .slice P.xi D.ni P.zi, .slice P.xs D.ns P.zs, .slice P.xk D.nk P.zk, .slice P.xp D.np P.zp], .agg #[.int .i64 (D.chr j 0), .int .i64 (D.chr j 1), .int .i64 (D.chr j 2), .int .i64 (D.chr j 3), .int .i64 (D.chr j 4), .int .i64 (D.chr j 5)]] WA.drew (StepsQ D (seqC D j) WA.drew) from rsteps_any D P _ _ _ _ _ _ _ (SN.ext ((Ext.refl _).drew)) HD.out (by omega))
  have KS := Lib.hid (fun w' (x : Ext WA w') => show w'.cell? ⟨b0, 0, none⟩ = some (.int .i64 D.sum) ∧ w'.cell? ⟨b0, 1, none⟩ = some (.int .i64 D.design) ∧ w'.cell? ⟨b0, 2, none⟩ = some (.int .i64 D.first) ∧ w'.cell? ⟨b0, 3, none⟩ = some (.slice (some ad) D.nc P.zc) ∧ w'.cell? ⟨b0, 4, none⟩ = some (.slice P.xw D.nw P.zw) ∧ w'.cell? ⟨b0, 5, none⟩ = some (.slice P.xh D.nh P.zh) ∧ w'.cell? ⟨b0, 6, none⟩ = some (.slice P.xd D.nd P.zd) ∧ w'.cell? ⟨b0, 7, none⟩ = some (.slice P.xi D.ni P.zi) ∧ w'.cell? ⟨b0, 8, none⟩ = some (.slice P.xs D.ns P.zs) ∧ w'.cell? ⟨b0, 9, none⟩ = some (.slice P.xk D.nk P.zk) ∧ w'.cell? ⟨b0, 10, none⟩ = some (.slice P.xp D.np P.zp) ∧ w'.cell? (ad.add (j * 6)) = some (.int .i64 (D.chr j 0)) ∧ w'.cell? ⟨(ad.add (j * 6)).block, (ad.add (j * 6)).off + 1, none⟩ = some (.int .i64 (D.chr j 1)) ∧ w'.cell? ⟨(ad.add (j * 6)).block, (ad.add (j * 6)).off + 2, none⟩ = some (.int .i64 (D.chr j 2)) ∧ w'.cell? ⟨(ad.add (j * 6)).block, (ad.add (j * 6)).off + 3, none⟩ = some (.int .i64 (D.chr j 3)) ∧ w'.cell? ⟨(ad.add (j * 6)).block, (ad.add (j * 6)).off + 4, none⟩ = some (.int .i64 (D.chr j 4)) ∧ w'.cell? ⟨(ad.add (j * 6)).block, (ad.add (j * 6)).off + 5, none⟩ = some (.int .i64 (D.chr j 5)) from ⟨x.at q0, x.at q1, x.at q2, x.at q3, x.at q4, x.at q5, x.at q6, x.at q7, x.at q8, x.at q9, x.at q10, x.at e0, x.at e1, x.at e2, x.at e3, x.at e4, x.at e5⟩)
  have hjc : (j : Int) < (D.nc : Int) := by omega
  refine wp_region_noPanic ?_
  refine wp_region_held_drew (S := (fun w' => w'.cell? ⟨b0, 0, none⟩ = some (.int .i64 D.sum) ∧ w'.cell? ⟨b0, 1, none⟩ = some (.int .i64 D.design) ∧ w'.cell? ⟨b0, 2, none⟩ = some (.int .i64 D.first) ∧ w'.cell? ⟨b0, 3, none⟩ = some (.slice (some ad) D.nc P.zc) ∧ w'.cell? ⟨b0, 4, none⟩ = some (.slice P.xw D.nw P.zw) ∧ w'.cell? ⟨b0, 5, none⟩ = some (.slice P.xh D.nh P.zh) ∧ w'.cell? ⟨b0, 6, none⟩ = some (.slice P.xd D.nd P.zd) ∧ w'.cell? ⟨b0, 7, none⟩ = some (.slice P.xi D.ni P.zi) ∧ w'.cell? ⟨b0, 8, none⟩ = some (.slice P.xs D.ns P.zs) ∧ w'.cell? ⟨b0, 9, none⟩ = some (.slice P.xk D.nk P.zk) ∧ w'.cell? ⟨b0, 10, none⟩ = some (.slice P.xp D.np P.zp) ∧ w'.cell? (ad.add (j * 6)) = some (.int .i64 (D.chr j 0)) ∧ w'.cell? ⟨(ad.add (j * 6)).block, (ad.add (j * 6)).off + 1, none⟩ = some (.int .i64 (D.chr j 1)) ∧ w'.cell? ⟨(ad.add (j * 6)).block, (ad.add (j * 6)).off + 2, none⟩ = some (.int .i64 (D.chr j 2)) ∧ w'.cell? ⟨(ad.add (j * 6)).block, (ad.add (j * 6)).off + 3, none⟩ = some (.int .i64 (D.chr j 3)) ∧ w'.cell? ⟨(ad.add (j * 6)).block, (ad.add (j * 6)).off + 4, none⟩ = some (.int .i64 (D.chr j 4)) ∧ w'.cell? ⟨(ad.add (j * 6)).block, (ad.add (j * 6)).off + 5, none⟩ = some (.int .i64 (D.chr j 5)))) (by kernel_rfl) (KS.out _ ((Ext.refl _).drew)) (fun h0 => ?_)
  refine wpAnyH_take (i := 0) (oi := ?_) (v := ?_) ?_ (by kernel_rfl) (by kernel_rfl) (by kernel_rfl) ?_ ?_ h0 ?_
  rotate_left 2
  · simp only [List.getElem?_toArray, List.getElem?_cons_zero]; rfl
  · exact fun _ _ _ h => h
  · refine Or.inl ⟨by rfl, ?_⟩
    intro w hSw
    (try dsimp only at hSw)
    go_simp
    (try with_reducible rfl)
  (try simp only [Act.put, List.setIfInBounds_toArray, List.set_cons_zero, List.set_cons_succ])
  refine wpAnyH_take (i := 1) (oi := ?_) (v := ?_) ?_ (by kernel_rfl) (by kernel_rfl) (by kernel_rfl) ?_ ?_ h0 ?_
  rotate_left 2
  · simp only [List.getElem?_toArray, List.getElem?_cons_zero, List.getElem?_cons_succ]; rfl
  · exact fun _ _ _ h => h
  · refine Or.inl ⟨by rfl, ?_⟩
    intro w hSw
    (try dsimp only at hSw)
    go_simp
    (try with_reducible rfl)
  (try simp only [Act.put, List.setIfInBounds_toArray, List.set_cons_zero, List.set_cons_succ])
  refine wpAnyH_take (i := 2) (oi := ?_) (v := ?_) ?_ (by kernel_rfl) (by kernel_rfl) (by kernel_rfl) ?_ ?_ h0 ?_
  rotate_left 2
  · simp only [List.getElem?_toArray, List.getElem?_cons_zero, List.getElem?_cons_succ]; rfl
  · exact fun _ _ _ h => h
  · refine Or.inl ⟨by rfl, ?_⟩
    intro w hSw
    (try dsimp only at hSw)
    go_simp
    (try with_reducible rfl)
  (try simp only [Act.put, List.setIfInBounds_toArray, List.set_cons_zero, List.set_cons_succ])
  refine wpAnyH_take (i := 3) (oi := ?_) (v := ?_) ?_ (by kernel_rfl) (by kernel_rfl) (by kernel_rfl) ?_ ?_ h0 ?_
  rotate_left 2
  · simp only [List.getElem?_toArray, List.getElem?_cons_zero, List.getElem?_cons_succ]; rfl
  · exact fun _ _ _ h => h
  · refine Or.inl ⟨by rfl, ?_⟩
    intro w hSw
    (try dsimp only at hSw)
    go_simp
    (try with_reducible rfl)
  (try simp only [Act.put, List.setIfInBounds_toArray, List.set_cons_zero, List.set_cons_succ])
  refine wpAnyH_take (i := 4) (oi := ?_) (v := ?_) ?_ (by kernel_rfl) (by kernel_rfl) (by kernel_rfl) ?_ ?_ h0 ?_
  rotate_left 2
  · simp only [List.getElem?_toArray, List.getElem?_cons_zero, List.getElem?_cons_succ]; rfl
  · exact fun _ _ _ h => h
  · refine Or.inl ⟨by rfl, ?_⟩
    intro w hSw
    (try dsimp only at hSw)
    go_simp
    (try with_reducible rfl)
  (try simp only [Act.put, List.setIfInBounds_toArray, List.set_cons_zero, List.set_cons_succ])
  refine wpAnyH_take (i := 5) (oi := ?_) (v := ?_) ?_ (by kernel_rfl) (by kernel_rfl) (by kernel_rfl) ?_ ?_ h0 ?_
  rotate_left 2
  · simp only [List.getElem?_toArray, List.getElem?_cons_zero, List.getElem?_cons_succ]; rfl
  · exact fun _ _ _ h => h
  · refine Or.inl ⟨by rfl, ?_⟩
    intro w hSw
    (try dsimp only at hSw)
    go_simp
    (try with_reducible rfl)
  (try simp only [Act.put, List.setIfInBounds_toArray, List.set_cons_zero, List.set_cons_succ])
  refine wpAnyH_take (i := 6) (oi := ?_) (v := ?_) ?_ (by kernel_rfl) (by kernel_rfl) (by kernel_rfl) ?_ ?_ h0 ?_
  rotate_left 2
  · simp only [List.getElem?_toArray, List.getElem?_cons_zero, List.getElem?_cons_succ]; rfl
  · exact fun _ _ _ h => h
  · refine Or.inl ⟨by rfl, ?_⟩
    intro w hSw
    (try dsimp only at hSw)
    go_simp
    (try with_reducible rfl)
  (try simp only [Act.put, List.setIfInBounds_toArray, List.set_cons_zero, List.set_cons_succ])
  refine wpAnyH_take (i := 7) (oi := ?_) (v := ?_) ?_ (by kernel_rfl) (by kernel_rfl) (by kernel_rfl) ?_ ?_ h0 ?_
  rotate_left 2
  · simp only [List.getElem?_toArray, List.getElem?_cons_zero, List.getElem?_cons_succ]; rfl
  · exact fun _ _ _ h => h
  · refine Or.inl ⟨by rfl, ?_⟩
    intro w hSw
    (try dsimp only at hSw)
    go_simp
    (try with_reducible rfl)
  (try simp only [Act.put, List.setIfInBounds_toArray, List.set_cons_zero, List.set_cons_succ])
  refine wpAnyH_take (i := 8) (oi := ?_) (v := ?_) ?_ (by kernel_rfl) (by kernel_rfl) (by kernel_rfl) ?_ ?_ h0 ?_
  rotate_left 2
  · simp only [List.getElem?_toArray, List.getElem?_cons_zero, List.getElem?_cons_succ]; rfl
  · exact fun _ _ _ h => h
  · refine Or.inl ⟨by rfl, ?_⟩
    intro w hSw
    (try dsimp only at hSw)
    go_simp
    (try with_reducible rfl)
  (try simp only [Act.put, List.setIfInBounds_toArray, List.set_cons_zero, List.set_cons_succ])
  refine wpAnyH_ready (rs := [9]) (by kernel_rfl) (by simp) ?_
  refine AllReadyH.cons (o := ?_) ?_ (fun K hK => ?_) AllReadyH.nil
  rotate_left
  · simp only [List.getElem?_toArray, List.getElem?_cons_zero, List.getElem?_cons_succ]; rfl
  go_simp
  rw [← HA.out]
  refine ST.out.mono ?_
  rintro e w1 ⟨x1, cb, A1, c1, rfl, sl, _⟩
  refine hK.out _ _ (KS.out _ (ext_drew x1)) (fun h1 => ?_)
  clear hK K
  refine wpAnyH_take (i := 10) (oi := ?_) (v := ?_) ?_ (by kernel_rfl) (by kernel_rfl) (by kernel_rfl) ?_ ?_ h1 ?_
  rotate_left 2
  · simp only [List.getElem?_toArray, List.getElem?_cons_zero, List.getElem?_cons_succ]; rfl
  · exact fun _ _ _ h => h
  · refine Or.inl ⟨by rfl, ?_⟩
    intro w hSw
    (try dsimp only at hSw)
    go_simp
    (try with_reducible rfl)
  (try simp only [Act.put, List.setIfInBounds_toArray, List.set_cons_zero, List.set_cons_succ])
  refine wpAnyH_take (i := 11) (oi := ?_) (v := ?_) ?_ (by kernel_rfl) (by kernel_rfl) (by kernel_rfl) ?_ ?_ h1 ?_
  rotate_left 2
  · simp only [List.getElem?_toArray, List.getElem?_cons_zero, List.getElem?_cons_succ]; rfl
  · exact fun _ _ _ h => h
  · refine Or.inl ⟨by rfl, ?_⟩
    intro w hSw
    (try dsimp only at hSw)
    go_simp
    (try with_reducible rfl)
  (try simp only [Act.put, List.setIfInBounds_toArray, List.set_cons_zero, List.set_cons_succ])
  refine wpAnyH_take (i := 12) (oi := ?_) (v := ?_) ?_ (by kernel_rfl) (by kernel_rfl) (by kernel_rfl) ?_ ?_ h1 ?_
  rotate_left 2
  · simp only [List.getElem?_toArray, List.getElem?_cons_zero, List.getElem?_cons_succ]; rfl
  · exact fun _ _ _ h => h
  · refine Or.inl ⟨by rfl, ?_⟩
    intro w hSw
    (try dsimp only at hSw)
    go_simp
    (try with_reducible rfl)
  (try simp only [Act.put, List.setIfInBounds_toArray, List.set_cons_zero, List.set_cons_succ])
  refine wpAnyH_take (i := 13) (oi := ?_) (v := ?_) ?_ (by kernel_rfl) (by kernel_rfl) (by kernel_rfl) ?_ ?_ h1 ?_
  rotate_left 2
  · simp only [List.getElem?_toArray, List.getElem?_cons_zero, List.getElem?_cons_succ]; rfl
  · exact fun _ _ _ h => h
  · refine Or.inl ⟨by rfl, ?_⟩
    intro w hSw
    (try dsimp only at hSw)
    go_simp
    (try with_reducible rfl)
  (try simp only [Act.put, List.setIfInBounds_toArray, List.set_cons_zero, List.set_cons_succ])
  refine wpAnyH_take (i := 14) (oi := ?_) (v := ?_) ?_ (by kernel_rfl) (by kernel_rfl) (by kernel_rfl) ?_ ?_ h1 ?_
  rotate_left 2
  · simp only [List.getElem?_toArray, List.getElem?_cons_zero, List.getElem?_cons_succ]; rfl
  · exact fun _ _ _ h => h
  · refine Or.inl ⟨by rfl, ?_⟩
    intro w hSw
    (try dsimp only at hSw)
    go_simp
    (try with_reducible rfl)
  (try simp only [Act.put, List.setIfInBounds_toArray, List.set_cons_zero, List.set_cons_succ])
  refine wpAnyH_done (by kernel_rfl) ?_ _
  refine NoPanic.normal ?_
  clear h0 h1 KS
  have x1 : Ext WA w1 := ext_drew x1
  have SN1 := SN.ext x1
  have kR := kR.ext x1
  have kF := kF.ext x1
  have X1 := X0.trans x1
  generalize placesO (seqC D j) = ks at *
  obtain ⟨q, hq⟩ : ∃ q, q = ks.length := ⟨_, rfl⟩
  rw [← hq] at sl LT ⊢
  have HQ := Lib.hid hq
  have hq300 : q ≤ 300 := by have := HQ.out; omega
  clear hq q0 q1 q2 q3 q4 q5 q6 q7 q8 q9 q10 e0 e1 e2 e3 e4 e5 ST x1 wa
  go_wp2_with fail
  go_loopw [10] (fun i wr => ∃ (k : Nat), k ≤ q ∧ i = .int .i64 k ∧ Hid (ruleO D b ((ks.take k).map some) = none) ∧ Ext w1 wr) (fun i _ => q - (intOf i).toNat)
  case atStart => exact ⟨0, by omega, rfl, rfl, Ext.refl _⟩
  case round =>
    obtain ⟨k, hk, rfl, hno, X⟩ := hrel
    have HX := Lib.hid X
    by_cases hlt : k < q
    · have hltk : k < ks.length := by rw [← HQ.out]; exact hlt
      obtain ⟨al, rfl, hcl⟩ := (sl.ext X).get hlt
      have hp := LT.out k hlt
      obtain ⟨as', hAS, s0, s1, s2, s3⟩ := row4 (SN1.ext X).os hp
      have q8 : wr.cell? ⟨b0, 8, none⟩ = some (.slice P.xs D.ns P.zs) := (kF.ext X).cell 8
      rw [hAS] at q8
      have HT := Lib.hid (take_snoc hltk)
      have hp64 : ((ks.getD k 0 : Nat) : Int) < (D.ns : Int) := by omega
      generalize ks.getD k 0 = p at *
      have HAS := Lib.hid hAS
      have kRr := kR.ext X
      clear hAS X
      by_cases hm : D.stp p 1 = b
      · have hm0 : (D.stp p 1 == b) = true := by simpa using hm
        have YES := Lib.hid (show ruleD D a b = some p by
          rw [HR.out]
          have e : ks.map some = (ks.take (k + 1)).map some ++ (ks.drop (k + 1)).map some := by rw [← List.map_append, List.take_append_drop]
          rw [e]
          refine ruleO_pre _ ?_
          rw [HT.out, List.map_append]
          exact ruleO_yes hm _ hno.out)
        clear hm
        have HKR := Lib.hid kRr
        clear kRr
        go_wp2_with fail
        go_quiet (fail)
        go_wp2_with fail
        generalize hW2 : World.drewN wr _ = W2
        have y2 : Ext wr W2 := by rw [← hW2]; exact (Ext.refl _).drewN _
        clear hW2
        have q8 := y2.at q8; have hcl := y2.at hcl; have s0 := y2.at s0; have s1 := y2.at s1; have s2 := y2.at s2; have s3 := y2.at s3
        have kR2 := HKR.out.ext y2
        have r0 : W2.cell? ⟨b1, 0, none⟩ = some (.int .i64 0) := kR2.cell 0
        have f0 := kR2.free 0
        have r1 : W2.cell? ⟨b1, 1, none⟩ = some (.int .i64 0) := kR2.cell 1
        have f1 := kR2.free 1
        have r2 : W2.cell? ⟨b1, 2, none⟩ = some (.int .i64 0) := kR2.cell 2
        have f2 := kR2.free 2
        have r3 : W2.cell? ⟨b1, 3, none⟩ = some (.int .i64 0) := kR2.cell 3
        have f3 := kR2.free 3
        go_still_tail 8, (by kernel_rfl)
        change wpList _ _ _ _ _ W2.drew
        have kR3 : Blk W2.drew b1 53 [.int .i64 0, .int .i64 0, .int .i64 0, .int .i64 0] := kR2.ext ((Ext.refl _).drew)
        have X5 : Ext w W2.drew := (X1.trans (HX.out.trans y2)).drew
        go_wp2_with fail
        refine bodyPost_ret (results_step2 rfl _ _ b1 53 (.int .i64 (D.stp p 0)) (.int .i64 (D.stp p 1)) (.int .i64 (D.stp p 2)) (.int .i64 (D.stp p 3)) (.bool true) rfl rfl ((((kR3.set 0 (.int .i64 (D.stp p 0))).set 1 (.int .i64 (D.stp p 1))).set 2 (.int .i64 (D.stp p 2))).set 3 (.int .i64 (D.stp p 3)))) rfl ?_
        refine ⟨?_, ?_⟩
        · rw [ruleV, YES.out]
        · exact ((((X5.setCell (by show _ ≤ b1; omega) _).setCell (by show _ ≤ b1; omega) _).setCell (by show _ ≤ b1; omega) _).setCell (by show _ ≤ b1; omega) _)
      · have hm0 : (D.stp p 1 == b) = false := by simpa using hm
        have HN := Lib.hid (show ruleO D b ((ks.take (k + 1)).map some) = none by
          rw [HT.out, List.map_append]
          exact ruleO_no (fun k' e h => by cases e; exact hm h) _ hno.out)
        clear hm kRr
        go_wp2_with fail
        go_quiet (fail)
        go_wp2_with fail
        go_roundw
        case rel => exact ⟨k + 1, by omega, by go_num, HN, HX.out.drewN _⟩
        case measure => simp [intOf]; omega
    · obtain rfl : k = q := by omega
      have NO := Lib.hid (show ruleD D a b = none by
        rw [HR.out]
        have := hno.out
        rw [HQ.out, List.take_length] at this
        exact this)
      have kRr := kR.ext X
      have r0 : wr.cell? ⟨b1, 0, none⟩ = some (.int .i64 0) := kRr.cell 0
      have f0 := kRr.free 0
      have r1 : wr.cell? ⟨b1, 1, none⟩ = some (.int .i64 0) := kRr.cell 1
      have f1 := kRr.free 1
      have r2 : wr.cell? ⟨b1, 2, none⟩ = some (.int .i64 0) := kRr.cell 2
      have f2 := kRr.free 2
      have r3 : wr.cell? ⟨b1, 3, none⟩ = some (.int .i64 0) := kRr.cell 3
      have f3 := kRr.free 3
      clear X
      go_wp2_with fail
      refine bodyPost_ret (results_step2 rfl _ _ b1 53 (.int .i64 0) (.int .i64 0) (.int .i64 0) (.int .i64 0) (.bool false) rfl rfl ((((kRr.set 0 (.int .i64 0)).set 1 (.int .i64 0)).set 2 (.int .i64 0)).set 3 (.int .i64 0))) rfl ?_
      refine ⟨?_, ?_⟩
      · rw [ruleV, NO.out]
      · exact (((((X1.trans HX.out).setCell (by show _ ≤ b1; omega) _).setCell (by show _ ≤ b1; omega) _).setCell (by show _ ≤ b1; omega) _).setCell (by show _ ≤ b1; omega) _)
end L08
end Go.Proofs.Ytijhabhnhglhgaa

