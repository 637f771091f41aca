/- The document's Check. -/
import Derived.Test.YtijhabhnhglhgaaRPairs08
import Derived.Deep.WholeRow
namespace Go.Proofs.Ytijhabhnhglhgaa
open Go.RowKit Go.Lib Go.Deep
namespace L08
open L07

theorem lig_no {D : FontD} {j : Nat} (hj : j < D.nc) (h : ¬ okC D j) : ligB D = false := by
  rw [ligB, makeD]
  split
  · rw [makeL_no h _ hj]; rfl
  · rfl
theorem lig_head {D : FontD} (h : checkB D = false) : ligB D = false := by
  rw [ligB, makeD, if_neg (by rw [h]; exact Bool.noConfusion)]; rfl
theorem lig_puts {D : FontD} (h : checkB D = true) (ha : ∀ j, j < D.nc → okC D j) : ligB D = (putsL D (pairsD D D.nc) (fun _ => none)).isSome := by
  rw [ligB, makeD, if_pos h, makeL_puts _ ha]
theorem opB_row {D : FontD} {k : Nat} : opB D k = (decide (D.stp k 2 = 0) || (decide (128 ≤ D.stp k 2) && decide (256 * (D.stp k 2 - 128) + D.stp k 3 < D.nk))) := rfl
theorem okC_no {D : FontD} {j i : Nat} (hi : i < (placesO (seqC D j)).length) (h : opB D ((placesO (seqC D j)).getD i 0) = false) : ¬ okC D j := fun ho => by
  rw [List.getD, List.getElem?_eq_getElem hi] at h
  obtain ⟨k, e, hk⟩ := ho _ (placesO_mem (List.getElem_mem hi))
  cases e
  rw [Option.getD_some] at h
  rw [h] at hk
  exact Bool.noConfusion hk
theorem okC_yes {D : FontD} {j : Nat} (hn : ∀ x ∈ seqC D j, x ≠ none) (h : ∀ i, i < (placesO (seqC D j)).length → opB D ((placesO (seqC D j)).getD i 0) = true) : okC D j := fun x hx => by
  cases x with
  | none => exact absurd rfl (hn _ hx)
  | some k =>
    refine ⟨k, rfl, ?_⟩
    have hm : ∀ {l : List (Option Nat)}, some k ∈ l → k ∈ placesO l := by
      intro l
      induction l with
      | nil => intro h; cases h
      | cons y r ih =>
        intro h
        cases y with
        | none => exact ih (by simpa using h)
        | some k' =>
          rcases List.mem_cons.1 h with e | e
          · cases e; exact List.mem_cons_self ..
          · exact List.mem_cons_of_mem _ (ih e)
    obtain ⟨i, hi, e⟩ := List.getElem_of_mem (hm hx)
    have := h i hi
    rw [List.getD, List.getElem?_eq_getElem hi, Option.getD_some, e] at this
    exact this

theorem zero256s : ∃ Z : Array Value, (∀ w, (zeroValue 71).run Try.prog w = .ok (.agg Z) w) ∧ Z.size = 256 ∧ (∀ w : World, (storeCells ⟨w.heap.size, 0, none⟩ Z.toList 0).run Try.prog (w.alloc (.cells Z 71)) = .ok () (w.alloc (.cells Z 71))) ∧ ∀ j : Nat, j < 256 → Z[j]? = some (.bool false) := by
  refine ⟨Array.replicate 256 (.bool false), fun w => by kernel_rfl, by simp, fun w => ?_, fun j hj => by simp [hj]⟩
  refine run_storeCells_new w _ _ _ ?_ rfl (by decide +kernel)
  rw [Array.size_replicate]
  kernel_rfl
theorem row3 {w : World} {A : Option Addr} {n : Nat} {f : Nat → Nat → Int} (h : SeenN 3 w A n f) {k : Nat} (hk : k < n) :
    ∃ ad, A = some ad ∧ w.cell? (ad.add (k * 3)) = some (.int .i64 (f k 0)) ∧ w.cell? ⟨(ad.add (k * 3)).block, (ad.add (k * 3)).off + 1, none⟩ = some (.int .i64 (f k 1)) ∧ w.cell? ⟨(ad.add (k * 3)).block, (ad.add (k * 3)).off + 2, none⟩ = some (.int .i64 (f k 2)) := by
  obtain ⟨ad, rfl, _, h0⟩ := h k hk 0 (by omega)
  have g : ∀ j, j < 3 → w.cell? (ad.add (k * 3 + j)) = some (.int .i64 (f k j)) := fun j hj => by
    obtain ⟨ad', e, _, hc⟩ := h k hk j hj
    obtain rfl : ad = ad' := by simpa using e
    exact hc
  have g1 := g 1 (by omega); have g2 := g 2 (by omega)
  rw [← addr_add] at g1 g2
  exact ⟨ad, rfl, h0, g1, g2⟩
theorem pairsI_in {D : FontD} (IN : FontIn D) {c : Int} {ks : List Nat} (hk : ∀ i, i < ks.length → ks.getD i 0 < D.ns) : ∀ i, i ≤ ks.length → ∀ p ∈ pairsI D c ks i, 0 ≤ p.2.2 ∧ p.2.2 < 256
  | 0, _, p, h => by cases h
  | i + 1, hi, p, h => by
    rw [pairsI] at h
    rcases List.mem_append.1 h with h | h
    · exact pairsI_in IN hk i (by omega) p h
    · split at h
      · obtain rfl := List.mem_singleton.1 h
        exact (IN.stp _ (hk i (by omega))).2.2.2
      · cases h
theorem pairsD_in {D : FontD} (IN : FontIn D) : ∀ n, ∀ p ∈ pairsD D n, 0 ≤ p.2.2 ∧ p.2.2 < 256
  | 0, p, h => by cases h
  | n + 1, p, h => by
    rw [pairsD] at h
    rcases List.mem_append.1 h with h | h
    · exact pairsD_in IN n p h
    · exact pairsI_in IN (fun i hi => places_lt hi) _ (Nat.le_refl _) p h
theorem pairsD_length {D : FontD} (h : D.ns ≤ 256) : ∀ n, (pairsD D n).length ≤ 300 * n
  | 0 => by simp [pairsD]
  | n + 1 => by
    have h0 := pairsD_length h n
    have h1 := pairsI_length D (D.first + n) (placesO (seqC D n)) (placesO (seqC D n)).length
    have h2 := Nat.le_trans (placesO_length (seqC D n)) (seqC_length D n)
    rw [pairsD, pairsC, List.length_append]; omega
theorem puts_no {D : FontD} {ps : List Tri} {i : Nat} (hi : i < ps.length) {m : MapN} (h : putsL D (ps.take i) (fun _ => none) = some m) {a b c : Int} (he : (a, b, c) = ps.getD i (0, 0, 0)) (hb : (m c).isSome = true ∨ mayT D (a, b, c) = false) : (putsL D ps (fun _ => none)).isSome = false := by
  have e : ps = ps.take i ++ ((a, b, c) :: ps.drop (i + 1)) := by
    rw [he, List.getD, List.getElem?_eq_getElem hi, Option.getD_some, ← List.drop_eq_getElem_cons hi, List.take_append_drop]
  refine (congrArg (fun l => (putsL D l (fun _ => none)).isSome) e).trans ?_
  show (putsL D (ps.take i ++ _) _).isSome = false
  rw [putsL_append, h, Option.bind_some, putsL, if_pos hb]; rfl
theorem puts_yes {D : FontD} {ps : List Tri} {i : Nat} (hi : i < ps.length) {m : MapN} (h : putsL D (ps.take i) (fun _ => none) = some m) {a b c : Int} (he : (a, b, c) = ps.getD i (0, 0, 0)) (hb : ¬ ((m c).isSome = true ∨ mayT D (a, b, c) = false)) : putsL D (ps.take (i + 1)) (fun _ => none) = some (fun y => if y = c then some (a, b) else m y) := by
  have e : ps.take (i + 1) = ps.take i ++ [(a, b, c)] := by
    rw [he, List.getD, List.getElem?_eq_getElem hi, Option.getD_some, List.take_succ_eq_append_getElem hi]
  rw [e, putsL_append, h, Option.bind_some, putsL, if_neg hb]; rfl

set_option maxRecDepth 100000 in
set_option maxHeartbeats 3000000 in
theorem rcheck_any (D : FontD) (P : FontP) (w : World) (ok : FontOk D P) (sn : SeenFont w D P) :
    Calls Try.prog 18 #[fontV D P] w (Ret w (.bool (ligB D))) := by
  have W0 : Ext w (w.alloc (.cells #[.int .i64 D.sum, .int .i64 D.design, .int .i64 D.first, .slice P.xc D.nc P.zc, .slice P.xw D.nw P.zw, .slice P.xh D.nh P.zh, .slice P.xd D.nd P.zd, .slice P.xi D.ni P.zi, .slice P.xs D.ns P.zs, .slice P.xk D.nk P.zk, .slice P.xp D.np P.zp] 28)) := (Ext.refl _).alloc _
  have kF : Blk (w.alloc (.cells #[.int .i64 D.sum, .int .i64 D.design, .int .i64 D.first, .slice P.xc D.nc P.zc, .slice P.xw D.nw P.zw, .slice P.xh D.nh P.zh, .slice P.xd D.nd P.zd, .slice P.xi D.ni P.zi, .slice P.xs D.ns P.zs, .slice P.xk D.nk P.zk, .slice P.xp D.np P.zp] 28)) w.heap.size 28 [.int .i64 D.sum, .int .i64 D.design, .int .i64 D.first, .slice P.xc D.nc P.zc, .slice P.xw D.nw P.zw, .slice P.xh D.nh P.zh, .slice P.xd D.nd P.zd, .slice P.xi D.ni P.zi, .slice P.xs D.ns P.zs, .slice P.xk D.nk P.zk, .slice P.xp D.np P.zp] := Blk.lit _ _ _ _ rfl
  have SN := Lib.hid (fun w' (x : Ext (w.alloc (.cells #[.int .i64 D.sum, .int .i64 D.design, .int .i64 D.first, .slice P.xc D.nc P.zc, .slice P.xw D.nw P.zw, .slice P.xh D.nh P.zh, .slice P.xd D.nd P.zd, .slice P.xi D.ni P.zi, .slice P.xs D.ns P.zs, .slice P.xk D.nk P.zk, .slice P.xp D.np P.zp] 28)) w') => (sn.ext W0).ext x)
  have T := Lib.hid (check_any D P _ ok (sn.ext W0))
  have HAS := Lib.hid (fun (n : Int) w' (x : Ext (w.alloc (.cells #[.int .i64 D.sum, .int .i64 D.design, .int .i64 D.first, .slice P.xc D.nc P.zc, .slice P.xw D.nw P.zw, .slice P.xh D.nh P.zh, .slice P.xd D.nd P.zd, .slice P.xi D.ni P.zi, .slice P.xs D.ns P.zs, .slice P.xk D.nk P.zk, .slice P.xp D.np P.zp] 28)) w') (hn : -9223372036854775808 ≤ n ∧ n ≤ 9223372036854775807) => show Calls Try.prog 39 #[.agg #[.int .i64 D.sum, .int .i64 D.design, .int .i64 D.first, .slice P.xc D.nc P.zc, .slice P.xw D.nw P.zw, .slice P.xh D.nh P.zh, .slice P.xd D.nd P.zd, .slice P.xi D.ni P.zi, .slice P.xs D.ns P.zs, .slice P.xk D.nk P.zk, .slice P.xp D.np P.zp], .int .i64 n] w' (Ret w' (.bool (hasB D n))) from rhas_any D P n w' ok (sn.ext (W0.trans x)) hn)
  clear sn ok
  unfold fontV at *
  go_enter Try.func18, Try.ntmps18
  go_wp2_with fail
  refine T.out.mono ?_
  rintro e w1 ⟨rfl, x1⟩
  generalize (w.alloc (.cells #[.int .i64 D.sum, .int .i64 D.design, .int .i64 D.first, .slice P.xc D.nc P.zc, .slice P.xw D.nw P.zw, .slice P.xh D.nh P.zh, .slice P.xd D.nd P.zd, .slice P.xi D.ni P.zi, .slice P.xs D.ns P.zs, .slice P.xk D.nk P.zk, .slice P.xp D.np P.zp] 28)) = V at *
  generalize w.heap.size = B at *
  cases hc : checkB D with
  | false =>
    have HN := Lib.hid (lig_head hc)
    go_wp2_with fail
    go_ret
    exact ⟨ret_bool HN.out.symm, W0.trans x1⟩
  | true =>
  have IN := Lib.hid (check_in hc)
  have hnc := (check_in hc).nc
  have hf := (check_in hc).first
  have hns := (check_in hc).ns
  have hnk := (check_in hc).nk
  have HD := Lib.hid hc
  have HX1 := Lib.hid x1
  clear hc T
  have hnc64 : (D.nc : Int) ≤ 256 := by omega
  go_wp2_with fail
  go_loopw [4] (fun i wr => ∃ (j : Nat), j ≤ D.nc ∧ i = .int .i64 j ∧ Hid (∀ j', j' < j → okC D j') ∧ Ext V wr) (fun i _ => D.nc - (intOf i).toNat)
  case atStart => exact ⟨0, by omega, rfl, Lib.hid (fun j' h => absurd h (Nat.not_lt_zero _)), HX1.out⟩
  case round =>
    obtain ⟨j, hj, rfl, hall, X⟩ := hrel
    obtain ⟨wp, rfl⟩ : ∃ wp : World, wp = wr := ⟨_, rfl⟩
    by_cases hlt : j < D.nc
    · have k1 := kF.ext X
      have q0 : wp.cell? ⟨B, 0, none⟩ = some (.int .i64 D.sum) := k1.cell 0
      have q1 : wp.cell? ⟨B, 1, none⟩ = some (.int .i64 D.design) := k1.cell 1
      have q2 : wp.cell? ⟨B, 2, none⟩ = some (.int .i64 D.first) := k1.cell 2
      have q3 : wp.cell? ⟨B, 3, none⟩ = some (.slice P.xc D.nc P.zc) := k1.cell 3
      have q4 : wp.cell? ⟨B, 4, none⟩ = some (.slice P.xw D.nw P.zw) := k1.cell 4
      have q5 : wp.cell? ⟨B, 5, none⟩ = some (.slice P.xh D.nh P.zh) := k1.cell 5
      have q6 : wp.cell? ⟨B, 6, none⟩ = some (.slice P.xd D.nd P.zd) := k1.cell 6
      have q7 : wp.cell? ⟨B, 7, none⟩ = some (.slice P.xi D.ni P.zi) := k1.cell 7
      have q8 : wp.cell? ⟨B, 8, none⟩ = some (.slice P.xs D.ns P.zs) := k1.cell 8
      have q9 : wp.cell? ⟨B, 9, none⟩ = some (.slice P.xk D.nk P.zk) := k1.cell 9
      have q10 : wp.cell? ⟨B, 10, none⟩ = some (.slice P.xp D.np P.zp) := k1.cell 10
      have lb := k1.lt
      obtain ⟨ad, hA, e0, e1, e2, e3, e4, e5⟩ := row6 (SN.out _ X).oc hlt
      rw [hA] at q3
      have HA := Lib.hid hA
      have ht := (IN.out.chr _ hlt).2.2.2.2
      have KS := Lib.hid (fun w' (x : Ext wp w') => show w'.cell? ⟨B, 0, none⟩ = some (.int .i64 D.sum) ∧ w'.cell? ⟨B, 1, none⟩ = some (.int .i64 D.design) ∧ w'.cell? ⟨B, 2, none⟩ = some (.int .i64 D.first) ∧ w'.cell? ⟨B, 3, none⟩ = some (.slice (some ad) D.nc P.zc) ∧ w'.cell? ⟨B, 4, none⟩ = some (.slice P.xw D.nw P.zw) ∧ w'.cell? ⟨B, 5, none⟩ = some (.slice P.xh D.nh P.zh) ∧ w'.cell? ⟨B, 6, none⟩ = some (.slice P.xd D.nd P.zd) ∧ w'.cell? ⟨B, 7, none⟩ = some (.slice P.xi D.ni P.zi) ∧ w'.cell? ⟨B, 8, none⟩ = some (.slice P.xs D.ns P.zs) ∧ w'.cell? ⟨B, 9, none⟩ = some (.slice P.xk D.nk P.zk) ∧ w'.cell? ⟨B, 10, none⟩ = some (.slice P.xp D.np P.zp) ∧ w'.cell? (ad.add (j * 6)) = some (.int .i64 (D.chr j 0)) ∧ w'.cell? ⟨(ad.add (j * 6)).block, (ad.add (j * 6)).off + 1, none⟩ = some (.int .i64 (D.chr j 1)) ∧ w'.cell? ⟨(ad.add (j * 6)).block, (ad.add (j * 6)).off + 2, none⟩ = some (.int .i64 (D.chr j 2)) ∧ w'.cell? ⟨(ad.add (j * 6)).block, (ad.add (j * 6)).off + 3, none⟩ = some (.int .i64 (D.chr j 3)) ∧ w'.cell? ⟨(ad.add (j * 6)).block, (ad.add (j * 6)).off + 4, none⟩ = some (.int .i64 (D.chr j 4)) ∧ w'.cell? ⟨(ad.add (j * 6)).block, (ad.add (j * 6)).off + 5, none⟩ = some (.int .i64 (D.chr j 5)) from ⟨x.at q0, x.at q1, x.at q2, x.at q3, x.at q4, x.at q5, x.at q6, x.at q7, x.at q8, x.at q9, x.at q10, x.at e0, x.at e1, x.at e2, x.at e3, x.at e4, x.at e5⟩)
      have ST := Lib.hid (show Calls Try.prog 38 #[.agg #[.int .i64 D.sum, .int .i64 D.design, .int .i64 D.first, .slice P.xc D.nc P.zc, .slice P.xw D.nw P.zw, .slice P.xh D.nh P.zh, .slice P.xd D.nd P.zd, .slice P.xi D.ni P.zi, .slice P.xs D.ns P.zs, .slice P.xk D.nk P.zk, .slice P.xp D.np P.zp], .agg #[.int .i64 (D.chr j 0), .int .i64 (D.chr j 1), .int .i64 (D.chr j 2), .int .i64 (D.chr j 3), .int .i64 (D.chr j 4), .int .i64 (D.chr j 5)]] wp.drew (StepsQ D (seqC D j) wp.drew) from rsteps_any D P _ _ _ _ _ _ _ (SN.out _ X.drew) HD.out (by omega))
      have hpl := Nat.le_trans (placesO_length (seqC D j)) (seqC_length D j)
      have LT := Lib.hid (fun i (h : i < (placesO (seqC D j)).length) => places_lt (D := D) (j := j) h)
      have NO := Lib.hid (fun i (h : i < (placesO (seqC D j)).length) (ho : opB D ((placesO (seqC D j)).getD i 0) = false) => (lig_no hlt (okC_no h ho)).symm)
      have YES := Lib.hid (fun (hn : ∀ x ∈ seqC D j, x ≠ none) (h : ∀ i, i < (placesO (seqC D j)).length → opB D ((placesO (seqC D j)).getD i 0) = true) => okC_yes hn h)
      have hj64 : (j : Int) < (D.nc : Int) := by omega
      have HX := Lib.hid X
      clear q0 q1 q2 q4 q5 q6 q7 q8 q9 q10 e0 e1 e2 e3 e4 e5 hA ht X
      go_wp2_with fail
      refine wp_region_noPanic ?_
      refine wp_region_held_drew (S := (fun w' => w'.cell? ⟨B, 0, none⟩ = some (.int .i64 D.sum) ∧ w'.cell? ⟨B, 1, none⟩ = some (.int .i64 D.design) ∧ w'.cell? ⟨B, 2, none⟩ = some (.int .i64 D.first) ∧ w'.cell? ⟨B, 3, none⟩ = some (.slice (some ad) D.nc P.zc) ∧ w'.cell? ⟨B, 4, none⟩ = some (.slice P.xw D.nw P.zw) ∧ w'.cell? ⟨B, 5, none⟩ = some (.slice P.xh D.nh P.zh) ∧ w'.cell? ⟨B, 6, none⟩ = some (.slice P.xd D.nd P.zd) ∧ w'.cell? ⟨B, 7, none⟩ = some (.slice P.xi D.ni P.zi) ∧ w'.cell? ⟨B, 8, none⟩ = some (.slice P.xs D.ns P.zs) ∧ w'.cell? ⟨B, 9, none⟩ = some (.slice P.xk D.nk P.zk) ∧ w'.cell? ⟨B, 10, none⟩ = some (.slice P.xp D.np P.zp) ∧ w'.cell? (ad.add (j * 6)) = some (.int .i64 (D.chr j 0)) ∧ w'.cell? ⟨(ad.add (j * 6)).block, (ad.add (j * 6)).off + 1, none⟩ = some (.int .i64 (D.chr j 1)) ∧ w'.cell? ⟨(ad.add (j * 6)).block, (ad.add (j * 6)).off + 2, none⟩ = some (.int .i64 (D.chr j 2)) ∧ w'.cell? ⟨(ad.add (j * 6)).block, (ad.add (j * 6)).off + 3, none⟩ = some (.int .i64 (D.chr j 3)) ∧ w'.cell? ⟨(ad.add (j * 6)).block, (ad.add (j * 6)).off + 4, none⟩ = some (.int .i64 (D.chr j 4)) ∧ w'.cell? ⟨(ad.add (j * 6)).block, (ad.add (j * 6)).off + 5, none⟩ = some (.int .i64 (D.chr j 5)))) (by kernel_rfl) (KS.out _ ((Ext.refl _).drew)) (fun h0 => ?_)
      refine wpAnyH_take (i := 0) (oi := ?_) (v := ?_) ?_ (by kernel_rfl) (by kernel_rfl) (by kernel_rfl) ?_ ?_ h0 ?_
      rotate_left 2
      · simp only [List.getElem?_toArray, List.getElem?_cons_zero]; rfl
      · exact fun _ _ _ h => h
      · refine Or.inl ⟨by rfl, ?_⟩
        intro w hSw
        (try dsimp only at hSw)
        go_simp
        (try with_reducible rfl)
      (try simp only [Act.put, List.setIfInBounds_toArray, List.set_cons_zero, List.set_cons_succ])
      refine wpAnyH_take (i := 1) (oi := ?_) (v := ?_) ?_ (by kernel_rfl) (by kernel_rfl) (by kernel_rfl) ?_ ?_ h0 ?_
      rotate_left 2
      · simp only [List.getElem?_toArray, List.getElem?_cons_zero, List.getElem?_cons_succ]; rfl
      · exact fun _ _ _ h => h
      · refine Or.inl ⟨by rfl, ?_⟩
        intro w hSw
        (try dsimp only at hSw)
        go_simp
        (try with_reducible rfl)
      (try simp only [Act.put, List.setIfInBounds_toArray, List.set_cons_zero, List.set_cons_succ])
      refine wpAnyH_take (i := 2) (oi := ?_) (v := ?_) ?_ (by kernel_rfl) (by kernel_rfl) (by kernel_rfl) ?_ ?_ h0 ?_
      rotate_left 2
      · simp only [List.getElem?_toArray, List.getElem?_cons_zero, List.getElem?_cons_succ]; rfl
      · exact fun _ _ _ h => h
      · refine Or.inl ⟨by rfl, ?_⟩
        intro w hSw
        (try dsimp only at hSw)
        go_simp
        (try with_reducible rfl)
      (try simp only [Act.put, List.setIfInBounds_toArray, List.set_cons_zero, List.set_cons_succ])
      refine wpAnyH_take (i := 3) (oi := ?_) (v := ?_) ?_ (by kernel_rfl) (by kernel_rfl) (by kernel_rfl) ?_ ?_ h0 ?_
      rotate_left 2
      · simp only [List.getElem?_toArray, List.getElem?_cons_zero, List.getElem?_cons_succ]; rfl
      · exact fun _ _ _ h => h
      · refine Or.inl ⟨by rfl, ?_⟩
        intro w hSw
        (try dsimp only at hSw)
        go_simp
        (try with_reducible rfl)
      (try simp only [Act.put, List.setIfInBounds_toArray, List.set_cons_zero, List.set_cons_succ])
      refine wpAnyH_take (i := 4) (oi := ?_) (v := ?_) ?_ (by kernel_rfl) (by kernel_rfl) (by kernel_rfl) ?_ ?_ h0 ?_
      rotate_left 2
      · simp only [List.getElem?_toArray, List.getElem?_cons_zero, List.getElem?_cons_succ]; rfl
      · exact fun _ _ _ h => h
      · refine Or.inl ⟨by rfl, ?_⟩
        intro w hSw
        (try dsimp only at hSw)
        go_simp
        (try with_reducible rfl)
      (try simp only [Act.put, List.setIfInBounds_toArray, List.set_cons_zero, List.set_cons_succ])
      refine wpAnyH_take (i := 5) (oi := ?_) (v := ?_) ?_ (by kernel_rfl) (by kernel_rfl) (by kernel_rfl) ?_ ?_ h0 ?_
      rotate_left 2
      · simp only [List.getElem?_toArray, List.getElem?_cons_zero, List.getElem?_cons_succ]; rfl
      · exact fun _ _ _ h => h
      · refine Or.inl ⟨by rfl, ?_⟩
        intro w hSw
        (try dsimp only at hSw)
        go_simp
        (try with_reducible rfl)
      (try simp only [Act.put, List.setIfInBounds_toArray, List.set_cons_zero, List.set_cons_succ])
      refine wpAnyH_ready (rs := [6]) (by kernel_rfl) (by simp) ?_
      refine AllReadyH.cons (o := ?_) ?_ (fun K hK => ?_) AllReadyH.nil
      rotate_left
      · simp only [List.getElem?_toArray, List.getElem?_cons_zero, List.getElem?_cons_succ]; rfl
      go_simp
      rw [← HA.out]
      refine ST.out.mono ?_
      rintro e w1 ⟨x1, cb, A1, c1, rfl, sl, hcb, _⟩
      refine hK.out _ _ (KS.out _ (ext_drew x1)) (fun h1 => ?_)
      clear hK K
      refine wpAnyH_take (i := 7) (oi := ?_) (v := ?_) ?_ (by kernel_rfl) (by kernel_rfl) (by kernel_rfl) ?_ ?_ h1 ?_
      rotate_left 2
      · simp only [List.getElem?_toArray, List.getElem?_cons_zero, List.getElem?_cons_succ]; rfl
      · exact fun _ _ _ h => h
      · refine Or.inl ⟨by rfl, ?_⟩
        intro w hSw
        (try dsimp only at hSw)
        go_simp
        (try with_reducible rfl)
      (try simp only [Act.put, List.setIfInBounds_toArray, List.set_cons_zero, List.set_cons_succ])
      refine wpAnyH_take (i := 8) (oi := ?_) (v := ?_) ?_ (by kernel_rfl) (by kernel_rfl) (by kernel_rfl) ?_ ?_ h1 ?_
      rotate_left 2
      · simp only [List.getElem?_toArray, List.getElem?_cons_zero, List.getElem?_cons_succ]; rfl
      · exact fun _ _ _ h => h
      · refine Or.inl ⟨by rfl, ?_⟩
        intro w hSw
        (try dsimp only at hSw)
        go_simp
        (try with_reducible rfl)
      (try simp only [Act.put, List.setIfInBounds_toArray, List.set_cons_zero, List.set_cons_succ])
      refine wpAnyH_take (i := 9) (oi := ?_) (v := ?_) ?_ (by kernel_rfl) (by kernel_rfl) (by kernel_rfl) ?_ ?_ h1 ?_
      rotate_left 2
      · simp only [List.getElem?_toArray, List.getElem?_cons_zero, List.getElem?_cons_succ]; rfl
      · exact fun _ _ _ h => h
      · refine Or.inl ⟨by rfl, ?_⟩
        intro w hSw
        (try dsimp only at hSw)
        go_simp
        (try with_reducible rfl)
      (try simp only [Act.put, List.setIfInBounds_toArray, List.set_cons_zero, List.set_cons_succ])
      refine wpAnyH_take (i := 10) (oi := ?_) (v := ?_) ?_ (by kernel_rfl) (by kernel_rfl) (by kernel_rfl) ?_ ?_ h1 ?_
      rotate_left 2
      · simp only [List.getElem?_toArray, List.getElem?_cons_zero, List.getElem?_cons_succ]; rfl
      · exact fun _ _ _ h => h
      · refine Or.inl ⟨by rfl, ?_⟩
        intro w hSw
        (try dsimp only at hSw)
        go_simp
        (try with_reducible rfl)
      (try simp only [Act.put, List.setIfInBounds_toArray, List.set_cons_zero, List.set_cons_succ])
      refine wpAnyH_take (i := 11) (oi := ?_) (v := ?_) ?_ (by kernel_rfl) (by kernel_rfl) (by kernel_rfl) ?_ ?_ h1 ?_
      rotate_left 2
      · simp only [List.getElem?_toArray, List.getElem?_cons_zero, List.getElem?_cons_succ]; rfl
      · exact fun _ _ _ h => h
      · refine Or.inl ⟨by rfl, ?_⟩
        intro w hSw
        (try dsimp only at hSw)
        go_simp
        (try with_reducible rfl)
      (try simp only [Act.put, List.setIfInBounds_toArray, List.set_cons_zero, List.set_cons_succ])
      refine wpAnyH_done (by kernel_rfl) ?_ _
      refine NoPanic.normal ?_
      clear h0 h1 KS ST

      have x1 : Ext wp w1 := ext_drew x1
      have HX2 := Lib.hid (HX.out.trans x1)
      have HCB := Lib.hid hcb
      clear hcb k1 lb x1 q3
      cases cb
      · have HN := Lib.hid (show false = ligB D from (lig_no hlt (fun ho => by
          refine Bool.noConfusion (HCB.out.2 (fun x hx e => ?_))
          obtain ⟨k, ek, _⟩ := ho x hx
          rw [e] at ek; cases ek)).symm)
        go_wp2_with fail
        go_ret
        exact ⟨ret_bool HN.out, W0.trans HX2.out⟩
      · have HNN := Lib.hid (HCB.out.1 rfl)
        generalize placesO (seqC D j) = ks at *
        obtain ⟨q, hq⟩ : ∃ q, q = ks.length := ⟨_, rfl⟩
        rw [← hq] at sl LT NO YES hpl ⊢
        have hq300 : (q : Int) ≤ 258 := by omega
        clear hq HCB
        go_wp2_with fail
        go_loopw [7] (fun i wr => ∃ (k : Nat), k ≤ q ∧ i = .int .i64 k ∧ Hid (∀ k', k' < k → opB D (ks.getD k' 0) = true) ∧ Ext w1 wr) (fun i _ => q - (intOf i).toNat)
        case atStart => exact ⟨0, by omega, rfl, Lib.hid (fun k' h => absurd h (Nat.not_lt_zero _)), Ext.refl _⟩
        case round =>
          obtain ⟨i, hi, rfl, hop, X⟩ := hrel
          obtain ⟨wk, rfl⟩ : ∃ wk : World, wk = wr := ⟨_, rfl⟩
          by_cases hik : i < q
          · have hp := LT.out i hik
            obtain ⟨al, rfl, hcl⟩ := (sl.ext X).get hik
            obtain ⟨as', hAS, s0, s1, s2, s3⟩ := row4 (SN.out _ (HX2.out.trans X)).os hp
            have q8 : wk.cell? ⟨B, 8, none⟩ = some (.slice P.xs D.ns P.zs) := (kF.ext (HX2.out.trans X)).cell 8
            have q9 : wk.cell? ⟨B, 9, none⟩ = some (.slice P.xk D.nk P.zk) := (kF.ext (HX2.out.trans X)).cell 9
            rw [hAS] at q8
            have NOi := Lib.hid (NO.out i hik)
            have HSUC := Lib.hid (fun (ho : opB D (ks.getD i 0) = true) k' (h : k' < i + 1) => show opB D (ks.getD k' 0) = true from by
              rcases Nat.lt_succ_iff_lt_or_eq.1 h with h | h
              · exact hop.out k' h
              · rw [h]; exact ho)
            obtain ⟨⟨_, _⟩, ⟨_, _⟩, ⟨b20, b21⟩, ⟨b30, b31⟩⟩ := IN.out.stp _ hp
            have hp64 : ((ks.getD i 0 : Nat) : Int) < (D.ns : Int) := by omega
            have OPE := Lib.hid (opB_row (D := D) (k := ks.getD i 0))
            generalize opB D (ks.getD i 0) = ob at *
            generalize ks.getD i 0 = p at *
            generalize D.stp p 0 = t0 at *
            generalize D.stp p 1 = t1 at *
            generalize D.stp p 2 = t2 at *
            generalize D.stp p 3 = t3 at *
            have KS := Lib.hid (fun w' (x : Ext wk w') => show w'.cell? ⟨B, 8, none⟩ = some (.slice (some as') D.ns P.zs) ∧ w'.cell? (al.add i) = some (.int .i64 (p : Int)) ∧ w'.cell? (as'.add (p * 4)) = some (.int .i64 t0) ∧ w'.cell? ⟨(as'.add (p * 4)).block, (as'.add (p * 4)).off + 1, none⟩ = some (.int .i64 t1) ∧ w'.cell? ⟨(as'.add (p * 4)).block, (as'.add (p * 4)).off + 2, none⟩ = some (.int .i64 t2) ∧ w'.cell? ⟨(as'.add (p * 4)).block, (as'.add (p * 4)).off + 3, none⟩ = some (.int .i64 t3) from ⟨x.at q8, x.at hcl, x.at s0, x.at s1, x.at s2, x.at s3⟩)
            have HX3 := Lib.hid X
            have hik64 : (i : Int) < (q : Int) := by omega
            clear X hAS q8 hcl s0 s1 s2 s3
            go_wp2_with fail
            refine wp_region_noPanic ?_
            refine wp_region_held_drew (S := (fun w' => w'.cell? ⟨B, 8, none⟩ = some (.slice (some as') D.ns P.zs) ∧ w'.cell? (al.add i) = some (.int .i64 (p : Int)) ∧ w'.cell? (as'.add (p * 4)) = some (.int .i64 t0) ∧ w'.cell? ⟨(as'.add (p * 4)).block, (as'.add (p * 4)).off + 1, none⟩ = some (.int .i64 t1) ∧ w'.cell? ⟨(as'.add (p * 4)).block, (as'.add (p * 4)).off + 2, none⟩ = some (.int .i64 t2) ∧ w'.cell? ⟨(as'.add (p * 4)).block, (as'.add (p * 4)).off + 3, none⟩ = some (.int .i64 t3))) (by kernel_rfl) (KS.out _ ((Ext.refl _).drew)) (fun h0 => ?_)
            refine wpAnyH_take (i := 0) (oi := ?_) (v := ?_) ?_ (by kernel_rfl) (by kernel_rfl) (by kernel_rfl) ?_ ?_ h0 ?_
            rotate_left 2
            · simp only [List.getElem?_toArray, List.getElem?_cons_zero]; rfl
            · exact fun _ _ _ h => h
            · refine Or.inl ⟨by rfl, ?_⟩
              intro w hSw
              (try dsimp only at hSw)
              go_simp
              (try with_reducible rfl)
            (try simp only [Act.put, List.setIfInBounds_toArray, List.set_cons_zero, List.set_cons_succ])
            refine wpAnyH_take (i := 1) (oi := ?_) (v := ?_) ?_ (by kernel_rfl) (by kernel_rfl) (by kernel_rfl) ?_ ?_ h0 ?_
            rotate_left 2
            · simp only [List.getElem?_toArray, List.getElem?_cons_zero, List.getElem?_cons_succ]; rfl
            · exact fun _ _ _ h => h
            · refine Or.inl ⟨by rfl, ?_⟩
              intro w hSw
              (try dsimp only at hSw)
              go_simp
              (try with_reducible rfl)
            (try simp only [Act.put, List.setIfInBounds_toArray, List.set_cons_zero, List.set_cons_succ])
            refine wpAnyH_take (i := 2) (oi := ?_) (v := ?_) ?_ (by kernel_rfl) (by kernel_rfl) (by kernel_rfl) ?_ ?_ h0 ?_
            rotate_left 2
            · simp only [List.getElem?_toArray, List.getElem?_cons_zero, List.getElem?_cons_succ]; rfl
            · exact fun _ _ _ h => h
            · refine Or.inl ⟨by rfl, ?_⟩
              intro w hSw
              (try dsimp only at hSw)
              go_simp
              (try with_reducible rfl)
            (try simp only [Act.put, List.setIfInBounds_toArray, List.set_cons_zero, List.set_cons_succ])
            refine wpAnyH_take (i := 3) (oi := ?_) (v := ?_) ?_ (by kernel_rfl) (by kernel_rfl) (by kernel_rfl) ?_ ?_ h0 ?_
            rotate_left 2
            · simp only [List.getElem?_toArray, List.getElem?_cons_zero, List.getElem?_cons_succ]; rfl
            · exact fun _ _ _ h => h
            · refine Or.inl ⟨by rfl, ?_⟩
              intro w hSw
              (try dsimp only at hSw)
              go_simp
              (try with_reducible rfl)
            (try simp only [Act.put, List.setIfInBounds_toArray, List.set_cons_zero, List.set_cons_succ])
            refine wpAnyH_take (i := 4) (oi := ?_) (v := ?_) ?_ (by kernel_rfl) (by kernel_rfl) (by kernel_rfl) ?_ ?_ h0 ?_
            rotate_left 2
            · simp only [List.getElem?_toArray, List.getElem?_cons_zero, List.getElem?_cons_succ]; rfl
            · exact fun _ _ _ h => h
            · refine Or.inl ⟨by rfl, ?_⟩
              intro w hSw
              (try dsimp only at hSw)
              go_simp
              (try with_reducible rfl)
            (try simp only [Act.put, List.setIfInBounds_toArray, List.set_cons_zero, List.set_cons_succ])
            refine wpAnyH_take (i := 5) (oi := ?_) (v := ?_) ?_ (by kernel_rfl) (by kernel_rfl) (by kernel_rfl) ?_ ?_ h0 ?_
            rotate_left 2
            · simp only [List.getElem?_toArray, List.getElem?_cons_zero, List.getElem?_cons_succ]; rfl
            · exact fun _ _ _ h => h
            · refine Or.inl ⟨by rfl, ?_⟩
              intro w hSw
              (try dsimp only at hSw)
              go_simp
              (try with_reducible rfl)
            (try simp only [Act.put, List.setIfInBounds_toArray, List.set_cons_zero, List.set_cons_succ])
            refine wpAnyH_take (i := 6) (oi := ?_) (v := ?_) ?_ (by kernel_rfl) (by kernel_rfl) (by kernel_rfl) ?_ ?_ h0 ?_
            rotate_left 2
            · simp only [List.getElem?_toArray, List.getElem?_cons_zero, List.getElem?_cons_succ]; rfl
            · exact fun _ _ _ h => h
            · refine Or.inl ⟨by rfl, ?_⟩
              intro w hSw
              (try dsimp only at hSw)
              go_simp
              (try with_reducible rfl)
            (try simp only [Act.put, List.setIfInBounds_toArray, List.set_cons_zero, List.set_cons_succ])
            refine wpAnyH_take (i := 7) (oi := ?_) (v := ?_) ?_ (by kernel_rfl) (by kernel_rfl) (by kernel_rfl) ?_ ?_ h0 ?_
            rotate_left 2
            · simp only [List.getElem?_toArray, List.getElem?_cons_zero, List.getElem?_cons_succ]; rfl
            · exact fun _ _ _ h => h
            · refine Or.inl ⟨by rfl, ?_⟩
              intro w hSw
              (try dsimp only at hSw)
              go_simp
              (try with_reducible rfl)
            (try simp only [Act.put, List.setIfInBounds_toArray, List.set_cons_zero, List.set_cons_succ])
            refine wpAnyH_ready (rs := [8]) (by kernel_rfl) (by simp) ?_
            refine AllReadyH.cons (o := ?_) ?_ (fun K hK => ?_) AllReadyH.nil
            rotate_left
            · simp only [List.getElem?_toArray, List.getElem?_cons_zero, List.getElem?_cons_succ]; rfl
            go_simp
            refine hK.out _ _ (KS.out _ ((Ext.refl _).drew.alloc _)) (fun h1 => ?_)
            clear hK K
            (try simp only [Act.put, List.setIfInBounds_toArray, List.set_cons_zero, List.set_cons_succ])
            refine wpAnyH_ready (rs := [9]) (by kernel_rfl) (by simp) ?_
            refine AllReadyH.cons (o := ?_) ?_ (fun K hK => ?_) AllReadyH.nil
            rotate_left
            · simp only [List.getElem?_toArray, List.getElem?_cons_zero, List.getElem?_cons_succ]; rfl
            go_simp
            refine hK.out _ _ (KS.out _ ((Ext.refl _).drew.alloc _)) (fun h2 => ?_)
            clear hK K
            (try simp only [Act.put, List.setIfInBounds_toArray, List.set_cons_zero, List.set_cons_succ])
            refine wpAnyH_done (by kernel_rfl) ?_ _
            refine NoPanic.normal ?_
            clear h0 h1 h2

            have X3 : Ext wk (World.drew (wk.alloc (.cells #[.int .i64 t0, .int .i64 t1, .int .i64 t2, .int .i64 t3] 53))) := ((Ext.refl _).alloc _).drew
            have kO : Blk (World.drew (wk.alloc (.cells #[.int .i64 t0, .int .i64 t1, .int .i64 t2, .int .i64 t3] 53))) wk.heap.size 53 [.int .i64 t0, .int .i64 t1, .int .i64 t2, .int .i64 t3] := (Blk.lit _ _ _ _ rfl).ext ((Ext.refl _).drew)
            have q9 := X3.at q9
            generalize World.drew (wk.alloc (.cells #[.int .i64 t0, .int .i64 t1, .int .i64 t2, .int .i64 t3] 53)) = w3 at *
            obtain ⟨O, hO⟩ : ∃ O, O = wk.heap.size := ⟨_, rfl⟩
            rw [← hO] at kO ⊢
            have o2 : w3.cell? ⟨O, 2, none⟩ = some (.int .i64 t2) := kO.cell 2
            have o3 : w3.cell? ⟨O, 3, none⟩ = some (.int .i64 t3) := kO.cell 3
            have HX4 := Lib.hid (HX3.out.trans X3)
            clear KS hO X3
            have hw1 : IntKind.i64.wrap (t2 - 128) = t2 - 128 := IntWalk.i64_in _ (by omega)
            have hw2 : IntKind.i64.wrap (256 * (t2 - 128)) = 256 * (t2 - 128) := IntWalk.i64_in _ (by omega)
            have hw3 : IntKind.i64.wrap (256 * (t2 - 128) + t3) = 256 * (t2 - 128) + t3 := IntWalk.i64_in _ (by omega)
            by_cases h2 : t2 = 0
            · have h20 : (t2 != 0) = false := by simpa using h2
              have HO := Lib.hid (HSUC.out (by rw [OPE.out]; simp [h2]))
              clear h2
              go_wp2_with fail
              go_roundw
              case rel => exact ⟨i + 1, by omega, by go_num, HO, HX4.out⟩
              case measure => simp [intOf]; omega
            · have h20 : (t2 != 0) = true := by simpa using h2
              by_cases h3 : t2 < 128
              · have HN := Lib.hid (show false = ligB D from NOi.out (by rw [OPE.out]; simp [h2]; omega))
                clear h2
                go_wp2_with fail
                go_ret
                exact ⟨ret_bool HN.out, W0.trans (HX2.out.trans HX4.out)⟩
              · by_cases h4 : (D.nk : Int) ≤ 256 * (t2 - 128) + t3
                · have HN := Lib.hid (show false = ligB D from NOi.out (by rw [OPE.out]; simp [h2]; omega))
                  clear h2
                  go_wp2_with fail
                  go_ret
                  exact ⟨ret_bool HN.out, W0.trans (HX2.out.trans HX4.out)⟩
                · have HO := Lib.hid (HSUC.out (by rw [OPE.out]; simp [h2]; omega))
                  clear h2
                  go_wp2_with fail
                  go_roundw
                  case rel => exact ⟨i + 1, by omega, by go_num, HO, HX4.out⟩
                  case measure => simp [intOf]; omega
          · obtain rfl : i = q := by omega
            have HOK := Lib.hid (YES.out HNN.out hop.out)
            have HXW := Lib.hid (HX2.out.trans X)
            clear X sl
            go_wp2_with fail
            go_roundw
            case rel => exact ⟨j + 1, by omega, by go_num, Lib.hid (fun j' h => by
              rcases Nat.lt_succ_iff_lt_or_eq.1 h with h | h
              · exact hall.out j' h
              · rw [h]; exact HOK.out), HXW.out⟩
            case measure => simp [intOf]; omega
    · obtain rfl : j = D.nc := by omega
      have HL := Lib.hid (lig_puts HD.out hall.out)
      have TP := Lib.hid (show Calls Try.prog 35 #[.agg #[.int .i64 D.sum, .int .i64 D.design, .int .i64 D.first, .slice P.xc D.nc P.zc, .slice P.xw D.nw P.zw, .slice P.xh D.nh P.zh, .slice P.xd D.nd P.zd, .slice P.xi D.ni P.zi, .slice P.xs D.ns P.zs, .slice P.xk D.nk P.zk, .slice P.xp D.np P.zp]] wp (PairsQ D wp) from rpairs_any D P _ (SN.out _ X) HD.out)
      have PIN := Lib.hid (pairsD_in IN.out D.nc)
      have k1 := kF.ext X
      have q0 : wp.cell? ⟨B, 0, none⟩ = some (.int .i64 D.sum) := k1.cell 0
      have q1 : wp.cell? ⟨B, 1, none⟩ = some (.int .i64 D.design) := k1.cell 1
      have q2 : wp.cell? ⟨B, 2, none⟩ = some (.int .i64 D.first) := k1.cell 2
      have q3 : wp.cell? ⟨B, 3, none⟩ = some (.slice P.xc D.nc P.zc) := k1.cell 3
      have q4 : wp.cell? ⟨B, 4, none⟩ = some (.slice P.xw D.nw P.zw) := k1.cell 4
      have q5 : wp.cell? ⟨B, 5, none⟩ = some (.slice P.xh D.nh P.zh) := k1.cell 5
      have q6 : wp.cell? ⟨B, 6, none⟩ = some (.slice P.xd D.nd P.zd) := k1.cell 6
      have q7 : wp.cell? ⟨B, 7, none⟩ = some (.slice P.xi D.ni P.zi) := k1.cell 7
      have q8 : wp.cell? ⟨B, 8, none⟩ = some (.slice P.xs D.ns P.zs) := k1.cell 8
      have q9 : wp.cell? ⟨B, 9, none⟩ = some (.slice P.xk D.nk P.zk) := k1.cell 9
      have q10 : wp.cell? ⟨B, 10, none⟩ = some (.slice P.xp D.np P.zp) := k1.cell 10
      have HX := Lib.hid X
      clear X
      go_wp2_with fail
      refine TP.out.mono ?_
      rintro e w2 ⟨x2, A, cp, rfl, sp⟩
      have HX2 := Lib.hid (HX.out.trans x2)
      have PL := pairsD_length hns D.nc
      generalize pairsD D D.nc = ps at *
      obtain ⟨n, hn⟩ : ∃ n, n = ps.length := ⟨_, rfl⟩
      have SP := Lib.hid (fun w' (x : Ext w2 w') => show SeenN 3 w' A n (triA ps) from by rw [hn]; exact sp.ext x)
      rw [← hn]
      have hn64 : (n : Int) ≤ 76800 := by omega
      have HN := Lib.hid hn
      obtain ⟨Z, hZ, hZs, hZt, hZ0⟩ := zero256s
      have hst := hZt w2
      clear hZt
      have HZ0 := Lib.hid hZ0
      clear hZ0 TP q0 q1 q2 q3 q4 q5 q6 q7 q8 q9 q10 k1 x2 hn sp PL
      go_wp2_with fail
      have kU : RowB (w2.alloc (.cells Z 71)) w2.heap.size 256 (fun _ => false) := rowB_lit _ _ _ _ _ _ rfl HZ0.out
      have XV : Ext w2 (w2.alloc (.cells Z 71)) := (Ext.refl _).alloc _
      clear hst
      generalize w2.alloc (.cells Z 71) = w3 at *
      obtain ⟨R, hR⟩ : ∃ R, R = w2.heap.size := ⟨_, rfl⟩
      rw [← hR] at kU ⊢
      have HR := Lib.hid (Nat.le_of_eq hR.symm)
      clear hR hZ HZ0 hZs
      go_loopw [11] (fun v wr => ∃ (i : Nat) (m : MapN), i ≤ n ∧ v = .int .i64 i ∧ Hid (putsL D (ps.take i) (fun _ => none) = some m) ∧ RowB wr R 256 (fun y => (m y).isSome) ∧ Ext w2 wr) (fun v _ => n - (intOf v).toNat)
      case atStart => exact ⟨0, fun _ => none, by omega, rfl, Lib.hid rfl, kU, XV⟩
      case round =>
        obtain ⟨i, m, hi, rfl, hp, hU, X⟩ := hrel
        obtain ⟨wk, rfl⟩ : ∃ wk : World, wk = wr := ⟨_, rfl⟩
        by_cases hin : i < n
        · have hil : i < ps.length := by rw [← HN.out]; exact hin
          obtain ⟨al, rfl, c0, c1, c2⟩ := row3 (SP.out _ X) hin
          have k1 := kF.ext (HX2.out.trans X)
          have q0 : wk.cell? ⟨B, 0, none⟩ = some (.int .i64 D.sum) := k1.cell 0
          have q1 : wk.cell? ⟨B, 1, none⟩ = some (.int .i64 D.design) := k1.cell 1
          have q2 : wk.cell? ⟨B, 2, none⟩ = some (.int .i64 D.first) := k1.cell 2
          have q3 : wk.cell? ⟨B, 3, none⟩ = some (.slice P.xc D.nc P.zc) := k1.cell 3
          have q4 : wk.cell? ⟨B, 4, none⟩ = some (.slice P.xw D.nw P.zw) := k1.cell 4
          have q5 : wk.cell? ⟨B, 5, none⟩ = some (.slice P.xh D.nh P.zh) := k1.cell 5
          have q6 : wk.cell? ⟨B, 6, none⟩ = some (.slice P.xd D.nd P.zd) := k1.cell 6
          have q7 : wk.cell? ⟨B, 7, none⟩ = some (.slice P.xi D.ni P.zi) := k1.cell 7
          have q8 : wk.cell? ⟨B, 8, none⟩ = some (.slice P.xs D.ns P.zs) := k1.cell 8
          have q9 : wk.cell? ⟨B, 9, none⟩ = some (.slice P.xk D.nk P.zk) := k1.cell 9
          have q10 : wk.cell? ⟨B, 10, none⟩ = some (.slice P.xp D.np P.zp) := k1.cell 10
          have lb := k1.lt
          obtain ⟨⟨pa, pb, pm⟩, hpe⟩ : ∃ p, p = ps.getD i (0, 0, 0) := ⟨_, rfl⟩
          rw [show triA ps i 0 = pa by show (ps.getD i (0, 0, 0)).1 = pa; rw [← hpe]] at c0
          rw [show triA ps i 1 = pb by show (ps.getD i (0, 0, 0)).2.1 = pb; rw [← hpe]] at c1
          rw [show triA ps i 2 = pm by show (ps.getD i (0, 0, 0)).2.2 = pm; rw [← hpe]] at c2
          have NO := Lib.hid (fun hb => (HL.out.trans (puts_no hil hp.out hpe hb)).symm)
          have YES := Lib.hid (fun hb => puts_yes hil hp.out hpe hb)
          obtain ⟨pm0, pm1⟩ : 0 ≤ pm ∧ pm < 256 := PIN.out (pa, pb, pm) (by rw [hpe, List.getD, List.getElem?_eq_getElem hil, Option.getD_some]; exact List.getElem_mem hil)
          have C1 : ∀ d os, Calls Try.prog 39 #[.agg #[.int .i64 D.sum, .int .i64 D.design, .int .i64 D.first, .slice P.xc D.nc P.zc, .slice P.xw D.nw P.zw, .slice P.xh D.nh P.zh, .slice P.xd D.nd P.zd, .slice P.xi D.ni P.zi, .slice P.xs D.ns P.zs, .slice P.xk D.nk P.zk, .slice P.xp D.np P.zp], .int .i64 pm] (Sort.grow (redrawn wk d) os) (Ret (Sort.grow (redrawn wk d) os) (.bool (hasB D pm))) := fun d os => HAS.out pm _ ((HX2.out.trans X).trans (below_regrown _ _ _)) (by omega)
          have g0 := cell_regrown q0; have g1 := cell_regrown q1; have g2 := cell_regrown q2; have g3 := cell_regrown q3; have g4 := cell_regrown q4; have g5 := cell_regrown q5; have g6 := cell_regrown q6; have g7 := cell_regrown q7; have g8 := cell_regrown q8; have g9 := cell_regrown q9; have g10 := cell_regrown q10
          have gc0 := cell_regrown c0; have gc1 := cell_regrown c1; have gc2 := cell_regrown c2
          have hin64 : (i : Int) < (n : Int) := by omega
          have HX5 := Lib.hid X
          clear X hil
          go_wp2_with fail
          refine wp_region_quiet_below (by kernel_rfl) (by kernel_rfl) ?_
          repeat (go_big_quiet_step (with_reducible exact rg (C1 _ _)))
          refine wpQuiet_nil ?_
          intro _ hw'
          obtain ⟨⟨dq, osq⟩, hw''⟩ := hw'
          subst hw''
          have z : Ext wk (Sort.grow (redrawn wk dq) osq) := below_regrown _ _ _
          have c0 := z.at c0; have c1 := z.at c1; have c2 := z.at c2
          have hU := hU.ext z
          clear C1 g0 g1 g2 g3 g4 g5 g6 g7 g8 g9 g10 gc0 gc1 gc2 q0 q1 q2 q3 q4 q5 q6 q7 q8 q9 q10 k1 lb
          generalize Sort.grow (redrawn wk dq) osq = w4 at *
          have X4 := Lib.hid (HX2.out.trans (HX5.out.trans z))
          have X5 := Lib.hid (HX5.out.trans z)
          cases hh : hasB D pm with
          | false =>
            have H := Lib.hid (NO.out (Or.inr (by simp [mayT, hh])))
            clear hh z
            go_wp2_with fail
            go_quiet (fail)
            go_wp2_with fail
            go_ret
            exact ⟨ret_bool H.out, W0.trans (X4.out.drewN _)⟩
          | true =>
            by_cases h1 : pm < 128
            · have d1 : decide (pm < 128) = true := by simpa using h1
              have H := Lib.hid (NO.out (Or.inr (by simp [mayT, hh]; omega)))
              clear hh z
              go_wp2_with fail
              go_quiet (fail)
              go_wp2_with fail
              go_ret
              exact ⟨ret_bool H.out, W0.trans (X4.out.drewN _)⟩
            · have d1 : decide (pm < 128) = false := by simpa using h1
              by_cases h2 : pm ≤ pa
              · have d2 : decide (pm ≤ pa) = true := by simpa using h2
                have H := Lib.hid (NO.out (Or.inr (by simp [mayT, hh]; omega)))
                clear hh z
                go_wp2_with fail
                go_quiet (fail)
                go_wp2_with fail
                go_ret
                exact ⟨ret_bool H.out, W0.trans (X4.out.drewN _)⟩
              · have d2 : decide (pm ≤ pa) = false := by simpa using h2
                by_cases h3 : 128 ≤ pb
                · have d3 : decide (128 ≤ pb) = true := by simpa using h3
                  have H := Lib.hid (NO.out (Or.inr (by simp [mayT, hh]; omega)))
                  clear hh z
                  go_wp2_with fail
                  go_quiet (fail)
                  go_wp2_with fail
                  go_ret
                  exact ⟨ret_bool H.out, W0.trans (X4.out.drewN _)⟩
                · have d3 : decide (128 ≤ pb) = false := by simpa using h3
                  obtain ⟨mk, rfl⟩ := Int.eq_ofNat_of_zero_le pm0
                  have hmk : mk < 256 := by omega
                  obtain ⟨uu, u1⟩ := hU mk hmk
                  have u0 : w4.cell? ⟨R, mk, none⟩ = some (.bool (m (mk : Int)).isSome) := uu
                  clear uu
                  cases hr : (m (mk : Int)).isSome with
                  | true =>
                    rw [hr] at u0
                    have H := Lib.hid (NO.out (Or.inl hr))
                    clear hh z
                    go_wp2_with fail
                    go_quiet (fail)
                    go_wp2_with fail
                    go_ret
                    exact ⟨ret_bool H.out, W0.trans (X4.out.drewN _)⟩
                  | false =>
                    rw [hr] at u0
                    have HY := Lib.hid (YES.out (by simp [mayT, hh, hr]; omega))
                    clear hh z hr
                    have HU := Lib.hid hU
                    clear hU
                    go_wp2_with fail
                    go_quiet (fail)
                    have X6 := Lib.hid (fun k => X5.out.drewN k)
                    have HU := Lib.hid (fun k => (HU.out.ext ((Ext.refl w4).drewN k)).set mk true)
                    go_wp2_with fail
                    go_roundw
                    case rel =>
                      refine ⟨i + 1, _, by omega, by go_num, HY, ?_, (X6.out _).setCell (by show _ ≤ R; exact HR.out) _⟩
                      intro j hj
                      refine ⟨(HU.out _ j hj).1.trans ?_, (HU.out _ j hj).2⟩
                      by_cases e : (j : Int) = (mk : Int) <;> simp [e]
                    case measure => simp [intOf]; omega
        · obtain rfl : i = n := by omega
          have HT := Lib.hid (show true = ligB D by
            rw [HL.out]
            have := hp.out
            rw [HN.out, List.take_length] at this
            rw [this]; rfl)
          have HX5 := Lib.hid X
          clear X
          go_wp2_with fail
          go_ret
          exact ⟨ret_bool HT.out, W0.trans (HX2.out.trans HX5.out)⟩
end L08
end Go.Proofs.Ytijhabhnhglhgaa

