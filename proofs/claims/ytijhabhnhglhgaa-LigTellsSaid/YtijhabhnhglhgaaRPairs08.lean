/- The document's pairs. -/
import Derived.Test.YtijhabhnhglhgaaRPlain08
namespace Go.Proofs.Ytijhabhnhglhgaa
open Go.RowKit Go.Lib Go.Deep
namespace L08
open L07

def flatT (g : List Tri) : List Value := g.flatMap fun p => [.int .i64 p.1, .int .i64 p.2.1, .int .i64 p.2.2]
theorem flatT_snoc (g : List Tri) (p : Tri) : flatT (g ++ [p]) = flatT g ++ [.int .i64 p.1, .int .i64 p.2.1, .int .i64 p.2.2] := by simp [flatT]
def triA (g : List Tri) (i j : Nat) : Int := match j with
  | 0 => (g.getD i (0, 0, 0)).1
  | 1 => (g.getD i (0, 0, 0)).2.1
  | _ => (g.getD i (0, 0, 0)).2.2
theorem flatT_get : ∀ (g : List Tri) (i : Nat), i < g.length → ∀ j, j < 3 → (flatT g)[i * 3 + j]? = some (.int .i64 (triA g i j))
  | [], i, h, _, _ => by simp at h
  | p :: r, 0, _, j, hj => by
    obtain rfl | rfl | rfl : j = 0 ∨ j = 1 ∨ j = 2 := by omega
    all_goals simp [flatT, triA]
  | p :: r, i + 1, h, j, hj => by
    have := flatT_get r i (by simpa using h) j hj
    have e : flatT (p :: r) = .int .i64 p.1 :: .int .i64 p.2.1 :: .int .i64 p.2.2 :: flatT r := rfl
    rw [e, show (i + 1) * 3 + j = i * 3 + j + 1 + 1 + 1 by omega]
    have e2 : triA (p :: r) (i + 1) j = triA r i j := by unfold triA; simp
    rw [e2]
    simpa using this
def SeenT (w : World) (A : Option Addr) (g : List Tri) : Prop := SeenN 3 w A g.length (triA g)
theorem SeenT.ext {w w' : World} {A : Option Addr} {g : List Tri} (h : SeenT w A g) (x : Ext w w') : SeenT w' A g := SeenN.ext h x
theorem seenT_of {w : World} {A : Option Addr} {g : List Tri} (h : Seen w.heap.size w A (flatT g)) : SeenT w A g := fun i hi j hj => h _ _ (flatT_get g i hi j hj)
theorem pair_info : (Try.prog.info? 73).map (fun i => (i.zero, i.size, i.bytes)) = some (some (.agg #[.int .i64 0, .int .i64 0, .int .i64 0]), 3, 24) := by kernel_rfl
/-- append(own, pair). -/
theorem run_putT {w w0 : World} {v : Value} {k : Nat} {xs : List Value} (hown : w.ownsRow w0.heap.size 73 3 v k xs) (x0 : Ext w0 w) (b : Nat) (x y z : Int) (kb : Blk w b 73 [.int .i64 x, .int .i64 y, .int .i64 z]) (hk : k ≤ 900000) (ty : TypeId) :
    ∃ v' w', (Builtin.append_ #[66, 66] ty #[v, .slice (some ⟨b, 0, none⟩) 1 1]).run Try.prog w = .ok v' w' ∧ w'.ownsRow w0.heap.size 73 3 v' (k + 1) (xs ++ [.int .i64 x, .int .i64 y, .int .i64 z]) ∧ Ext w0 w' ∧ Kpt v.ownBlock w w' ∧ (v'.ownBlock = v.ownBlock ∨ ∀ n, v'.ownBlock = some n → w.heap.size ≤ n) := by
  obtain ⟨i, hi, hz0, hsz', hby⟩ := info_parts pair_info
  obtain ⟨v', w', hr, ho, hg, _, hat⟩ := run_append_own_at (P := Try.prog) (w := w) w0.heap.size 66 ty 73 i _ 3 24 Try.underlying66 hi hz0 hsz' hby rfl (by decide) v k xs hown ⟨b, 0, none⟩ 1 1 [.int .i64 x, .int .i64 y, .int .i64 z] rfl
    (fun j u hu => by rw [add_zero_addr, kb.cell j]; exact hu) (by simp [Value.oneCell']) (by unfold maxLen; omega) (by omega) x0.size
  refine ⟨v', w', hr, ho, Below.grown x0 hg x0.size (fun n e => (hown.lt n e).1), Kpt.of_grown hg, ?_⟩
  rcases hat with h | h
  · exact .inl h
  · exact .inr fun n e => by rw [h] at e; cases e; exact Nat.le_refl _
/-- What is seen elsewhere stays. -/
theorem seenF_kpt {w w' : World} {A : Option Addr} {n : Nat} {f : Nat → Int} {r : Option Nat} (h : SeenF w A n f) (k : Kpt r w w') (hne : ∀ a, A = some a → some a.block ≠ r) : SeenF w' A n f := fun j hj => by
  obtain ⟨ad, e, hb, hc⟩ := h j hj
  refine ⟨ad, e, Nat.lt_of_lt_of_le hb k.size, ?_⟩
  refine (World.cell?_of_block (k.same _ (by rw [addr_block]; exact hb) (by rw [addr_block]; exact hne ad e))).trans hc

def PairsQ (D : FontD) (w : World) (e : Ending) (w' : World) : Prop :=
  Ext w w' ∧ ∃ A c, e = .returned (.slice A (pairsD D D.nc).length c) ∧ SeenT w' A (pairsD D D.nc)
theorem pairsI_length (D : FontD) (c : Int) (ks : List Nat) : ∀ i, (pairsI D c ks i).length ≤ i
  | 0 => Nat.le_refl _
  | i + 1 => by
    have := pairsI_length D c ks i
    rw [pairsI, List.length_append]
    split <;> simp <;> omega

set_option maxRecDepth 100000 in
set_option maxHeartbeats 8000000 in
theorem rpairs_any (D : FontD) (P : FontP) (w : World) (sn : SeenFont w D P) (hD : checkB D = true) :
    Calls Try.prog 35 #[fontV D P] w (PairsQ D w) := by
  have W0 : Ext w (w.alloc (.cells #[.int .i64 D.sum, .int .i64 D.design, .int .i64 D.first, .slice P.xc D.nc P.zc, .slice P.xw D.nw P.zw, .slice P.xh D.nh P.zh, .slice P.xd D.nd P.zd, .slice P.xi D.ni P.zi, .slice P.xs D.ns P.zs, .slice P.xk D.nk P.zk, .slice P.xp D.np P.zp] 28)) := (Ext.refl _).alloc _
  have kF : Blk (w.alloc (.cells #[.int .i64 D.sum, .int .i64 D.design, .int .i64 D.first, .slice P.xc D.nc P.zc, .slice P.xw D.nw P.zw, .slice P.xh D.nh P.zh, .slice P.xd D.nd P.zd, .slice P.xi D.ni P.zi, .slice P.xs D.ns P.zs, .slice P.xk D.nk P.zk, .slice P.xp D.np P.zp] 28)) w.heap.size 28 [.int .i64 D.sum, .int .i64 D.design, .int .i64 D.first, .slice P.xc D.nc P.zc, .slice P.xw D.nw P.zw, .slice P.xh D.nh P.zh, .slice P.xd D.nd P.zd, .slice P.xi D.ni P.zi, .slice P.xs D.ns P.zs, .slice P.xk D.nk P.zk, .slice P.xp D.np P.zp] := Blk.lit _ _ _ _ rfl
  have IN := Lib.hid (check_in hD)
  have hnc := (check_in hD).nc
  have hf := (check_in hD).first
  have hns := (check_in hD).ns
  have SN := Lib.hid (fun w' (x : Ext (w.alloc (.cells #[.int .i64 D.sum, .int .i64 D.design, .int .i64 D.first, .slice P.xc D.nc P.zc, .slice P.xw D.nw P.zw, .slice P.xh D.nh P.zh, .slice P.xd D.nd P.zd, .slice P.xi D.ni P.zi, .slice P.xs D.ns P.zs, .slice P.xk D.nk P.zk, .slice P.xp D.np P.zp] 28)) w') => (sn.ext W0).ext x)
  have HD := Lib.hid hD
  clear sn hD
  unfold fontV
  go_enter Try.func35, Try.ntmps35
  go_wp2_with fail
  generalize (w.alloc (.cells #[.int .i64 D.sum, .int .i64 D.design, .int .i64 D.first, .slice P.xc D.nc P.zc, .slice P.xw D.nw P.zw, .slice P.xh D.nh P.zh, .slice P.xd D.nd P.zd, .slice P.xi D.ni P.zi, .slice P.xs D.ns P.zs, .slice P.xk D.nk P.zk, .slice P.xp D.np P.zp] 28)) = V at *
  generalize w.heap.size = B at *
  have hnc64 : (D.nc : Int) ≤ 256 := by omega
  go_loopw [3, 4] (fun v i wr => ∃ (vv : Value) (j : Nat), vv = v ∧ j ≤ D.nc ∧ i = .int .i64 j ∧ wr.ownsRow V.heap.size 73 3 vv (pairsD D j).length (flatT (pairsD D j)) ∧ Ext V wr ∧ (pairsD D j).length ≤ 300 * j) (fun _ i _ => D.nc - (intOf i).toNat)
  case atStart => exact ⟨_, 0, rfl, by omega, rfl, World.ownsRow_nil _ _ _ _, Ext.refl _, by simp [pairsD]⟩
  case round =>
    obtain ⟨vv, j, hvv, hj, rfl, ho, X, hlen⟩ := hrel
    subst hvv
    obtain ⟨wp, rfl⟩ : ∃ wp : World, wp = wr := ⟨_, rfl⟩
    by_cases hlt : j < D.nc
    · have k1 := kF.ext X
      have q0 : wp.cell? ⟨B, 0, none⟩ = some (.int .i64 D.sum) := k1.cell 0
      have q1 : wp.cell? ⟨B, 1, none⟩ = some (.int .i64 D.design) := k1.cell 1
      have q2 : wp.cell? ⟨B, 2, none⟩ = some (.int .i64 D.first) := k1.cell 2
      have q3 : wp.cell? ⟨B, 3, none⟩ = some (.slice P.xc D.nc P.zc) := k1.cell 3
      have q4 : wp.cell? ⟨B, 4, none⟩ = some (.slice P.xw D.nw P.zw) := k1.cell 4
      have q5 : wp.cell? ⟨B, 5, none⟩ = some (.slice P.xh D.nh P.zh) := k1.cell 5
      have q6 : wp.cell? ⟨B, 6, none⟩ = some (.slice P.xd D.nd P.zd) := k1.cell 6
      have q7 : wp.cell? ⟨B, 7, none⟩ = some (.slice P.xi D.ni P.zi) := k1.cell 7
      have q8 : wp.cell? ⟨B, 8, none⟩ = some (.slice P.xs D.ns P.zs) := k1.cell 8
      have q9 : wp.cell? ⟨B, 9, none⟩ = some (.slice P.xk D.nk P.zk) := k1.cell 9
      have q10 : wp.cell? ⟨B, 10, none⟩ = some (.slice P.xp D.np P.zp) := k1.cell 10
      have lb := k1.lt
      obtain ⟨ad, hA, e0, e1, e2, e3, e4, e5⟩ := row6 (SN.out _ X).oc hlt
      rw [hA] at q3
      have HA := Lib.hid hA
      have ht := (IN.out.chr _ hlt).2.2.2.2
      have KS := Lib.hid (fun w' (x : Ext wp w') => show w'.cell? ⟨B, 0, none⟩ = some (.int .i64 D.sum) ∧ w'.cell? ⟨B, 1, none⟩ = some (.int .i64 D.design) ∧ w'.cell? ⟨B, 2, none⟩ = some (.int .i64 D.first) ∧ w'.cell? ⟨B, 3, none⟩ = some (.slice (some ad) D.nc P.zc) ∧ w'.cell? ⟨B, 4, none⟩ = some (.slice P.xw D.nw P.zw) ∧ w'.cell? ⟨B, 5, none⟩ = some (.slice P.xh D.nh P.zh) ∧ w'.cell? ⟨B, 6, none⟩ = some (.slice P.xd D.nd P.zd) ∧ w'.cell? ⟨B, 7, none⟩ = some (.slice P.xi D.ni P.zi) ∧ w'.cell? ⟨B, 8, none⟩ = some (.slice P.xs D.ns P.zs) ∧ w'.cell? ⟨B, 9, none⟩ = some (.slice P.xk D.nk P.zk) ∧ w'.cell? ⟨B, 10, none⟩ = some (.slice P.xp D.np P.zp) ∧ w'.cell? (ad.add (j * 6)) = some (.int .i64 (D.chr j 0)) ∧ w'.cell? ⟨(ad.add (j * 6)).block, (ad.add (j * 6)).off + 1, none⟩ = some (.int .i64 (D.chr j 1)) ∧ w'.cell? ⟨(ad.add (j * 6)).block, (ad.add (j * 6)).off + 2, none⟩ = some (.int .i64 (D.chr j 2)) ∧ w'.cell? ⟨(ad.add (j * 6)).block, (ad.add (j * 6)).off + 3, none⟩ = some (.int .i64 (D.chr j 3)) ∧ w'.cell? ⟨(ad.add (j * 6)).block, (ad.add (j * 6)).off + 4, none⟩ = some (.int .i64 (D.chr j 4)) ∧ w'.cell? ⟨(ad.add (j * 6)).block, (ad.add (j * 6)).off + 5, none⟩ = some (.int .i64 (D.chr j 5)) from ⟨x.at q0, x.at q1, x.at q2, x.at q3, x.at q4, x.at q5, x.at q6, x.at q7, x.at q8, x.at q9, x.at q10, x.at e0, x.at e1, x.at e2, x.at e3, x.at e4, x.at e5⟩)
      have ST := Lib.hid (show Calls Try.prog 38 #[.agg #[.int .i64 D.sum, .int .i64 D.design, .int .i64 D.first, .slice P.xc D.nc P.zc, .slice P.xw D.nw P.zw, .slice P.xh D.nh P.zh, .slice P.xd D.nd P.zd, .slice P.xi D.ni P.zi, .slice P.xs D.ns P.zs, .slice P.xk D.nk P.zk, .slice P.xp D.np P.zp], .agg #[.int .i64 (D.chr j 0), .int .i64 (D.chr j 1), .int .i64 (D.chr j 2), .int .i64 (D.chr j 3), .int .i64 (D.chr j 4), .int .i64 (D.chr j 5)]] wp.drew (StepsQ D (seqC D j) wp.drew) from rsteps_any D P _ _ _ _ _ _ _ (SN.out _ X.drew) HD.out (by omega))
      have hpl := Nat.le_trans (placesO_length (seqC D j)) (seqC_length D j)
      have LT := Lib.hid (fun i (h : i < (placesO (seqC D j)).length) => places_lt (D := D) (j := j) h)
      have HPD := Lib.hid (show pairsD D (j + 1) = pairsD D j ++ pairsI D (D.first + j) (placesO (seqC D j)) (placesO (seqC D j)).length from rfl)
      have hj64 : (j : Int) < (D.nc : Int) := by omega
      have HO := Lib.hid ho
      have HX := Lib.hid X
      clear q0 q1 q2 q4 q5 q6 q7 q8 q9 q10 e0 e1 e2 e3 e4 e5 hA ho X ht
      go_wp2_with fail
      refine wp_region_noPanic ?_
      refine wp_region_held_drew (S := (fun w' => w'.cell? ⟨B, 0, none⟩ = some (.int .i64 D.sum) ∧ w'.cell? ⟨B, 1, none⟩ = some (.int .i64 D.design) ∧ w'.cell? ⟨B, 2, none⟩ = some (.int .i64 D.first) ∧ w'.cell? ⟨B, 3, none⟩ = some (.slice (some ad) D.nc P.zc) ∧ w'.cell? ⟨B, 4, none⟩ = some (.slice P.xw D.nw P.zw) ∧ w'.cell? ⟨B, 5, none⟩ = some (.slice P.xh D.nh P.zh) ∧ w'.cell? ⟨B, 6, none⟩ = some (.slice P.xd D.nd P.zd) ∧ w'.cell? ⟨B, 7, none⟩ = some (.slice P.xi D.ni P.zi) ∧ w'.cell? ⟨B, 8, none⟩ = some (.slice P.xs D.ns P.zs) ∧ w'.cell? ⟨B, 9, none⟩ = some (.slice P.xk D.nk P.zk) ∧ w'.cell? ⟨B, 10, none⟩ = some (.slice P.xp D.np P.zp) ∧ w'.cell? (ad.add (j * 6)) = some (.int .i64 (D.chr j 0)) ∧ w'.cell? ⟨(ad.add (j * 6)).block, (ad.add (j * 6)).off + 1, none⟩ = some (.int .i64 (D.chr j 1)) ∧ w'.cell? ⟨(ad.add (j * 6)).block, (ad.add (j * 6)).off + 2, none⟩ = some (.int .i64 (D.chr j 2)) ∧ w'.cell? ⟨(ad.add (j * 6)).block, (ad.add (j * 6)).off + 3, none⟩ = some (.int .i64 (D.chr j 3)) ∧ w'.cell? ⟨(ad.add (j * 6)).block, (ad.add (j * 6)).off + 4, none⟩ = some (.int .i64 (D.chr j 4)) ∧ w'.cell? ⟨(ad.add (j * 6)).block, (ad.add (j * 6)).off + 5, none⟩ = some (.int .i64 (D.chr j 5)))) (by kernel_rfl) (KS.out _ ((Ext.refl _).drew)) (fun h0 => ?_)
      refine wpAnyH_take (i := 0) (oi := ?_) (v := ?_) ?_ (by kernel_rfl) (by kernel_rfl) (by kernel_rfl) ?_ ?_ h0 ?_
      rotate_left 2
      · simp only [List.getElem?_toArray, List.getElem?_cons_zero]; rfl
      · exact fun _ _ _ h => h
      · refine Or.inl ⟨by rfl, ?_⟩
        intro w hSw
        (try dsimp only at hSw)
        go_simp
        (try with_reducible rfl)
      (try simp only [Act.put, List.setIfInBounds_toArray, List.set_cons_zero, List.set_cons_succ])
      refine wpAnyH_take (i := 1) (oi := ?_) (v := ?_) ?_ (by kernel_rfl) (by kernel_rfl) (by kernel_rfl) ?_ ?_ h0 ?_
      rotate_left 2
      · simp only [List.getElem?_toArray, List.getElem?_cons_zero, List.getElem?_cons_succ]; rfl
      · exact fun _ _ _ h => h
      · refine Or.inl ⟨by rfl, ?_⟩
        intro w hSw
        (try dsimp only at hSw)
        go_simp
        (try with_reducible rfl)
      (try simp only [Act.put, List.setIfInBounds_toArray, List.set_cons_zero, List.set_cons_succ])
      refine wpAnyH_take (i := 2) (oi := ?_) (v := ?_) ?_ (by kernel_rfl) (by kernel_rfl) (by kernel_rfl) ?_ ?_ h0 ?_
      rotate_left 2
      · simp only [List.getElem?_toArray, List.getElem?_cons_zero, List.getElem?_cons_succ]; rfl
      · exact fun _ _ _ h => h
      · refine Or.inl ⟨by rfl, ?_⟩
        intro w hSw
        (try dsimp only at hSw)
        go_simp
        (try with_reducible rfl)
      (try simp only [Act.put, List.setIfInBounds_toArray, List.set_cons_zero, List.set_cons_succ])
      refine wpAnyH_take (i := 3) (oi := ?_) (v := ?_) ?_ (by kernel_rfl) (by kernel_rfl) (by kernel_rfl) ?_ ?_ h0 ?_
      rotate_left 2
      · simp only [List.getElem?_toArray, List.getElem?_cons_zero, List.getElem?_cons_succ]; rfl
      · exact fun _ _ _ h => h
      · refine Or.inl ⟨by rfl, ?_⟩
        intro w hSw
        (try dsimp only at hSw)
        go_simp
        (try with_reducible rfl)
      (try simp only [Act.put, List.setIfInBounds_toArray, List.set_cons_zero, List.set_cons_succ])
      refine wpAnyH_take (i := 4) (oi := ?_) (v := ?_) ?_ (by kernel_rfl) (by kernel_rfl) (by kernel_rfl) ?_ ?_ h0 ?_
      rotate_left 2
      · simp only [List.getElem?_toArray, List.getElem?_cons_zero, List.getElem?_cons_succ]; rfl
      · exact fun _ _ _ h => h
      · refine Or.inl ⟨by rfl, ?_⟩
        intro w hSw
        (try dsimp only at hSw)
        go_simp
        (try with_reducible rfl)
      (try simp only [Act.put, List.setIfInBounds_toArray, List.set_cons_zero, List.set_cons_succ])
      refine wpAnyH_take (i := 5) (oi := ?_) (v := ?_) ?_ (by kernel_rfl) (by kernel_rfl) (by kernel_rfl) ?_ ?_ h0 ?_
      rotate_left 2
      · simp only [List.getElem?_toArray, List.getElem?_cons_zero, List.getElem?_cons_succ]; rfl
      · exact fun _ _ _ h => h
      · refine Or.inl ⟨by rfl, ?_⟩
        intro w hSw
        (try dsimp only at hSw)
        go_simp
        (try with_reducible rfl)
      (try simp only [Act.put, List.setIfInBounds_toArray, List.set_cons_zero, List.set_cons_succ])
      refine wpAnyH_ready (rs := [6]) (by kernel_rfl) (by simp) ?_
      refine AllReadyH.cons (o := ?_) ?_ (fun K hK => ?_) AllReadyH.nil
      rotate_left
      · simp only [List.getElem?_toArray, List.getElem?_cons_zero, List.getElem?_cons_succ]; rfl
      go_simp
      rw [← HA.out]
      refine ST.out.mono ?_
      rintro e w1 ⟨x1, cb, A1, c1, rfl, sl, hcb, hA1⟩
      refine hK.out _ _ (KS.out _ (ext_drew x1)) (fun h1 => ?_)
      clear hK K
      refine wpAnyH_take (i := 7) (oi := ?_) (v := ?_) ?_ (by kernel_rfl) (by kernel_rfl) (by kernel_rfl) ?_ ?_ h1 ?_
      rotate_left 2
      · simp only [List.getElem?_toArray, List.getElem?_cons_zero, List.getElem?_cons_succ]; rfl
      · exact fun _ _ _ h => h
      · refine Or.inl ⟨by rfl, ?_⟩
        intro w hSw
        (try dsimp only at hSw)
        go_simp
        (try with_reducible rfl)
      (try simp only [Act.put, List.setIfInBounds_toArray, List.set_cons_zero, List.set_cons_succ])
      refine wpAnyH_take (i := 8) (oi := ?_) (v := ?_) ?_ (by kernel_rfl) (by kernel_rfl) (by kernel_rfl) ?_ ?_ h1 ?_
      rotate_left 2
      · simp only [List.getElem?_toArray, List.getElem?_cons_zero, List.getElem?_cons_succ]; rfl
      · exact fun _ _ _ h => h
      · refine Or.inl ⟨by rfl, ?_⟩
        intro w hSw
        (try dsimp only at hSw)
        go_simp
        (try with_reducible rfl)
      (try simp only [Act.put, List.setIfInBounds_toArray, List.set_cons_zero, List.set_cons_succ])
      refine wpAnyH_take (i := 9) (oi := ?_) (v := ?_) ?_ (by kernel_rfl) (by kernel_rfl) (by kernel_rfl) ?_ ?_ h1 ?_
      rotate_left 2
      · simp only [List.getElem?_toArray, List.getElem?_cons_zero, List.getElem?_cons_succ]; rfl
      · exact fun _ _ _ h => h
      · refine Or.inl ⟨by rfl, ?_⟩
        intro w hSw
        (try dsimp only at hSw)
        go_simp
        (try with_reducible rfl)
      (try simp only [Act.put, List.setIfInBounds_toArray, List.set_cons_zero, List.set_cons_succ])
      refine wpAnyH_take (i := 10) (oi := ?_) (v := ?_) ?_ (by kernel_rfl) (by kernel_rfl) (by kernel_rfl) ?_ ?_ h1 ?_
      rotate_left 2
      · simp only [List.getElem?_toArray, List.getElem?_cons_zero, List.getElem?_cons_succ]; rfl
      · exact fun _ _ _ h => h
      · refine Or.inl ⟨by rfl, ?_⟩
        intro w hSw
        (try dsimp only at hSw)
        go_simp
        (try with_reducible rfl)
      (try simp only [Act.put, List.setIfInBounds_toArray, List.set_cons_zero, List.set_cons_succ])
      refine wpAnyH_take (i := 11) (oi := ?_) (v := ?_) ?_ (by kernel_rfl) (by kernel_rfl) (by kernel_rfl) ?_ ?_ h1 ?_
      rotate_left 2
      · simp only [List.getElem?_toArray, List.getElem?_cons_zero, List.getElem?_cons_succ]; rfl
      · exact fun _ _ _ h => h
      · refine Or.inl ⟨by rfl, ?_⟩
        intro w hSw
        (try dsimp only at hSw)
        go_simp
        (try with_reducible rfl)
      (try simp only [Act.put, List.setIfInBounds_toArray, List.set_cons_zero, List.set_cons_succ])
      refine wpAnyH_done (by kernel_rfl) ?_ _
      refine NoPanic.normal ?_
      clear h0 h1 KS ST

      have x1 : Ext wp w1 := ext_drew x1
      have hA1 : ∀ a, A1 = some a → wp.heap.size ≤ a.block := hA1
      have ho1 := ownsRow_ext HO.out x1
      have hvb : ∀ a, A1 = some a → vv.ownBlock ≠ some a.block := fun a h e => by have := (HO.out.lt _ e).2; have := hA1 a h; omega
      generalize placesO (seqC D j) = ks at *
      obtain ⟨q, hq⟩ : ∃ q, q = ks.length := ⟨_, rfl⟩
      rw [← hq] at sl LT HPD hpl ⊢
      have hq300 : (q : Int) ≤ 258 := by omega
      have HX1 := Lib.hid (HX.out.trans x1)
      clear hcb hA1 hq lb k1 x1 q3
      go_wp2_with fail
      go_loopw [3, 7] (fun v i wr => ∃ (vv : Value) (k : Nat), vv = v ∧ k ≤ q ∧ i = .int .i64 k ∧ wr.ownsRow V.heap.size 73 3 vv (pairsD D j ++ pairsI D (D.first + j) ks k).length (flatT (pairsD D j ++ pairsI D (D.first + j) ks k)) ∧ Ext V wr ∧ SeenF wr A1 q (fun i => (ks.getD i 0 : Int)) ∧ Hid (∀ a, A1 = some a → vv.ownBlock ≠ some a.block)) (fun _ i _ => q - (intOf i).toNat)
      case atStart => exact ⟨_, 0, rfl, by omega, rfl, by simpa [pairsI] using ho1, HX1.out, sl, Lib.hid hvb⟩
      case round =>
        obtain ⟨vv, i, hvv, hi, rfl, ho, X, sl, hvb⟩ := hrel
        subst hvv
        obtain ⟨wk, rfl⟩ : ∃ wk : World, wk = wr := ⟨_, rfl⟩
        by_cases hik : i < q
        · have hp := LT.out i hik
          obtain ⟨al, rfl, hcl⟩ := sl.get hik
          obtain ⟨as', hAS, s0, s1, s2, s3⟩ := row4 (SN.out _ X).os hp
          have q8 : wk.cell? ⟨B, 8, none⟩ = some (.slice P.xs D.ns P.zs) := (kF.ext X).cell 8
          have q2 : wk.cell? ⟨B, 2, none⟩ = some (.int .i64 D.first) := (kF.ext X).cell 2
          rw [hAS] at q8
          have HPI : Hid (pairsI D (D.first + j) ks (i + 1) = pairsI D (D.first + j) ks i ++ (if D.stp (ks.getD i 0) 2 = 0 ∧ seenK D ks i (D.stp (ks.getD i 0) 1) = false then [(D.first + (j : Int), D.stp (ks.getD i 0) 1, D.stp (ks.getD i 0) 3)] else [])) := rfl
          obtain ⟨⟨_, _⟩, ⟨b10, b11⟩, ⟨b20, b21⟩, ⟨b30, b31⟩⟩ := IN.out.stp _ hp
          have hp64 : ((ks.getD i 0 : Nat) : Int) < (D.ns : Int) := by omega
          have hns64 : (D.ns : Int) ≤ 256 := by omega
          have hpi := pairsI_length D (D.first + j) ks i
          generalize ks.getD i 0 = p at *
          generalize D.stp p 0 = t0 at *
          generalize ht1 : D.stp p 1 = t1 at *
          generalize D.stp p 2 = t2 at *
          generalize D.stp p 3 = t3 at *
          have KS := Lib.hid (fun w' (x : Ext wk w') => show w'.cell? ⟨B, 8, none⟩ = some (.slice (some as') D.ns P.zs) ∧ w'.cell? (al.add i) = some (.int .i64 (p : Int)) ∧ w'.cell? (as'.add (p * 4)) = some (.int .i64 t0) ∧ w'.cell? ⟨(as'.add (p * 4)).block, (as'.add (p * 4)).off + 1, none⟩ = some (.int .i64 t1) ∧ w'.cell? ⟨(as'.add (p * 4)).block, (as'.add (p * 4)).off + 2, none⟩ = some (.int .i64 t2) ∧ w'.cell? ⟨(as'.add (p * 4)).block, (as'.add (p * 4)).off + 3, none⟩ = some (.int .i64 t3) from ⟨x.at q8, x.at hcl, x.at s0, x.at s1, x.at s2, x.at s3⟩)
          have HO2 := Lib.hid ho
          have HX2 := Lib.hid X
          have HAS := Lib.hid hAS
          have HSL := Lib.hid sl
          have hik64 : (i : Int) < (q : Int) := by omega
          clear ho X hAS sl q8 hcl s0 s1 s2 s3 ht1
          go_wp2_with fail
          refine wp_region_noPanic ?_
          refine wp_region_held_drew (S := (fun w' => w'.cell? ⟨B, 8, none⟩ = some (.slice (some as') D.ns P.zs) ∧ w'.cell? (al.add i) = some (.int .i64 (p : Int)) ∧ w'.cell? (as'.add (p * 4)) = some (.int .i64 t0) ∧ w'.cell? ⟨(as'.add (p * 4)).block, (as'.add (p * 4)).off + 1, none⟩ = some (.int .i64 t1) ∧ w'.cell? ⟨(as'.add (p * 4)).block, (as'.add (p * 4)).off + 2, none⟩ = some (.int .i64 t2) ∧ w'.cell? ⟨(as'.add (p * 4)).block, (as'.add (p * 4)).off + 3, none⟩ = some (.int .i64 t3))) (by kernel_rfl) (KS.out _ ((Ext.refl _).drew)) (fun h0 => ?_)
          refine wpAnyH_take (i := 0) (oi := ?_) (v := ?_) ?_ (by kernel_rfl) (by kernel_rfl) (by kernel_rfl) ?_ ?_ h0 ?_
          rotate_left 2
          · simp only [List.getElem?_toArray, List.getElem?_cons_zero]; rfl
          · exact fun _ _ _ h => h
          · refine Or.inl ⟨by rfl, ?_⟩
            intro w hSw
            (try dsimp only at hSw)
            go_simp
            (try with_reducible rfl)
          (try simp only [Act.put, List.setIfInBounds_toArray, List.set_cons_zero, List.set_cons_succ])
          refine wpAnyH_take (i := 1) (oi := ?_) (v := ?_) ?_ (by kernel_rfl) (by kernel_rfl) (by kernel_rfl) ?_ ?_ h0 ?_
          rotate_left 2
          · simp only [List.getElem?_toArray, List.getElem?_cons_zero, List.getElem?_cons_succ]; rfl
          · exact fun _ _ _ h => h
          · refine Or.inl ⟨by rfl, ?_⟩
            intro w hSw
            (try dsimp only at hSw)
            go_simp
            (try with_reducible rfl)
          (try simp only [Act.put, List.setIfInBounds_toArray, List.set_cons_zero, List.set_cons_succ])
          refine wpAnyH_take (i := 2) (oi := ?_) (v := ?_) ?_ (by kernel_rfl) (by kernel_rfl) (by kernel_rfl) ?_ ?_ h0 ?_
          rotate_left 2
          · simp only [List.getElem?_toArray, List.getElem?_cons_zero, List.getElem?_cons_succ]; rfl
          · exact fun _ _ _ h => h
          · refine Or.inl ⟨by rfl, ?_⟩
            intro w hSw
            (try dsimp only at hSw)
            go_simp
            (try with_reducible rfl)
          (try simp only [Act.put, List.setIfInBounds_toArray, List.set_cons_zero, List.set_cons_succ])
          refine wpAnyH_take (i := 3) (oi := ?_) (v := ?_) ?_ (by kernel_rfl) (by kernel_rfl) (by kernel_rfl) ?_ ?_ h0 ?_
          rotate_left 2
          · simp only [List.getElem?_toArray, List.getElem?_cons_zero, List.getElem?_cons_succ]; rfl
          · exact fun _ _ _ h => h
          · refine Or.inl ⟨by rfl, ?_⟩
            intro w hSw
            (try dsimp only at hSw)
            go_simp
            (try with_reducible rfl)
          (try simp only [Act.put, List.setIfInBounds_toArray, List.set_cons_zero, List.set_cons_succ])
          refine wpAnyH_take (i := 4) (oi := ?_) (v := ?_) ?_ (by kernel_rfl) (by kernel_rfl) (by kernel_rfl) ?_ ?_ h0 ?_
          rotate_left 2
          · simp only [List.getElem?_toArray, List.getElem?_cons_zero, List.getElem?_cons_succ]; rfl
          · exact fun _ _ _ h => h
          · refine Or.inl ⟨by rfl, ?_⟩
            intro w hSw
            (try dsimp only at hSw)
            go_simp
            (try with_reducible rfl)
          (try simp only [Act.put, List.setIfInBounds_toArray, List.set_cons_zero, List.set_cons_succ])
          refine wpAnyH_take (i := 5) (oi := ?_) (v := ?_) ?_ (by kernel_rfl) (by kernel_rfl) (by kernel_rfl) ?_ ?_ h0 ?_
          rotate_left 2
          · simp only [List.getElem?_toArray, List.getElem?_cons_zero, List.getElem?_cons_succ]; rfl
          · exact fun _ _ _ h => h
          · refine Or.inl ⟨by rfl, ?_⟩
            intro w hSw
            (try dsimp only at hSw)
            go_simp
            (try with_reducible rfl)
          (try simp only [Act.put, List.setIfInBounds_toArray, List.set_cons_zero, List.set_cons_succ])
          refine wpAnyH_take (i := 6) (oi := ?_) (v := ?_) ?_ (by kernel_rfl) (by kernel_rfl) (by kernel_rfl) ?_ ?_ h0 ?_
          rotate_left 2
          · simp only [List.getElem?_toArray, List.getElem?_cons_zero, List.getElem?_cons_succ]; rfl
          · exact fun _ _ _ h => h
          · refine Or.inl ⟨by rfl, ?_⟩
            intro w hSw
            (try dsimp only at hSw)
            go_simp
            (try with_reducible rfl)
          (try simp only [Act.put, List.setIfInBounds_toArray, List.set_cons_zero, List.set_cons_succ])
          refine wpAnyH_take (i := 7) (oi := ?_) (v := ?_) ?_ (by kernel_rfl) (by kernel_rfl) (by kernel_rfl) ?_ ?_ h0 ?_
          rotate_left 2
          · simp only [List.getElem?_toArray, List.getElem?_cons_zero, List.getElem?_cons_succ]; rfl
          · exact fun _ _ _ h => h
          · refine Or.inl ⟨by rfl, ?_⟩
            intro w hSw
            (try dsimp only at hSw)
            go_simp
            (try with_reducible rfl)
          (try simp only [Act.put, List.setIfInBounds_toArray, List.set_cons_zero, List.set_cons_succ])
          refine wpAnyH_ready (rs := [8]) (by kernel_rfl) (by simp) ?_
          refine AllReadyH.cons (o := ?_) ?_ (fun K hK => ?_) AllReadyH.nil
          rotate_left
          · simp only [List.getElem?_toArray, List.getElem?_cons_zero, List.getElem?_cons_succ]; rfl
          go_simp
          refine hK.out _ _ (KS.out _ ((Ext.refl _).drew.alloc _)) (fun h1 => ?_)
          clear hK K
          (try simp only [Act.put, List.setIfInBounds_toArray, List.set_cons_zero, List.set_cons_succ])
          refine wpAnyH_ready (rs := [9]) (by kernel_rfl) (by simp) ?_
          refine AllReadyH.cons (o := ?_) ?_ (fun K hK => ?_) AllReadyH.nil
          rotate_left
          · simp only [List.getElem?_toArray, List.getElem?_cons_zero, List.getElem?_cons_succ]; rfl
          go_simp
          refine hK.out _ _ (KS.out _ ((Ext.refl _).drew.alloc _)) (fun h2 => ?_)
          clear hK K
          (try simp only [Act.put, List.setIfInBounds_toArray, List.set_cons_zero, List.set_cons_succ])
          refine wpAnyH_done (by kernel_rfl) ?_ _
          refine NoPanic.normal ?_
          clear h0 h1 h2
          have X3 : Ext wk (World.drew (wk.alloc (.cells #[.int .i64 t0, .int .i64 t1, .int .i64 t2, .int .i64 t3] 53))) := ((Ext.refl _).alloc _).drew
          have kO : Blk (World.drew (wk.alloc (.cells #[.int .i64 t0, .int .i64 t1, .int .i64 t2, .int .i64 t3] 53))) wk.heap.size 53 [.int .i64 t0, .int .i64 t1, .int .i64 t2, .int .i64 t3] := (Blk.lit _ _ _ _ rfl).ext ((Ext.refl _).drew)
          generalize World.drew (wk.alloc (.cells #[.int .i64 t0, .int .i64 t1, .int .i64 t2, .int .i64 t3] 53)) = w3 at *
          have HAL : Hid (al.block < wk.heap.size) := by
            obtain ⟨ad', e', hb', _⟩ := HSL.out i hik
            cases e'
            exact Lib.hid hb'
          have HSZ : Hid (wk.heap.size ≤ w3.heap.size) := Lib.hid X3.size
          obtain ⟨O, hO⟩ : ∃ O, O = wk.heap.size := ⟨_, rfl⟩
          rw [← hO] at kO ⊢
          clear KS hO
          go_wp2_with fail
          go_loopw [9, 10] (fun v n wr => ∃ (a : Nat) (fb : Bool), a ≤ i ∧ v = .bool fb ∧ Hid (seenK D ks a t1 = !fb) ∧ n = .int .i64 a ∧ Ext w3 wr) (fun _ n _ => i - (intOf n).toNat)
          case atStart => exact ⟨0, true, by omega, rfl, Lib.hid rfl, rfl, Ext.refl _⟩
          case round =>
            obtain ⟨a, fb, ha, rfl, hsb, rfl, X⟩ := hrel
            have HX5 := Lib.hid X
            obtain ⟨wo, rfl⟩ : ∃ wo : World, wo = wr := ⟨_, rfl⟩
            have YX := Lib.hid (X3.trans X)
            by_cases hai : a < i
            · have hpa := LT.out a (by omega)
              obtain ⟨al', el, hca⟩ := (HSL.out.ext YX.out).get (show a < q by omega)
              obtain rfl : al = al' := Option.some.inj el
              obtain ⟨as2, hAS2, r0, r1, r2, r3⟩ := row4 (SN.out _ (HX2.out.trans YX.out)).os hpa
              obtain rfl : as' = as2 := Option.some.inj (HAS.out.symm.trans hAS2)
              have q8 : wo.cell? ⟨B, 8, none⟩ = some (.slice (some as') D.ns P.zs) := by rw [← HAS.out]; exact (kF.ext (HX2.out.trans YX.out)).cell 8
              have o1 : wo.cell? ⟨O, 1, none⟩ = some (.int .i64 t1) := (kO.ext X).cell 1
              have HSK : Hid (seenK D ks (a + 1) t1 = if t1 = D.stp (ks.getD a 0) 1 then true else seenK D ks a t1) := Lib.hid rfl
              have hpa64 : ((ks.getD a 0 : Nat) : Int) < (D.ns : Int) := by omega
              have hai64 : (a : Int) < (i : Int) := by omega
              have haq : a < q := by omega
              have haq64 : (a : Int) < (q : Int) := by omega
              generalize ks.getD a 0 = pa at *
              generalize D.stp pa 0 = e0 at *
              generalize D.stp pa 1 = e1 at *
              generalize D.stp pa 2 = e2 at *
              generalize D.stp pa 3 = e3 at *
              clear el hAS2 X
              cases fb
              · have HV : Hid (seenK D ks (a + 1) t1 = !false) := Lib.hid (by rw [HSK.out]; split; rfl; exact hsb.out)
                go_wp2_with fail
                go_quiet (fail)
                go_wp2_with fail
                go_roundw
                case rel => exact ⟨a + 1, false, by omega, rfl, HV, by go_num, HX5.out.drewN _⟩
                case measure => simp [intOf]; omega
              · by_cases hst : e1 = t1
                · have HV : Hid (seenK D ks (a + 1) t1 = !false) := Lib.hid (by rw [HSK.out, if_pos hst.symm]; rfl)
                  have hst1 : (e1 != t1) = false := by simpa using hst
                  clear hst
                  go_wp2_with fail
                  go_quiet (fail)
                  go_wp2_with fail
                  go_roundw
                  case rel => exact ⟨a + 1, false, by omega, rfl, HV, by go_num, HX5.out.drewN _⟩
                  case measure => simp [intOf]; omega
                · have HV : Hid (seenK D ks (a + 1) t1 = !true) := Lib.hid (by rw [HSK.out, if_neg (fun h => hst h.symm)]; exact hsb.out)
                  have hst1 : (e1 != t1) = true := by simpa using hst
                  clear hst
                  go_wp2_with fail
                  go_quiet (fail)
                  go_wp2_with fail
                  go_roundw
                  case rel => exact ⟨a + 1, true, by omega, rfl, HV, by go_num, HX5.out.drewN _⟩
                  case measure => simp [intOf]; omega
            · obtain rfl : a = i := by omega
              have o1 : wo.cell? ⟨O, 1, none⟩ = some (.int .i64 t1) := (kO.ext X).cell 1
              have o2 : wo.cell? ⟨O, 2, none⟩ = some (.int .i64 t2) := (kO.ext X).cell 2
              have o3 : wo.cell? ⟨O, 3, none⟩ = some (.int .i64 t3) := (kO.ext X).cell 3
              have q2 : wo.cell? ⟨B, 2, none⟩ = some (.int .i64 D.first) := (kF.ext (HX2.out.trans YX.out)).cell 2
              have wc : IntKind.i64.wrap (D.first + (j : Int)) = D.first + (j : Int) := IntWalk.i64_in _ (by omega)
              have HOW := Lib.hid (ownsRow_ext HO2.out YX.out)
              have HSW := Lib.hid (HSL.out.ext YX.out)
              clear X
              by_cases h2 : t2 = 0
              · have h20 : (t2 == 0) = true := by simpa using h2
                cases fb
                · have HLN := Lib.hid (show pairsD D j ++ pairsI D (D.first + j) ks (a + 1) = pairsD D j ++ pairsI D (D.first + j) ks a by rw [HPI.out, if_neg (fun h => by rw [hsb.out] at h; exact Bool.noConfusion h.2), List.append_nil])
                  clear h2
                  go_wp2_with fail
                  go_roundw
                  case rel => exact ⟨_, a + 1, rfl, by omega, by go_num, by rw [HLN.out]; exact HOW.out, HX2.out.trans YX.out, HSW.out, hvb⟩
                  case measure => simp [intOf]; omega
                · have HLL := Lib.hid (show pairsD D j ++ pairsI D (D.first + j) ks (a + 1) = (pairsD D j ++ pairsI D (D.first + j) ks a) ++ [(D.first + (j : Int), t1, t3)] by rw [HPI.out, if_pos ⟨h2, hsb.out⟩, List.append_assoc])
                  have kN : Blk (wo.alloc (.cells #[.int .i64 (D.first + (j : Int)), .int .i64 t1, .int .i64 t3] 73)) wo.heap.size 73 [.int .i64 (D.first + (j : Int)), .int .i64 t1, .int .i64 t3] := Blk.lit _ _ _ _ rfl
                  have hlk : (pairsD D j ++ pairsI D (D.first + j) ks a).length ≤ 900000 := by rw [List.length_append]; omega
                  obtain ⟨v', w', hrun, ho', hx', kp, hbl⟩ := run_putT (HOW.out.alloc (.cells #[.int .i64 (D.first + (j : Int)), .int .i64 t1, .int .i64 t3] 73)) ((HX2.out.trans YX.out).alloc _) wo.heap.size _ _ _ kN hlk 66
                  have HO' := Lib.hid ho'
                  have HS' := Lib.hid (seenF_kpt (HSW.out.ext ((Ext.refl _).alloc (.cells #[.int .i64 (D.first + (j : Int)), .int .i64 t1, .int .i64 t3] 73))) kp (fun a e h => hvb.out a e h.symm))
                  have HB' : Hid (∀ a, some al = some a → v'.ownBlock ≠ some a.block) := Lib.hid (fun a e h => by
                    rcases hbl with hb | hb
                    · exact hvb.out a e (hb.symm.trans h)
                    · have h1 := hb _ h
                      obtain rfl : al = a := Option.some.inj e
                      have h2 := HAL.out
                      have h3 := YX.out.size
                      have h4 := ((Ext.refl wo).alloc (.cells #[.int .i64 (D.first + (j : Int)), .int .i64 t1, .int .i64 t3] 73)).size
                      omega)
                  clear ho' kN hlk hbl kp h2
                  go_wp2_with (at_builtin; refine wpList_ran rfl _ _ rfl hrun ?_)
                  go_roundw
                  case rel => exact ⟨_, a + 1, rfl, by omega, by go_num, by rw [HLL.out, flatT_snoc, List.length_append]; exact HO'.out, hx', HS'.out, HB'⟩
                  case measure => simp [intOf]; omega
              · have h20 : (t2 == 0) = false := by simpa using h2
                have HLN := Lib.hid (show pairsD D j ++ pairsI D (D.first + j) ks (a + 1) = pairsD D j ++ pairsI D (D.first + j) ks a by rw [HPI.out, if_neg (fun h => h2 h.1), List.append_nil])
                clear h2
                cases fb
                all_goals
                  go_wp2_with fail
                  go_roundw
                  case rel => exact ⟨_, a + 1, rfl, by omega, by go_num, by rw [HLN.out]; exact HOW.out, HX2.out.trans YX.out, HSW.out, hvb⟩
                  case measure => simp [intOf]; omega
        · obtain rfl : i = q := by omega
          have hpi := pairsI_length D (D.first + j) ks i
          have HF := Lib.hid (show (pairsD D (j + 1)).length ≤ 300 * (j + 1) by rw [HPD.out, List.length_append]; omega)
          have HOW := Lib.hid ho
          have HXW := Lib.hid X
          clear ho X sl
          go_wp2_with fail
          go_roundw
          case rel => exact ⟨_, j + 1, rfl, by omega, by go_num, by rw [HPD.out]; exact HOW.out, HXW.out, HF.out⟩
          case measure => simp [intOf]; omega
    · obtain rfl : j = D.nc := by omega
      obtain ⟨A', c', rfl, _, _, h3⟩ := own_slice ho
      have HF := Lib.hid (show PairsQ D w (.returned (.slice A' (pairsD D D.nc).length c')) wp from ⟨W0.trans X, A', c', rfl, seenT_of h3⟩)
      have k1 := kF.ext X
      have q0 : wp.cell? ⟨B, 0, none⟩ = some (.int .i64 D.sum) := k1.cell 0
      have q1 : wp.cell? ⟨B, 1, none⟩ = some (.int .i64 D.design) := k1.cell 1
      have q2 : wp.cell? ⟨B, 2, none⟩ = some (.int .i64 D.first) := k1.cell 2
      have q3 : wp.cell? ⟨B, 3, none⟩ = some (.slice P.xc D.nc P.zc) := k1.cell 3
      have q4 : wp.cell? ⟨B, 4, none⟩ = some (.slice P.xw D.nw P.zw) := k1.cell 4
      have q5 : wp.cell? ⟨B, 5, none⟩ = some (.slice P.xh D.nh P.zh) := k1.cell 5
      have q6 : wp.cell? ⟨B, 6, none⟩ = some (.slice P.xd D.nd P.zd) := k1.cell 6
      have q7 : wp.cell? ⟨B, 7, none⟩ = some (.slice P.xi D.ni P.zi) := k1.cell 7
      have q8 : wp.cell? ⟨B, 8, none⟩ = some (.slice P.xs D.ns P.zs) := k1.cell 8
      have q9 : wp.cell? ⟨B, 9, none⟩ = some (.slice P.xk D.nk P.zk) := k1.cell 9
      have q10 : wp.cell? ⟨B, 10, none⟩ = some (.slice P.xp D.np P.zp) := k1.cell 10
      generalize (pairsD D D.nc).length = z at *
      clear ho h3 X
      go_wp2_with fail
      go_ret
      exact HF.out
end L08
end Go.Proofs.Ytijhabhnhglhgaa

