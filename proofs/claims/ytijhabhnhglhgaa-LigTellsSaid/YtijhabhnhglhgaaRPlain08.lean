/- The document's glyphs of codes. -/
import Derived.Test.YtijhabhnhglhgaaRChars08
namespace Go.Proofs.Ytijhabhnhglhgaa
open Go.RowKit Go.Lib Go.Deep
namespace L08
open L07

def GlyP (w : World) (g : List (Int × Int)) (e : Ending) (w' : World) : Prop :=
  Ext w w' ∧ ∃ A c, e = .returned (.slice A g.length c) ∧ g.length ≤ c ∧ c ≤ maxLen ∧ SeenG w' A g

set_option maxRecDepth 100000 in
set_option maxHeartbeats 8000000 in
theorem rplain_any (D : FontD) (P : FontP) (m : MapN) (hm : makeD D = some m) (A : Option Addr) (l : List Int) (cp : Nat) (w : World) (sn : SeenFont w D P) (hl : SeenF w A l.length (fun j => l.getD j 0)) (hn : l.length ≤ 1000) (hset : setB D l = true) :
    Calls Try.prog 32 #[fontV D P, .slice A l.length cp] w (GlyP w (glyD D l)) := by
  have W0 : Ext w (w.alloc (.cells #[.int .i64 D.sum, .int .i64 D.design, .int .i64 D.first, .slice P.xc D.nc P.zc, .slice P.xw D.nw P.zw, .slice P.xh D.nh P.zh, .slice P.xd D.nd P.zd, .slice P.xi D.ni P.zi, .slice P.xs D.ns P.zs, .slice P.xk D.nk P.zk, .slice P.xp D.np P.zp] 28)) := (Ext.refl _).alloc _
  have kF : Blk (w.alloc (.cells #[.int .i64 D.sum, .int .i64 D.design, .int .i64 D.first, .slice P.xc D.nc P.zc, .slice P.xw D.nw P.zw, .slice P.xh D.nh P.zh, .slice P.xd D.nd P.zd, .slice P.xi D.ni P.zi, .slice P.xs D.ns P.zs, .slice P.xk D.nk P.zk, .slice P.xp D.np P.zp] 28)) w.heap.size 28 [.int .i64 D.sum, .int .i64 D.design, .int .i64 D.first, .slice P.xc D.nc P.zc, .slice P.xw D.nw P.zw, .slice P.xh D.nh P.zh, .slice P.xd D.nd P.zd, .slice P.xi D.ni P.zi, .slice P.xs D.ns P.zs, .slice P.xk D.nk P.zk, .slice P.xp D.np P.zp] := Blk.lit _ _ _ _ rfl
  have G := Lib.hid (make_good hm)
  have HS := Lib.hid hset
  have SN := Lib.hid sn
  clear sn hset hm
  obtain ⟨n, hnl⟩ : ∃ n, n = l.length := ⟨_, rfl⟩
  rw [← hnl] at hl hn ⊢
  have HN := Lib.hid hnl
  clear hnl
  by_cases hn0 : n = 0
  · subst hn0
    have hl0 : l = [] := List.eq_nil_of_length_eq_zero HN.out.symm
    have HG := Lib.hid (show glyD D l = [] by rw [hl0]; rfl)
    clear hl0
    unfold fontV
    go_enter Try.func32, Try.ntmps32
    go_wp2_with fail
    go_ret
    rw [HG.out]
    exact ⟨W0, none, 0, rfl, by simp, by simp [maxLen], SeenN.nil⟩
  obtain ⟨ad, rfl, hc⟩ := (hl.ext W0).get (show 0 < n by omega)
  obtain ⟨c0, hc0⟩ : ∃ c0, c0 = l.getD 0 0 := ⟨_, rfl⟩
  have hg0 := setB_get HS.out (show 0 < l.length by rw [← HN.out]; omega)
  rw [← hc0] at hg0 hc
  have HG := Lib.hid (show glyD D l = [] ++ glyL D c0 (l.drop 1) by
    have e := drop_get (l := l) (k := 0) (by rw [← HN.out]; omega)
    rw [List.drop_zero] at e
    rw [hc0]
    conv => lhs; rw [e]
    rfl)
  have nz : (n == 0) = false := by simpa using hn0
  have nz' : ((n : Int) == 0) = false := by simp; omega
  have hc : (w.alloc (.cells #[.int .i64 D.sum, .int .i64 D.design, .int .i64 D.first, .slice P.xc D.nc P.zc, .slice P.xw D.nw P.zw, .slice P.xh D.nh P.zh, .slice P.xd D.nd P.zd, .slice P.xi D.ni P.zi, .slice P.xs D.ns P.zs, .slice P.xk D.nk P.zk, .slice P.xp D.np P.zp] 28)).cell? ad = some (.int .i64 c0) := by simpa [Addr.add] using hc
  have HL := Lib.hid (fun w' (x : Ext (w.alloc (.cells #[.int .i64 D.sum, .int .i64 D.design, .int .i64 D.first, .slice P.xc D.nc P.zc, .slice P.xw D.nw P.zw, .slice P.xh D.nh P.zh, .slice P.xd D.nd P.zd, .slice P.xi D.ni P.zi, .slice P.xs D.ns P.zs, .slice P.xk D.nk P.zk, .slice P.xp D.np P.zp] 28)) w') => hl.ext (W0.trans x))
  have h1n : 1 ≤ n := by omega
  unfold fontV
  clear hc0
  have hn1 : (0 : Int) < (n : Int) := by omega
  go_enter Try.func32, Try.ntmps32
  go_wp2_with fail
  generalize hV : (w.alloc (.cells #[.int .i64 D.sum, .int .i64 D.design, .int .i64 D.first, .slice P.xc D.nc P.zc, .slice P.xw D.nw P.zw, .slice P.xh D.nh P.zh, .slice P.xd D.nd P.zd, .slice P.xi D.ni P.zi, .slice P.xs D.ns P.zs, .slice P.xk D.nk P.zk, .slice P.xp D.np P.zp] 28)) = V at *
  generalize hb0 : w.heap.size = b0 at *
  have SNV := SN.out.ext W0
  clear hV
  obtain ⟨_, _, hs0⟩ := hg0
  have END := Lib.hid (fun (w2 : World) (v : Value) (out : List (Int × Int)) (so : Int) (ho : w2.ownsRow V.heap.size 56 2 v out.length (flatG out)) (x : Ext V w2) (hk : out.length ≤ 1000) (hg : glyD D l = out ++ [(so, 0)]) =>
    (show ∃ v' w', (Builtin.append_ #[35, 35] 35 #[v, .slice (some ⟨w2.heap.size, 0, none⟩) 1 1]).run Try.prog (w2.alloc (.cells #[.int .i64 so, .int .i64 0] 56)) = .ok v' w' ∧ GlyP w (glyD D l) (.returned v') w' from by
      obtain ⟨v', w', hr, ho', hx⟩ := run_putG (ho.alloc (.cells #[.int .i64 so, .int .i64 0] 56)) (x.alloc _) w2.heap.size so 0 (by simp) (by simp) (by omega) 35
      refine ⟨v', w', hr, ?_⟩
      have e : flatG out ++ [.int .i64 so, .int .i64 0] = flatG (glyD D l) := by rw [hg, flatG_snoc]
      have e2 : out.length + 1 = (glyD D l).length := by rw [hg]; simp
      rw [e, e2] at ho'
      obtain ⟨A', c', rfl, h1, h2, h3⟩ := own_slice ho'
      exact ⟨W0.trans hx, A', c', rfl, h1, h2, seenG_of h3⟩))
  go_loopw [5, 6, 7] (fun v so i wr => ∃ (vv : Value) (s : Int) (out : List (Int × Int)) (k : Nat), vv = v ∧ so = .int .i64 s ∧ 1 ≤ k ∧ k ≤ n ∧ i = .int .i64 k ∧ Hid (glyD D l = out ++ glyL D s (l.drop k)) ∧ Hid (hasB D s = true) ∧ wr.ownsRow V.heap.size 56 2 vv out.length (flatG out) ∧ Ext V wr ∧ out.length ≤ k) (fun _ _ i _ => n - (intOf i).toNat)
  case atStart => exact ⟨_, c0, [], 1, rfl, rfl, by omega, h1n, rfl, Lib.hid HG.out, Lib.hid hs0, World.ownsRow_nil _ _ _ _, Ext.refl _, by simp⟩
  case round =>
    obtain ⟨vv, s, out, k, hvv, rfl, hk1, hk, rfl, hgl, hs, ho, X, hle⟩ := hrel
    subst hvv
    by_cases hlt : k < n
    · have hkl : k < l.length := by rw [← HN.out]; exact hlt
      obtain ⟨ad2, e2, hce⟩ := (HL.out wr X).get hlt
      cases e2
      obtain ⟨n1, n2, n3⟩ := setB_get HS.out hkl
      have HD := Lib.hid (drop_get hkl)
      generalize hnx : l.getD k 0 = nx at *
      have HNX := Lib.hid hnx
      have kF := kF.ext X
      have hbr := kF.lt
      have q0 : wr.cell? ⟨b0, 0, none⟩ = some (.int .i64 D.sum) := kF.cell 0
      have q1 : wr.cell? ⟨b0, 1, none⟩ = some (.int .i64 D.design) := kF.cell 1
      have q2 : wr.cell? ⟨b0, 2, none⟩ = some (.int .i64 D.first) := kF.cell 2
      have q3 : wr.cell? ⟨b0, 3, none⟩ = some (.slice P.xc D.nc P.zc) := kF.cell 3
      have q4 : wr.cell? ⟨b0, 4, none⟩ = some (.slice P.xw D.nw P.zw) := kF.cell 4
      have q5 : wr.cell? ⟨b0, 5, none⟩ = some (.slice P.xh D.nh P.zh) := kF.cell 5
      have q6 : wr.cell? ⟨b0, 6, none⟩ = some (.slice P.xd D.nd P.zd) := kF.cell 6
      have q7 : wr.cell? ⟨b0, 7, none⟩ = some (.slice P.xi D.ni P.zi) := kF.cell 7
      have q8 : wr.cell? ⟨b0, 8, none⟩ = some (.slice P.xs D.ns P.zs) := kF.cell 8
      have q9 : wr.cell? ⟨b0, 9, none⟩ = some (.slice P.xk D.nk P.zk) := kF.cell 9
      have q10 : wr.cell? ⟨b0, 10, none⟩ = some (.slice P.xp D.np P.zp) := kF.cell 10
      have RU := Lib.hid (fun w' (x : Ext wr w') => show Calls Try.prog 59 #[.agg #[.int .i64 D.sum, .int .i64 D.design, .int .i64 D.first, .slice P.xc D.nc P.zc, .slice P.xw D.nw P.zw, .slice P.xh D.nh P.zh, .slice P.xd D.nd P.zd, .slice P.xi D.ni P.zi, .slice P.xs D.ns P.zs, .slice P.xk D.nk P.zk, .slice P.xp D.np P.zp], .int .i64 s, .int .i64 nx] w' (Ret w' (ruleV D s nx)) from rrule_any D P s nx w' ((SNV.ext X).ext x) hs.out)
      have KS := Lib.hid (fun w' (x : Ext wr w') => show w'.cell? ⟨b0, 0, none⟩ = some (.int .i64 D.sum) ∧ w'.cell? ⟨b0, 1, none⟩ = some (.int .i64 D.design) ∧ w'.cell? ⟨b0, 2, none⟩ = some (.int .i64 D.first) ∧ w'.cell? ⟨b0, 3, none⟩ = some (.slice P.xc D.nc P.zc) ∧ w'.cell? ⟨b0, 4, none⟩ = some (.slice P.xw D.nw P.zw) ∧ w'.cell? ⟨b0, 5, none⟩ = some (.slice P.xh D.nh P.zh) ∧ w'.cell? ⟨b0, 6, none⟩ = some (.slice P.xd D.nd P.zd) ∧ w'.cell? ⟨b0, 7, none⟩ = some (.slice P.xi D.ni P.zi) ∧ w'.cell? ⟨b0, 8, none⟩ = some (.slice P.xs D.ns P.zs) ∧ w'.cell? ⟨b0, 9, none⟩ = some (.slice P.xk D.nk P.zk) ∧ w'.cell? ⟨b0, 10, none⟩ = some (.slice P.xp D.np P.zp) ∧ w'.cell? (ad.add k) = some (.int .i64 nx) from ⟨x.at q0, x.at q1, x.at q2, x.at q3, x.at q4, x.at q5, x.at q6, x.at q7, x.at q8, x.at q9, x.at q10, x.at hce⟩)
      have hk64 : (k : Int) < (n : Int) := by omega
      have HO := Lib.hid ho
      have HX := Lib.hid X
      have HN3 := Lib.hid n3
      clear ho X n3 hnx q0 q1 q2 q3 q4 q5 q6 q7 q8 q9 q10
      obtain ⟨t0, t1, t2, t3, bb, hRV, hT⟩ : ∃ t0 t1 t2 t3 bb, ruleV D s nx = .tuple #[.agg #[.int .i64 t0, .int .i64 t1, .int .i64 t2, .int .i64 t3], .bool bb] ∧ ((bb = false ∧ ruleD D s nx = none) ∨ (∃ q, bb = true ∧ ruleD D s nx = some q ∧ D.stp q 0 = t0 ∧ D.stp q 1 = t1 ∧ D.stp q 2 = t2 ∧ D.stp q 3 = t3)) := by
        cases hr : ruleD D s nx with
        | none => exact ⟨0, 0, 0, 0, false, by rw [ruleV, hr], .inl ⟨rfl, rfl⟩⟩
        | some q => exact ⟨_, _, _, _, true, by rw [ruleV, hr], .inr ⟨q, rfl, rfl, rfl, rfl, rfl, rfl⟩⟩
      have HT := Lib.hid hT
      rw [hRV] at RU
      clear hT hRV
      go_wp2_with fail
      refine wp_region_noPanic ?_
      refine wp_region_held_drew (S := (fun w' => w'.cell? ⟨b0, 0, none⟩ = some (.int .i64 D.sum) ∧ w'.cell? ⟨b0, 1, none⟩ = some (.int .i64 D.design) ∧ w'.cell? ⟨b0, 2, none⟩ = some (.int .i64 D.first) ∧ w'.cell? ⟨b0, 3, none⟩ = some (.slice P.xc D.nc P.zc) ∧ w'.cell? ⟨b0, 4, none⟩ = some (.slice P.xw D.nw P.zw) ∧ w'.cell? ⟨b0, 5, none⟩ = some (.slice P.xh D.nh P.zh) ∧ w'.cell? ⟨b0, 6, none⟩ = some (.slice P.xd D.nd P.zd) ∧ w'.cell? ⟨b0, 7, none⟩ = some (.slice P.xi D.ni P.zi) ∧ w'.cell? ⟨b0, 8, none⟩ = some (.slice P.xs D.ns P.zs) ∧ w'.cell? ⟨b0, 9, none⟩ = some (.slice P.xk D.nk P.zk) ∧ w'.cell? ⟨b0, 10, none⟩ = some (.slice P.xp D.np P.zp) ∧ w'.cell? (ad.add k) = some (.int .i64 nx))) (by kernel_rfl) (KS.out _ ((Ext.refl _).drew)) (fun h0 => ?_)
      refine wpAnyH_take (i := 0) (oi := ?_) (v := ?_) ?_ (by kernel_rfl) (by kernel_rfl) (by kernel_rfl) ?_ ?_ h0 ?_
      rotate_left 2
      · simp only [List.getElem?_toArray, List.getElem?_cons_zero]; rfl
      · exact fun _ _ _ h => h
      · refine Or.inl ⟨by rfl, ?_⟩
        intro w hSw
        (try dsimp only at hSw)
        go_simp
        (try with_reducible rfl)
      (try simp only [Act.put, List.setIfInBounds_toArray, List.set_cons_zero, List.set_cons_succ])
      refine wpAnyH_take (i := 1) (oi := ?_) (v := ?_) ?_ (by kernel_rfl) (by kernel_rfl) (by kernel_rfl) ?_ ?_ h0 ?_
      rotate_left 2
      · simp only [List.getElem?_toArray, List.getElem?_cons_zero, List.getElem?_cons_succ]; rfl
      · exact fun _ _ _ h => h
      · refine Or.inl ⟨by rfl, ?_⟩
        intro w hSw
        (try dsimp only at hSw)
        go_simp
        (try with_reducible rfl)
      (try simp only [Act.put, List.setIfInBounds_toArray, List.set_cons_zero, List.set_cons_succ])
      refine wpAnyH_take (i := 2) (oi := ?_) (v := ?_) ?_ (by kernel_rfl) (by kernel_rfl) (by kernel_rfl) ?_ ?_ h0 ?_
      rotate_left 2
      · simp only [List.getElem?_toArray, List.getElem?_cons_zero, List.getElem?_cons_succ]; rfl
      · exact fun _ _ _ h => h
      · refine Or.inl ⟨by rfl, ?_⟩
        intro w hSw
        (try dsimp only at hSw)
        go_simp
        (try with_reducible rfl)
      (try simp only [Act.put, List.setIfInBounds_toArray, List.set_cons_zero, List.set_cons_succ])
      refine wpAnyH_take (i := 3) (oi := ?_) (v := ?_) ?_ (by kernel_rfl) (by kernel_rfl) (by kernel_rfl) ?_ ?_ h0 ?_
      rotate_left 2
      · simp only [List.getElem?_toArray, List.getElem?_cons_zero, List.getElem?_cons_succ]; rfl
      · exact fun _ _ _ h => h
      · refine Or.inl ⟨by rfl, ?_⟩
        intro w hSw
        (try dsimp only at hSw)
        go_simp
        (try with_reducible rfl)
      (try simp only [Act.put, List.setIfInBounds_toArray, List.set_cons_zero, List.set_cons_succ])
      refine wpAnyH_take (i := 4) (oi := ?_) (v := ?_) ?_ (by kernel_rfl) (by kernel_rfl) (by kernel_rfl) ?_ ?_ h0 ?_
      rotate_left 2
      · simp only [List.getElem?_toArray, List.getElem?_cons_zero, List.getElem?_cons_succ]; rfl
      · exact fun _ _ _ h => h
      · refine Or.inl ⟨by rfl, ?_⟩
        intro w hSw
        (try dsimp only at hSw)
        go_simp
        (try with_reducible rfl)
      (try simp only [Act.put, List.setIfInBounds_toArray, List.set_cons_zero, List.set_cons_succ])
      refine wpAnyH_take (i := 5) (oi := ?_) (v := ?_) ?_ (by kernel_rfl) (by kernel_rfl) (by kernel_rfl) ?_ ?_ h0 ?_
      rotate_left 2
      · simp only [List.getElem?_toArray, List.getElem?_cons_zero, List.getElem?_cons_succ]; rfl
      · exact fun _ _ _ h => h
      · refine Or.inl ⟨by rfl, ?_⟩
        intro w hSw
        (try dsimp only at hSw)
        go_simp
        (try with_reducible rfl)
      (try simp only [Act.put, List.setIfInBounds_toArray, List.set_cons_zero, List.set_cons_succ])
      refine wpAnyH_ready (rs := [6, 10]) (by kernel_rfl) (by simp) ?_
      refine AllReadyH.cons (o := ?_) ?_ (fun K hK => ?_) ?_
      rotate_left
      · simp only [List.getElem?_toArray, List.getElem?_cons_zero, List.getElem?_cons_succ]; rfl
      · go_simp
        refine (RU.out _ (Ext.refl _).drew).mono ?_; rintro e w1 ⟨rfl, y1⟩
        have y1 : Ext wr w1 := ext_drew y1
        refine hK.out _ _ (KS.out _ y1) (fun h1 => ?_)
        clear hK K
        refine wpAnyH_take (i := 7) (oi := ?_) (v := ?_) ?_ (by kernel_rfl) (by kernel_rfl) (by kernel_rfl) ?_ ?_ h1 ?_
        rotate_left 2
        · simp only [List.getElem?_toArray, List.getElem?_cons_zero, List.getElem?_cons_succ]; rfl
        · exact fun _ _ _ h => h
        · refine Or.inl ⟨by rfl, ?_⟩
          intro w hSw
          (try dsimp only at hSw)
          go_simp
          (try with_reducible rfl)
        (try simp only [Act.put, List.setIfInBounds_toArray, List.set_cons_zero, List.set_cons_succ])
        refine wpAnyH_take (i := 8) (oi := ?_) (v := ?_) ?_ (by kernel_rfl) (by kernel_rfl) (by kernel_rfl) ?_ ?_ h1 ?_
        rotate_left 2
        · simp only [List.getElem?_toArray, List.getElem?_cons_zero, List.getElem?_cons_succ]; rfl
        · exact fun _ _ _ h => h
        · refine Or.inl ⟨by rfl, ?_⟩
          intro w hSw
          (try dsimp only at hSw)
          go_simp
          (try with_reducible rfl)
        (try simp only [Act.put, List.setIfInBounds_toArray, List.set_cons_zero, List.set_cons_succ])
        refine wpAnyH_take (i := 9) (oi := ?_) (v := ?_) ?_ (by kernel_rfl) (by kernel_rfl) (by kernel_rfl) ?_ ?_ h1 ?_
        rotate_left 2
        · simp only [List.getElem?_toArray, List.getElem?_cons_zero, List.getElem?_cons_succ]; rfl
        · exact fun _ _ _ h => h
        · refine Or.inl ⟨by rfl, ?_⟩
          intro w hSw
          (try dsimp only at hSw)
          go_simp
          (try with_reducible rfl)
        (try simp only [Act.put, List.setIfInBounds_toArray, List.set_cons_zero, List.set_cons_succ])
        refine wpAnyH_ready (rs := [10]) (by kernel_rfl) (by simp) ?_
        refine AllReadyH.cons (o := ?_) ?_ (fun K hK => ?_) AllReadyH.nil
        rotate_left
        · simp only [List.getElem?_toArray, List.getElem?_cons_zero, List.getElem?_cons_succ]; rfl
        go_simp
        refine hK.out _ _ (KS.out _ (y1.alloc _)) (fun h2 => ?_)
        clear hK K
        (try simp only [Act.put, List.setIfInBounds_toArray, List.set_cons_zero, List.set_cons_succ])
        refine wpAnyH_ready (rs := [11]) (by kernel_rfl) (by simp) ?_
        refine AllReadyH.cons (o := ?_) ?_ (fun K hK => ?_) AllReadyH.nil
        rotate_left
        · simp only [List.getElem?_toArray, List.getElem?_cons_zero, List.getElem?_cons_succ]; rfl
        go_simp
        refine hK.out _ _ (KS.out _ (y1.alloc _)) (fun h3 => ?_)
        clear hK K
        (try simp only [Act.put, List.setIfInBounds_toArray, List.set_cons_zero, List.set_cons_succ])
        refine wpAnyH_take (i := 12) (oi := ?_) (v := ?_) ?_ (by kernel_rfl) (by kernel_rfl) (by kernel_rfl) ?_ ?_ h3 ?_
        rotate_left 2
        · simp only [List.getElem?_toArray, List.getElem?_cons_zero, List.getElem?_cons_succ]; rfl
        · exact fun _ _ _ h => h
        · refine Or.inl ⟨by rfl, ?_⟩
          intro w hSw
          (try dsimp only at hSw)
          go_simp
          (try with_reducible rfl)
        (try simp only [Act.put, List.setIfInBounds_toArray, List.set_cons_zero, List.set_cons_succ])
        refine wpAnyH_done (by kernel_rfl) ?_ _
        refine NoPanic.normal ?_
        clear h0 h1 h2 h3 KS RU
        have kb : Blk (w1.alloc (.cells #[.int .i64 t0, .int .i64 t1, .int .i64 t2, .int .i64 t3] 53)) w1.heap.size 53 [.int .i64 t0, .int .i64 t1, .int .i64 t2, .int .i64 t3] := Blk.lit _ _ _ _ rfl
        have yw : Ext wr (w1.alloc (.cells #[.int .i64 t0, .int .i64 t1, .int .i64 t2, .int .i64 t3] 53)) := y1.alloc _
        clear y1
        generalize w1.alloc (.cells #[.int .i64 t0, .int .i64 t1, .int .i64 t2, .int .i64 t3] 53) = W2 at *
        generalize w1.heap.size = bx at *
        have hoW := Lib.hid (ownsRow_ext HO.out yw)
        have xW := Lib.hid (HX.out.trans yw)
        have hce := yw.at hce
        have kFw := (kF.ext yw)
        have d0 : W2.cell? ⟨bx, 0, none⟩ = some (.int .i64 t0) := kb.cell 0
        have d1 : W2.cell? ⟨bx, 1, none⟩ = some (.int .i64 t1) := kb.cell 1
        have d2 : W2.cell? ⟨bx, 2, none⟩ = some (.int .i64 t2) := kb.cell 2
        have d3 : W2.cell? ⟨bx, 3, none⟩ = some (.int .i64 t3) := kb.cell 3
        rcases HT.out with ⟨rfl, hr⟩ | ⟨q, rfl, hr, rfl, rfl, rfl, rfl⟩
        · have HGL := Lib.hid (show glyD D l = (out ++ [(s, 0)]) ++ glyL D nx (l.drop (k + 1)) by rw [hgl.out, HD.out]; simp only [glyL, hr]; simp)
          have kN : Blk (W2.alloc (.cells #[.int .i64 s, .int .i64 0] 56)) W2.heap.size 56 [.int .i64 s, .int .i64 0] := Blk.lit _ _ _ _ rfl
          obtain ⟨v', w', hrun, ho', hx'⟩ := run_putG (hoW.out.alloc (.cells #[.int .i64 s, .int .i64 0] 56)) (xW.out.alloc _) W2.heap.size s 0 (kN.cell 0) (kN.cell 1) (by omega) 35
          have HO' := Lib.hid ho'
          have hce2 : w'.cell? (ad.add k) = some (.int .i64 nx) := by
            obtain ⟨ad3, e3, h⟩ := (HL.out w' hx').get hlt
            cases e3
            rw [h, HNX.out]
          clear ho' kN hr
          go_wp2_with (at_builtin; refine wpList_ran rfl _ _ rfl hrun ?_)
          go_roundw
          case rel => exact ⟨_, nx, out ++ [(s, 0)], k + 1, rfl, rfl, by omega, by omega, by go_num, HGL, HN3, by rw [flatG_snoc, List.length_append]; exact HO'.out, hx', by simp; omega⟩
          case measure => simp [intOf]; omega
        · obtain ⟨hq1, hq2, hq3, hq4, hq5⟩ := G.out.step hs.out hr
          obtain ⟨_, _, ⟨t20, t21⟩, ⟨t30, t31⟩⟩ := (check_in G.out.check).stp q hq1
          by_cases h2 : D.stp q 2 = 0
          · have h20 : (D.stp q 2 == 0) = true := by simpa using h2
            have HGL := Lib.hid (show glyD D l = out ++ glyL D (D.stp q 3) (l.drop (k + 1)) by rw [hgl.out, HD.out]; simp only [glyL, hr, h2, if_true])
            have HH := Lib.hid (hq4 h2).2
            clear hr hq2 hq3 hq4 hq5 h2
            go_wp2_with fail
            go_roundw
            case rel => exact ⟨_, D.stp q 3, out, k + 1, rfl, rfl, by omega, by omega, by go_num, HGL, HH, hoW.out, xW.out, by omega⟩
            case measure => simp [intOf]; omega
          · have h20 : (D.stp q 2 == 0) = false := by simpa using h2
            obtain ⟨p0, p1, p2⟩ := hq5 h2
            obtain ⟨pk, hpk⟩ := Int.eq_ofNat_of_zero_le p0
            rw [hpk] at p1 p2
            have HGL := Lib.hid (show glyD D l = (out ++ [(s, D.kd pk)]) ++ glyL D nx (l.drop (k + 1)) by rw [hgl.out, HD.out]; simp only [glyL, hr, h2, if_false, hpk]; simp)
            obtain ⟨adk, hadk, hck⟩ := (SNV.ext xW.out).ok.get (show pk < D.nk by omega)
            have g9 : W2.cell? ⟨b0, 9, none⟩ = some (.slice P.xk D.nk P.zk) := kFw.cell 9
            rw [hadk] at g9
            have hpk' : 256 * (D.stp q 2 - 128) + D.stp q 3 = (pk : Int) := hpk
            have wk : IntKind.i64.wrap (256 * (D.stp q 2 - 128) + D.stp q 3) = (pk : Int) := by rw [hpk']; exact IntWalk.i64_in _ (by have := (check_in G.out.check).nk; omega)
            generalize D.kd pk = kv at *
            have kN : Blk (W2.alloc (.cells #[.int .i64 s, .int .i64 kv] 56)) W2.heap.size 56 [.int .i64 s, .int .i64 kv] := Blk.lit _ _ _ _ rfl
            obtain ⟨v', w', hrun, ho', hx'⟩ := run_putG (hoW.out.alloc (.cells #[.int .i64 s, .int .i64 kv] 56)) (xW.out.alloc _) W2.heap.size s kv (kN.cell 0) (kN.cell 1) (by omega) 35
            have HO' := Lib.hid ho'
            have hce2 : w'.cell? (ad.add k) = some (.int .i64 nx) := by
              obtain ⟨ad3, e3, h⟩ := (HL.out w' hx').get hlt
              cases e3
              rw [h, HNX.out]
            have hpi : (pk : Int) < (D.nk : Int) := p1
            clear ho' kN hr hq2 hq3 hq4 hq5 h2 hpk p0 hadk
            go_wp2_with (at_builtin; refine wpList_ran rfl _ _ rfl hrun ?_)
            go_roundw
            case rel => exact ⟨_, nx, out ++ [(s, kv)], k + 1, rfl, rfl, by omega, by omega, by go_num, HGL, HN3, by rw [flatG_snoc, List.length_append]; exact HO'.out, hx', by simp; omega⟩
            case measure => simp [intOf]; omega
      · refine AllReadyH.cons (o := ?_) ?_ (fun K hK => ?_) AllReadyH.nil
        rotate_left
        · simp only [List.getElem?_toArray, List.getElem?_cons_zero, List.getElem?_cons_succ]; rfl
        go_simp
        refine hK.out _ _ (KS.out _ ((Ext.refl _).drew.alloc _)) (fun h1 => ?_)
        clear hK K
        (try simp only [Act.put, List.setIfInBounds_toArray, List.set_cons_zero, List.set_cons_succ])
        refine wpAnyH_ready (rs := [6]) (by kernel_rfl) (by simp) ?_
        refine AllReadyH.cons (o := ?_) ?_ (fun K hK => ?_) AllReadyH.nil
        rotate_left
        · simp only [List.getElem?_toArray, List.getElem?_cons_zero, List.getElem?_cons_succ]; rfl
        go_simp
        refine (RU.out _ ((Ext.refl _).drew.alloc _)).mono ?_; rintro e w1 ⟨rfl, y1⟩
        have kz : Blk w1 wr.heap.size 53 [.int .i64 0, .int .i64 0, .int .i64 0, .int .i64 0] := (Blk.lit wr.drew wr.heap.size 53 #[.int .i64 0, .int .i64 0, .int .i64 0, .int .i64 0] rfl).ext y1
        have y1 : Ext wr w1 := ((Ext.refl _).drew.alloc _).trans y1
        refine hK.out _ _ (KS.out _ y1) (fun h2 => ?_)
        clear hK K
        refine wpAnyH_take (i := 7) (oi := ?_) (v := ?_) ?_ (by kernel_rfl) (by kernel_rfl) (by kernel_rfl) ?_ ?_ h2 ?_
        rotate_left 2
        · simp only [List.getElem?_toArray, List.getElem?_cons_zero, List.getElem?_cons_succ]; rfl
        · exact fun _ _ _ h => h
        · refine Or.inl ⟨by rfl, ?_⟩
          intro w hSw
          (try dsimp only at hSw)
          go_simp
          (try with_reducible rfl)
        (try simp only [Act.put, List.setIfInBounds_toArray, List.set_cons_zero, List.set_cons_succ])
        refine wpAnyH_take (i := 8) (oi := ?_) (v := ?_) ?_ (by kernel_rfl) (by kernel_rfl) (by kernel_rfl) ?_ ?_ h2 ?_
        rotate_left 2
        · simp only [List.getElem?_toArray, List.getElem?_cons_zero, List.getElem?_cons_succ]; rfl
        · exact fun _ _ _ h => h
        · refine Or.inl ⟨by rfl, ?_⟩
          intro w hSw
          (try dsimp only at hSw)
          go_simp
          (try with_reducible rfl)
        (try simp only [Act.put, List.setIfInBounds_toArray, List.set_cons_zero, List.set_cons_succ])
        refine wpAnyH_take (i := 9) (oi := ?_) (v := ?_) ?_ (by kernel_rfl) (by kernel_rfl) (by kernel_rfl) ?_ ?_ h2 ?_
        rotate_left 2
        · simp only [List.getElem?_toArray, List.getElem?_cons_zero, List.getElem?_cons_succ]; rfl
        · exact fun _ _ _ h => h
        · refine Or.inl ⟨by rfl, ?_⟩
          intro w hSw
          (try dsimp only at hSw)
          go_simp
          (try with_reducible rfl)
        (try simp only [Act.put, List.setIfInBounds_toArray, List.set_cons_zero, List.set_cons_succ])
        refine wpAnyH_ready (rs := [11]) (by kernel_rfl) (by simp) ?_
        refine AllReadyH.cons (o := ?_) ?_ (fun K hK => ?_) AllReadyH.nil
        rotate_left
        · simp only [List.getElem?_toArray, List.getElem?_cons_zero, List.getElem?_cons_succ]; rfl
        have z0 : w1.cell? ⟨wr.heap.size, 0, none⟩ = some (.int .i64 0) := kz.cell 0
        have u0 := kz.free 0
        have z1 : w1.cell? ⟨wr.heap.size, 1, none⟩ = some (.int .i64 0) := kz.cell 1
        have u1 := kz.free 1
        have z2 : w1.cell? ⟨wr.heap.size, 2, none⟩ = some (.int .i64 0) := kz.cell 2
        have u2 := kz.free 2
        have z3 : w1.cell? ⟨wr.heap.size, 3, none⟩ = some (.int .i64 0) := kz.cell 3
        have u3 := kz.free 3
        go_simp
        have yw : Ext wr ((((w1.setCell ⟨wr.heap.size, 0, none⟩ (.int .i64 t0)).setCell ⟨wr.heap.size, 1, none⟩ (.int .i64 t1)).setCell ⟨wr.heap.size, 2, none⟩ (.int .i64 t2)).setCell ⟨wr.heap.size, 3, none⟩ (.int .i64 t3)) := (((y1.setCell (Nat.le_refl _) _).setCell (Nat.le_refl _) _).setCell (Nat.le_refl _) _).setCell (Nat.le_refl _) _
        have kb : Blk _ wr.heap.size 53 [.int .i64 t0, .int .i64 t1, .int .i64 t2, .int .i64 t3] := (((kz.set 0 (.int .i64 t0)).set 1 (.int .i64 t1)).set 2 (.int .i64 t2)).set 3 (.int .i64 t3)
        refine hK.out _ _ (KS.out _ yw) (fun h3 => ?_)
        clear hK K
        (try simp only [Act.put, List.setIfInBounds_toArray, List.set_cons_zero, List.set_cons_succ])
        refine wpAnyH_take (i := 12) (oi := ?_) (v := ?_) ?_ (by kernel_rfl) (by kernel_rfl) (by kernel_rfl) ?_ ?_ h3 ?_
        rotate_left 2
        · simp only [List.getElem?_toArray, List.getElem?_cons_zero, List.getElem?_cons_succ]; rfl
        · exact fun _ _ _ h => h
        · refine Or.inl ⟨by rfl, ?_⟩
          intro w hSw
          (try dsimp only at hSw)
          go_simp
          (try with_reducible rfl)
        (try simp only [Act.put, List.setIfInBounds_toArray, List.set_cons_zero, List.set_cons_succ])
        refine wpAnyH_done (by kernel_rfl) ?_ _
        refine NoPanic.normal ?_
        clear h0 h1 h2 h3 KS RU z0 z1 z2 z3 u0 u1 u2 u3 kz y1
        generalize (((w1.setCell ⟨wr.heap.size, 0, none⟩ (.int .i64 t0)).setCell ⟨wr.heap.size, 1, none⟩ (.int .i64 t1)).setCell ⟨wr.heap.size, 2, none⟩ (.int .i64 t2)).setCell ⟨wr.heap.size, 3, none⟩ (.int .i64 t3) = W2 at *
        generalize wr.heap.size = bx at *
        have hoW := Lib.hid (ownsRow_ext HO.out yw)
        have xW := Lib.hid (HX.out.trans yw)
        have hce := yw.at hce
        have kFw := (kF.ext yw)
        have d0 : W2.cell? ⟨bx, 0, none⟩ = some (.int .i64 t0) := kb.cell 0
        have d1 : W2.cell? ⟨bx, 1, none⟩ = some (.int .i64 t1) := kb.cell 1
        have d2 : W2.cell? ⟨bx, 2, none⟩ = some (.int .i64 t2) := kb.cell 2
        have d3 : W2.cell? ⟨bx, 3, none⟩ = some (.int .i64 t3) := kb.cell 3
        rcases HT.out with ⟨rfl, hr⟩ | ⟨q, rfl, hr, rfl, rfl, rfl, rfl⟩
        · have HGL := Lib.hid (show glyD D l = (out ++ [(s, 0)]) ++ glyL D nx (l.drop (k + 1)) by rw [hgl.out, HD.out]; simp only [glyL, hr]; simp)
          have kN : Blk (W2.alloc (.cells #[.int .i64 s, .int .i64 0] 56)) W2.heap.size 56 [.int .i64 s, .int .i64 0] := Blk.lit _ _ _ _ rfl
          obtain ⟨v', w', hrun, ho', hx'⟩ := run_putG (hoW.out.alloc (.cells #[.int .i64 s, .int .i64 0] 56)) (xW.out.alloc _) W2.heap.size s 0 (kN.cell 0) (kN.cell 1) (by omega) 35
          have HO' := Lib.hid ho'
          have hce2 : w'.cell? (ad.add k) = some (.int .i64 nx) := by
            obtain ⟨ad3, e3, h⟩ := (HL.out w' hx').get hlt
            cases e3
            rw [h, HNX.out]
          clear ho' kN hr
          go_wp2_with (at_builtin; refine wpList_ran rfl _ _ rfl hrun ?_)
          go_roundw
          case rel => exact ⟨_, nx, out ++ [(s, 0)], k + 1, rfl, rfl, by omega, by omega, by go_num, HGL, HN3, by rw [flatG_snoc, List.length_append]; exact HO'.out, hx', by simp; omega⟩
          case measure => simp [intOf]; omega
        · obtain ⟨hq1, hq2, hq3, hq4, hq5⟩ := G.out.step hs.out hr
          obtain ⟨_, _, ⟨t20, t21⟩, ⟨t30, t31⟩⟩ := (check_in G.out.check).stp q hq1
          by_cases h2 : D.stp q 2 = 0
          · have h20 : (D.stp q 2 == 0) = true := by simpa using h2
            have HGL := Lib.hid (show glyD D l = out ++ glyL D (D.stp q 3) (l.drop (k + 1)) by rw [hgl.out, HD.out]; simp only [glyL, hr, h2, if_true])
            have HH := Lib.hid (hq4 h2).2
            clear hr hq2 hq3 hq4 hq5 h2
            go_wp2_with fail
            go_roundw
            case rel => exact ⟨_, D.stp q 3, out, k + 1, rfl, rfl, by omega, by omega, by go_num, HGL, HH, hoW.out, xW.out, by omega⟩
            case measure => simp [intOf]; omega
          · have h20 : (D.stp q 2 == 0) = false := by simpa using h2
            obtain ⟨p0, p1, p2⟩ := hq5 h2
            obtain ⟨pk, hpk⟩ := Int.eq_ofNat_of_zero_le p0
            rw [hpk] at p1 p2
            have HGL := Lib.hid (show glyD D l = (out ++ [(s, D.kd pk)]) ++ glyL D nx (l.drop (k + 1)) by rw [hgl.out, HD.out]; simp only [glyL, hr, h2, if_false, hpk]; simp)
            obtain ⟨adk, hadk, hck⟩ := (SNV.ext xW.out).ok.get (show pk < D.nk by omega)
            have g9 : W2.cell? ⟨b0, 9, none⟩ = some (.slice P.xk D.nk P.zk) := kFw.cell 9
            rw [hadk] at g9
            have hpk' : 256 * (D.stp q 2 - 128) + D.stp q 3 = (pk : Int) := hpk
            have wk : IntKind.i64.wrap (256 * (D.stp q 2 - 128) + D.stp q 3) = (pk : Int) := by rw [hpk']; exact IntWalk.i64_in _ (by have := (check_in G.out.check).nk; omega)
            generalize D.kd pk = kv at *
            have kN : Blk (W2.alloc (.cells #[.int .i64 s, .int .i64 kv] 56)) W2.heap.size 56 [.int .i64 s, .int .i64 kv] := Blk.lit _ _ _ _ rfl
            obtain ⟨v', w', hrun, ho', hx'⟩ := run_putG (hoW.out.alloc (.cells #[.int .i64 s, .int .i64 kv] 56)) (xW.out.alloc _) W2.heap.size s kv (kN.cell 0) (kN.cell 1) (by omega) 35
            have HO' := Lib.hid ho'
            have hce2 : w'.cell? (ad.add k) = some (.int .i64 nx) := by
              obtain ⟨ad3, e3, h⟩ := (HL.out w' hx').get hlt
              cases e3
              rw [h, HNX.out]
            have hpi : (pk : Int) < (D.nk : Int) := p1
            clear ho' kN hr hq2 hq3 hq4 hq5 h2 hpk p0 hadk
            go_wp2_with (at_builtin; refine wpList_ran rfl _ _ rfl hrun ?_)
            go_roundw
            case rel => exact ⟨_, nx, out ++ [(s, kv)], k + 1, rfl, rfl, by omega, by omega, by go_num, HGL, HN3, by rw [flatG_snoc, List.length_append]; exact HO'.out, hx', by simp; omega⟩
            case measure => simp [intOf]; omega
    · obtain rfl : k = n := by omega
      have hdl : l.drop k = [] := List.drop_eq_nil_of_le (by rw [← HN.out]; omega)
      obtain ⟨v', w', hr, hq⟩ := END.out wr vv out s ho X (by omega) (by rw [hgl.out, hdl]; rfl)
      have HQ := Lib.hid hq
      clear hq hdl kF ho X
      go_wp2_with (at_builtin; refine wpList_ran rfl _ _ rfl hr ?_)
      go_ret
      exact HQ.out
end L08
end Go.Proofs.Ytijhabhnhglhgaa

