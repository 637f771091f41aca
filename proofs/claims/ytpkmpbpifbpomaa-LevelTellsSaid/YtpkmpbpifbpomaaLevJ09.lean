/- The landed calls of layer 9: Edges. -/
import Derived.Test.YtpkmpbpifbpomaaLevI09
import Derived.Deep.RegionHeld3
namespace Go.Proofs.Ytpkmpbpifbpomaa
open Go.RowKit Go.Lib
namespace L09
open L02 L07 L08

/-- A store of a struct, in a region that draws its order. -/
theorem step_store {P : Program} {ops : Array Oper} {o : Oper} {a : Act} {w : World} {K : Act → World → Prop} {Q : Exit → Act → World → Prop} {E : Prop} (ty : TypeId) (x y : Operand) (ho : o.op = .store ty x y)
    (b : Nat) (cells : Array Value) (hx : a.eval x = .pointer (some ⟨b, 0, none⟩)) (hy : a.eval y = .agg cells) (ht : w.there b 0 cells.size) (hi : (P.info? ty).map (·.size) = some cells.size) (h1 : cells.all (·.oneCell') = true)
    (hw : Region.wanted o (yielded ops a.tmps) = true) (h : K (a.put o.dst undef) (w.setCells b 0 cells.toList)) : if Region.wanted o (yielded ops a.tmps) = true then Oper.wp P o a w K Q else E := by
  rw [if_pos hw]
  exact wp_store_mid ty x y ho b 0 cells hx hy ht hi h1 h

set_option maxRecDepth 100000 in
set_option maxHeartbeats 8000000 in
theorem fedges_yes (D : FontD) (P : FontP) (T : FaceT) (Q : FaceQ) (code n : Int) (w : World) (ok : FaceOk D P T Q) (sn : SeenFace w D P T Q) (c1 : -9223372036854775808 ≤ code) (c2 : code ≤ 9223372036854775807) (n1 : -9223372036854775808 ≤ n) (n2 : n ≤ 9223372036854775807) (h1 : faceB D T = true) (h2 : hasB D code = true) :
    Calls Try.prog 31 #[.agg #[.int .i64 D.sum, .int .i64 D.design, .int .i64 D.first, .slice P.xc D.nc P.zc, .slice P.xw D.nw P.zw, .slice P.xh D.nh P.zh, .slice P.xd D.nd P.zd, .slice P.xi D.ni P.zi, .slice P.xs D.ns P.zs, .slice P.xk D.nk P.zk, .slice P.xp D.np P.zp, .int .i64 T.size, .int .i64 T.step, .int .i64 T.up, .int .i64 T.down, .slice Q.xt T.nt Q.zt], .int .i64 code, .int .i64 n] w (Ret w (.tuple #[.int .i64 (wideN D T code (clampN T n) * trV T code 2 / 1000), .int .i64 (wideN D T code (clampN T n) * trV T code 3 / 1000), .int .i64 0])) := by
  obtain ⟨V, hV⟩ : ∃ V, V = w.alloc (.cells #[.int .i64 D.sum, .int .i64 D.design, .int .i64 D.first, .slice P.xc D.nc P.zc, .slice P.xw D.nw P.zw, .slice P.xh D.nh P.zh, .slice P.xd D.nd P.zd, .slice P.xi D.ni P.zi, .slice P.xs D.ns P.zs, .slice P.xk D.nk P.zk, .slice P.xp D.np P.zp, .int .i64 T.size, .int .i64 T.step, .int .i64 T.up, .int .i64 T.down, .slice Q.xt T.nt Q.zt] 45) := ⟨_, rfl⟩
  have W0 : Ext w V := by rw [hV]; exact (Ext.refl _).alloc _
  have kF : Blk V w.heap.size 45 [.int .i64 D.sum, .int .i64 D.design, .int .i64 D.first, .slice P.xc D.nc P.zc, .slice P.xw D.nw P.zw, .slice P.xh D.nh P.zh, .slice P.xd D.nd P.zd, .slice P.xi D.ni P.zi, .slice P.xs D.ns P.zs, .slice P.xk D.nk P.zk, .slice P.xp D.np P.zp, .int .i64 T.size, .int .i64 T.step, .int .i64 T.up, .int .i64 T.down, .slice Q.xt T.nt Q.zt] := by rw [hV]; exact Blk.lit _ _ _ _ rfl
  have KY := Lib.hid (having_yes D P T Q code n V ok (sn.ext W0) c1 c2 n1 n2 h1 h2)
  have I := (face_in h1).1
  obtain ⟨J, f1, f2⟩ := has_in h2
  have CL := clamp_in I n
  have CW := Lib.hid (fun w' (x : Ext V w') => width_any D P T Q (clampN T n) code w' ok ((sn.ext W0).ext x) I J CL.1 CL.2 f1 f2)
  have CT := Lib.hid (fun w' (x : Ext V w') => trait_any D P T Q (clampN T n) code w' ok.rt ((sn.ext W0).ext x).ot)
  obtain ⟨⟨m0, m1, m2⟩, ⟨m3, m4⟩⟩ := edge_in I J CL.1 CL.2 f1 f2
  have C2 := Lib.hid (fun w' => part_ok m1 rfl m2 w')
  have C3 := Lib.hid (fun w' => part_ok m3 rfl m4 w')
  clear ok sn c1 c2 n1 n2 h1 h2 I J CL f1 f2 m0 m1 m2 m3 m4
  generalize clampN T n = lv at *
  generalize wideN D T code lv = wv at *
  generalize trV T code 0 = t0 at *
  generalize trV T code 1 = t1 at *
  generalize wv * trV T code 2 / 1000 = r2 at *
  generalize wv * trV T code 3 / 1000 = r3 at *
  generalize trV T code 2 = t2 at *
  generalize trV T code 3 = t3 at *
  go_enter Try.func31, Try.ntmps31
  go_upto_region 1 with (fail)
  rw [← hV]
  clear hV
  generalize w.heap.size = B at *
  have HG := Lib.hid kF
  clear kF
  go_wp2_with (first | (refine wpList_load_mid rfl 45 _ rfl B 0 rfl [.int .i64 D.sum, .int .i64 D.design, .int .i64 D.first, .slice P.xc D.nc P.zc, .slice P.xw D.nw P.zw, .slice P.xh D.nh P.zh, .slice P.xd D.nd P.zd, .slice P.xi D.ni P.zi, .slice P.xs D.ns P.zs, .slice P.xk D.nk P.zk, .slice P.xp D.np P.zp, .int .i64 T.size, .int .i64 T.step, .int .i64 T.up, .int .i64 T.down, .slice Q.xt T.nt Q.zt] _ HG.out.range Try.underlying45 rfl (by kernel_rfl) ?_) | fail)
  refine KY.out.mono ?_; rintro e w1 ⟨rfl, x1⟩
  go_upto_region 2 with (fail)
  have X2 := Lib.hid (x1.alloc (.cells #[.int .i64 D.sum, .int .i64 D.design, .int .i64 D.first, .slice P.xc D.nc P.zc, .slice P.xw D.nw P.zw, .slice P.xh D.nh P.zh, .slice P.xd D.nd P.zd, .slice P.xi D.ni P.zi, .slice P.xs D.ns P.zs, .slice P.xk D.nk P.zk, .slice P.xp D.np P.zp, .int .i64 T.size, .int .i64 T.step, .int .i64 T.up, .int .i64 T.down, .slice Q.xt T.nt Q.zt, .int .i64 lv] 91))
  have HL2 := Lib.hid (Blk.lit w1 w1.heap.size 91 #[.int .i64 D.sum, .int .i64 D.design, .int .i64 D.first, .slice P.xc D.nc P.zc, .slice P.xw D.nw P.zw, .slice P.xh D.nh P.zh, .slice P.xd D.nd P.zd, .slice P.xi D.ni P.zi, .slice P.xs D.ns P.zs, .slice P.xk D.nk P.zk, .slice P.xp D.np P.zp, .int .i64 T.size, .int .i64 T.step, .int .i64 T.up, .int .i64 T.down, .slice Q.xt T.nt Q.zt, .int .i64 lv] rfl)
  generalize w1.alloc (.cells #[.int .i64 D.sum, .int .i64 D.design, .int .i64 D.first, .slice P.xc D.nc P.zc, .slice P.xw D.nw P.zw, .slice P.xh D.nh P.zh, .slice P.xd D.nd P.zd, .slice P.xi D.ni P.zi, .slice P.xs D.ns P.zs, .slice P.xk D.nk P.zk, .slice P.xp D.np P.zp, .int .i64 T.size, .int .i64 T.step, .int .i64 T.up, .int .i64 T.down, .slice Q.xt T.nt Q.zt, .int .i64 lv] 91) = V2 at *
  generalize w1.heap.size = L at *
  go_upto_region 4 with (fail)
  refine wp_region_noPanic ?_
  refine wp_region_held_drew (S := (fun w' => w'.rangeAt L 0 [.int .i64 D.sum, .int .i64 D.design, .int .i64 D.first, .slice P.xc D.nc P.zc, .slice P.xw D.nw P.zw, .slice P.xh D.nh P.zh, .slice P.xd D.nd P.zd, .slice P.xi D.ni P.zi, .slice P.xs D.ns P.zs, .slice P.xk D.nk P.zk, .slice P.xp D.np P.zp, .int .i64 T.size, .int .i64 T.step, .int .i64 T.up, .int .i64 T.down, .slice Q.xt T.nt Q.zt, .int .i64 lv])) (by kernel_rfl) (HL2.out.ext (Ext.refl _).drew).range (fun h0 => ?_)
  have HL0 := Lib.hid (HL2.out.ext (Ext.refl _).drew)
  have X10 := Lib.hid X2.out.drew
  generalize V2.drew = W at *
  refine wpAnyH_take (i := 0) (oi := ?_) (v := .agg #[.int .i64 D.sum, .int .i64 D.design, .int .i64 D.first, .slice P.xc D.nc P.zc, .slice P.xw D.nw P.zw, .slice P.xh D.nh P.zh, .slice P.xd D.nd P.zd, .slice P.xi D.ni P.zi, .slice P.xs D.ns P.zs, .slice P.xk D.nk P.zk, .slice P.xp D.np P.zp, .int .i64 T.size, .int .i64 T.step, .int .i64 T.up, .int .i64 T.down, .slice Q.xt T.nt Q.zt, .int .i64 lv]) ?_ (by kernel_rfl) (by kernel_rfl) (by kernel_rfl) ?_ ?_ h0 ?_
  rotate_left 1
  · simp only [List.getElem?_toArray, List.getElem?_cons_zero]; rfl
  · exact fun _ _ _ h => h
  · exact yieldsIf_load_mid (by rfl) 91 _ rfl L 0 rfl [.int .i64 D.sum, .int .i64 D.design, .int .i64 D.first, .slice P.xc D.nc P.zc, .slice P.xw D.nw P.zw, .slice P.xh D.nh P.zh, .slice P.xd D.nd P.zd, .slice P.xi D.ni P.zi, .slice P.xs D.ns P.zs, .slice P.xk D.nk P.zk, .slice P.xp D.np P.zp, .int .i64 T.size, .int .i64 T.step, .int .i64 T.up, .int .i64 T.down, .slice Q.xt T.nt Q.zt, .int .i64 lv] _ (fun _ h => h) Try.underlying91 rfl (by kernel_rfl)
  (try simp only [Act.put, List.setIfInBounds_toArray, List.set_cons_zero, List.set_cons_succ])
  refine wpAnyH_take (i := 1) (oi := ?_) (v := ?_) ?_ (by kernel_rfl) (by kernel_rfl) (by kernel_rfl) ?_ ?_ h0 ?_
  rotate_left 2
  · simp only [List.getElem?_toArray, List.getElem?_cons_zero, List.getElem?_cons_succ]; rfl
  · exact fun _ _ _ h => h
  · refine Or.inl ⟨by rfl, ?_⟩
    intro w hSw
    (try dsimp only at hSw)
    go_simp
    (try with_reducible rfl)
  (try simp only [Act.put, List.setIfInBounds_toArray, List.set_cons_zero, List.set_cons_succ])
  refine wpAnyH_take (i := 3) (oi := ?_) (v := .agg #[.int .i64 D.sum, .int .i64 D.design, .int .i64 D.first, .slice P.xc D.nc P.zc, .slice P.xw D.nw P.zw, .slice P.xh D.nh P.zh, .slice P.xd D.nd P.zd, .slice P.xi D.ni P.zi, .slice P.xs D.ns P.zs, .slice P.xk D.nk P.zk, .slice P.xp D.np P.zp, .int .i64 T.size, .int .i64 T.step, .int .i64 T.up, .int .i64 T.down, .slice Q.xt T.nt Q.zt, .int .i64 lv]) ?_ (by kernel_rfl) (by kernel_rfl) (by kernel_rfl) ?_ ?_ h0 ?_
  rotate_left 1
  · simp only [List.getElem?_toArray, List.getElem?_cons_zero, List.getElem?_cons_succ]; rfl
  · exact fun _ _ _ h => h
  · exact yieldsIf_load_mid (by rfl) 91 _ rfl L 0 rfl [.int .i64 D.sum, .int .i64 D.design, .int .i64 D.first, .slice P.xc D.nc P.zc, .slice P.xw D.nw P.zw, .slice P.xh D.nh P.zh, .slice P.xd D.nd P.zd, .slice P.xi D.ni P.zi, .slice P.xs D.ns P.zs, .slice P.xk D.nk P.zk, .slice P.xp D.np P.zp, .int .i64 T.size, .int .i64 T.step, .int .i64 T.up, .int .i64 T.down, .slice Q.xt T.nt Q.zt, .int .i64 lv] _ (fun _ h => h) Try.underlying91 rfl (by kernel_rfl)
  (try simp only [Act.put, List.setIfInBounds_toArray, List.set_cons_zero, List.set_cons_succ])
  refine wpAnyH_take (i := 4) (oi := ?_) (v := ?_) ?_ (by kernel_rfl) (by kernel_rfl) (by kernel_rfl) ?_ ?_ h0 ?_
  rotate_left 2
  · simp only [List.getElem?_toArray, List.getElem?_cons_zero, List.getElem?_cons_succ]; rfl
  · exact fun _ _ _ h => h
  · refine Or.inl ⟨by rfl, ?_⟩
    intro w hSw
    (try dsimp only at hSw)
    go_simp
    (try with_reducible rfl)
  (try simp only [Act.put, List.setIfInBounds_toArray, List.set_cons_zero, List.set_cons_succ])
  refine wpAnyH_ready (rs := [2, 6]) (by kernel_rfl) (by simp) ?_
  refine AllReadyH.cons (o := ?_) ?_ (fun K hK => ?_) ?_
  rotate_left
  · simp only [List.getElem?_toArray, List.getElem?_cons_zero, List.getElem?_cons_succ]; rfl
  · go_simp
    refine (CW.out _ X10.out).mono ?_; rintro e w11 ⟨rfl, x11⟩
    have HL1 := Lib.hid (HL0.out.ext x11)
    have X11 := Lib.hid (X10.out.trans x11)
    refine hK.out _ _ HL1.out.range (fun HL1s => ?_)
    clear hK K
    (try simp only [Act.put, List.setIfInBounds_toArray, List.set_cons_zero, List.set_cons_succ])
    refine wpAnyH_ready (rs := [5, 6]) (by kernel_rfl) (by simp) ?_
    refine AllReadyH.cons (o := ?_) ?_ (fun K hK => ?_) ?_
    rotate_left
    · simp only [List.getElem?_toArray, List.getElem?_cons_zero, List.getElem?_cons_succ]; rfl
    · go_simp
      refine (CT.out _ X11.out).mono ?_; rintro e w12 ⟨rfl, x12⟩
      have HL2 := Lib.hid (HL1.out.ext x12)
      have X12 := Lib.hid (X11.out.trans x12)
      refine hK.out _ _ HL2.out.range (fun HL2s => ?_)
      clear hK K
      (try simp only [Act.put, List.setIfInBounds_toArray, List.set_cons_zero, List.set_cons_succ])
      refine wpAnyH_ready (rs := [6]) (by kernel_rfl) (by simp) ?_
      refine AllReadyH.cons (o := ?_) ?_ (fun K hK => ?_) AllReadyH.nil
      rotate_left
      · simp only [List.getElem?_toArray, List.getElem?_cons_zero, List.getElem?_cons_succ]; rfl
      go_simp
      have HL3 := Lib.hid (HL2.out.ext ((Ext.refl (w12)).alloc (.cells #[.int .i64 0, .int .i64 0, .int .i64 0, .int .i64 0] 56)))
      have X13 := Lib.hid (X12.out.alloc (.cells #[.int .i64 0, .int .i64 0, .int .i64 0, .int .i64 0] 56))
      have HR3 := Lib.hid (Blk.lit (w12) (w12).heap.size 56 #[.int .i64 0, .int .i64 0, .int .i64 0, .int .i64 0] rfl)
      have NE := Lib.hid (Nat.ne_of_gt HL2.out.lt)
      have HBR := Lib.hid X12.out.size
      refine hK.out _ _ HL3.out.range (fun HL3s => ?_)
      clear hK K
      (try simp only [Act.put, List.setIfInBounds_toArray, List.set_cons_zero, List.set_cons_succ])
      refine wpAnyH_take (i := 7) (oi := ?_) (v := ?_) ?_ (by kernel_rfl) (by kernel_rfl) (by kernel_rfl) ?_ ?_ HL3s ?_
      rotate_left 2
      · simp only [List.getElem?_toArray, List.getElem?_cons_zero, List.getElem?_cons_succ]; rfl
      · exact fun _ _ _ h => h
      · refine Or.inl ⟨by rfl, ?_⟩
        intro w hSw
        (try dsimp only at hSw)
        go_simp
        (try with_reducible rfl)
      (try simp only [Act.put, List.setIfInBounds_toArray, List.set_cons_zero, List.set_cons_succ])
      refine wpAnyH_ready (rs := [8]) (by kernel_rfl) (by simp) ?_
      refine AllReadyH.cons (o := ?_) ?_ (fun K hK => ?_) AllReadyH.nil
      rotate_left
      · simp only [List.getElem?_toArray, List.getElem?_cons_zero, List.getElem?_cons_succ]; rfl
      refine step_store 56 _ _ rfl ((w12).heap.size) #[.int .i64 t0, .int .i64 t1, .int .i64 t2, .int .i64 t3] rfl rfl HR3.out.there (by kernel_rfl) (by simp [Value.oneCell']) (by kernel_rfl) ?_
      have KR := Lib.hid (blk_setCells HR3.out [.int .i64 t0, .int .i64 t1, .int .i64 t2, .int .i64 t3] rfl)
      have KL := Lib.hid (blk_setFar NE.out [.int .i64 t0, .int .i64 t1, .int .i64 t2, .int .i64 t3] 0 _ HL3.out)
      have XF := Lib.hid (ext_setCells HBR.out [.int .i64 t0, .int .i64 t1, .int .i64 t2, .int .i64 t3] 0 _ X13.out)
      refine hK.out _ _ KL.out.range (fun hF => ?_)
      clear hK K
      (try simp only [Act.put])
      refine wpAnyH_done (by kernel_rfl) ?_ _
      refine NoPanic.normal ?_
      generalize World.setCells _ _ _ _ = WF at *
      have gc2 := cell_regrown (show WF.cell? ⟨(w12).heap.size, 2, none⟩ = some (.int .i64 t2) from KR.out.cell 2)
      have gc3 := cell_regrown (show WF.cell? ⟨(w12).heap.size, 3, none⟩ = some (.int .i64 t3) from KR.out.cell 3)
      have D2 := fun d os => C2.out (Sort.grow (redrawn WF d) os)
      have D3 := fun d os => C3.out (Sort.grow (redrawn WF d) os)
      go_wp2_with fail
      refine wp_region_quiet_below (by kernel_rfl) (by kernel_rfl) ?_
      repeat (go_big_quiet_step (first | (with_reducible exact rg (D2 _ _)) | (with_reducible exact rg (D3 _ _))))
      refine wpQuiet_nil ?_
      intro _ hw'
      obtain ⟨⟨dq, osq⟩, hw''⟩ := hw'
      subst hw''
      have z5 : Ext WF (Sort.grow (redrawn WF dq) osq) := below_regrown _ _ _
      clear D2 D3 gc2 gc3
      go_wp2_with fail
      go_ret3
      exact ⟨rfl, (W0.trans XF.out).trans z5⟩
    refine AllReadyH.cons (o := ?_) ?_ (fun K hK => ?_) AllReadyH.nil
    rotate_left
    · simp only [List.getElem?_toArray, List.getElem?_cons_zero, List.getElem?_cons_succ]; rfl
    go_simp
    have HL5 := Lib.hid (HL1.out.ext ((Ext.refl (w11)).alloc (.cells #[.int .i64 0, .int .i64 0, .int .i64 0, .int .i64 0] 56)))
    have X15 := Lib.hid (X11.out.alloc (.cells #[.int .i64 0, .int .i64 0, .int .i64 0, .int .i64 0] 56))
    have HR5 := Lib.hid (Blk.lit (w11) (w11).heap.size 56 #[.int .i64 0, .int .i64 0, .int .i64 0, .int .i64 0] rfl)
    have NE := Lib.hid (Nat.ne_of_gt HL1.out.lt)
    have HBR := Lib.hid X11.out.size
    refine hK.out _ _ HL5.out.range (fun HL5s => ?_)
    clear hK K
    (try simp only [Act.put, List.setIfInBounds_toArray, List.set_cons_zero, List.set_cons_succ])
    refine wpAnyH_ready (rs := [5]) (by kernel_rfl) (by simp) ?_
    refine AllReadyH.cons (o := ?_) ?_ (fun K hK => ?_) AllReadyH.nil
    rotate_left
    · simp only [List.getElem?_toArray, List.getElem?_cons_zero, List.getElem?_cons_succ]; rfl
    go_simp
    refine (CT.out _ X15.out).mono ?_; rintro e w16 ⟨rfl, x16⟩
    have HL6 := Lib.hid (HL5.out.ext x16)
    have X16 := Lib.hid (X15.out.trans x16)
    have HR6 := Lib.hid (HR5.out.ext x16)
    refine hK.out _ _ HL6.out.range (fun HL6s => ?_)
    clear hK K
    (try simp only [Act.put, List.setIfInBounds_toArray, List.set_cons_zero, List.set_cons_succ])
    refine wpAnyH_take (i := 7) (oi := ?_) (v := ?_) ?_ (by kernel_rfl) (by kernel_rfl) (by kernel_rfl) ?_ ?_ HL6s ?_
    rotate_left 2
    · simp only [List.getElem?_toArray, List.getElem?_cons_zero, List.getElem?_cons_succ]; rfl
    · exact fun _ _ _ h => h
    · refine Or.inl ⟨by rfl, ?_⟩
      intro w hSw
      (try dsimp only at hSw)
      go_simp
      (try with_reducible rfl)
    (try simp only [Act.put, List.setIfInBounds_toArray, List.set_cons_zero, List.set_cons_succ])
    refine wpAnyH_ready (rs := [8]) (by kernel_rfl) (by simp) ?_
    refine AllReadyH.cons (o := ?_) ?_ (fun K hK => ?_) AllReadyH.nil
    rotate_left
    · simp only [List.getElem?_toArray, List.getElem?_cons_zero, List.getElem?_cons_succ]; rfl
    refine step_store 56 _ _ rfl ((w11).heap.size) #[.int .i64 t0, .int .i64 t1, .int .i64 t2, .int .i64 t3] rfl rfl HR6.out.there (by kernel_rfl) (by simp [Value.oneCell']) (by kernel_rfl) ?_
    have KR := Lib.hid (blk_setCells HR6.out [.int .i64 t0, .int .i64 t1, .int .i64 t2, .int .i64 t3] rfl)
    have KL := Lib.hid (blk_setFar NE.out [.int .i64 t0, .int .i64 t1, .int .i64 t2, .int .i64 t3] 0 _ HL6.out)
    have XF := Lib.hid (ext_setCells HBR.out [.int .i64 t0, .int .i64 t1, .int .i64 t2, .int .i64 t3] 0 _ X16.out)
    refine hK.out _ _ KL.out.range (fun hF => ?_)
    clear hK K
    (try simp only [Act.put])
    refine wpAnyH_done (by kernel_rfl) ?_ _
    refine NoPanic.normal ?_
    generalize World.setCells _ _ _ _ = WF at *
    have gc2 := cell_regrown (show WF.cell? ⟨(w11).heap.size, 2, none⟩ = some (.int .i64 t2) from KR.out.cell 2)
    have gc3 := cell_regrown (show WF.cell? ⟨(w11).heap.size, 3, none⟩ = some (.int .i64 t3) from KR.out.cell 3)
    have D2 := fun d os => C2.out (Sort.grow (redrawn WF d) os)
    have D3 := fun d os => C3.out (Sort.grow (redrawn WF d) os)
    go_wp2_with fail
    refine wp_region_quiet_below (by kernel_rfl) (by kernel_rfl) ?_
    repeat (go_big_quiet_step (first | (with_reducible exact rg (D2 _ _)) | (with_reducible exact rg (D3 _ _))))
    refine wpQuiet_nil ?_
    intro _ hw'
    obtain ⟨⟨dq, osq⟩, hw''⟩ := hw'
    subst hw''
    have z5 : Ext WF (Sort.grow (redrawn WF dq) osq) := below_regrown _ _ _
    clear D2 D3 gc2 gc3
    go_wp2_with fail
    go_ret3
    exact ⟨rfl, (W0.trans XF.out).trans z5⟩
  refine AllReadyH.cons (o := ?_) ?_ (fun K hK => ?_) AllReadyH.nil
  rotate_left
  · simp only [List.getElem?_toArray, List.getElem?_cons_zero, List.getElem?_cons_succ]; rfl
  go_simp
  have HL8 := Lib.hid (HL0.out.ext ((Ext.refl (W)).alloc (.cells #[.int .i64 0, .int .i64 0, .int .i64 0, .int .i64 0] 56)))
  have X18 := Lib.hid (X10.out.alloc (.cells #[.int .i64 0, .int .i64 0, .int .i64 0, .int .i64 0] 56))
  have HR8 := Lib.hid (Blk.lit (W) (W).heap.size 56 #[.int .i64 0, .int .i64 0, .int .i64 0, .int .i64 0] rfl)
  have NE := Lib.hid (Nat.ne_of_gt HL0.out.lt)
  have HBR := Lib.hid X10.out.size
  refine hK.out _ _ HL8.out.range (fun HL8s => ?_)
  clear hK K
  (try simp only [Act.put, List.setIfInBounds_toArray, List.set_cons_zero, List.set_cons_succ])
  refine wpAnyH_ready (rs := [2]) (by kernel_rfl) (by simp) ?_
  refine AllReadyH.cons (o := ?_) ?_ (fun K hK => ?_) AllReadyH.nil
  rotate_left
  · simp only [List.getElem?_toArray, List.getElem?_cons_zero, List.getElem?_cons_succ]; rfl
  go_simp
  refine (CW.out _ X18.out).mono ?_; rintro e w19 ⟨rfl, x19⟩
  have HL9 := Lib.hid (HL8.out.ext x19)
  have X19 := Lib.hid (X18.out.trans x19)
  have HR9 := Lib.hid (HR8.out.ext x19)
  refine hK.out _ _ HL9.out.range (fun HL9s => ?_)
  clear hK K
  (try simp only [Act.put, List.setIfInBounds_toArray, List.set_cons_zero, List.set_cons_succ])
  refine wpAnyH_ready (rs := [5]) (by kernel_rfl) (by simp) ?_
  refine AllReadyH.cons (o := ?_) ?_ (fun K hK => ?_) AllReadyH.nil
  rotate_left
  · simp only [List.getElem?_toArray, List.getElem?_cons_zero, List.getElem?_cons_succ]; rfl
  go_simp
  refine (CT.out _ X19.out).mono ?_; rintro e w20 ⟨rfl, x20⟩
  have HL10 := Lib.hid (HL9.out.ext x20)
  have X20 := Lib.hid (X19.out.trans x20)
  have HR10 := Lib.hid (HR9.out.ext x20)
  refine hK.out _ _ HL10.out.range (fun HL10s => ?_)
  clear hK K
  (try simp only [Act.put, List.setIfInBounds_toArray, List.set_cons_zero, List.set_cons_succ])
  refine wpAnyH_take (i := 7) (oi := ?_) (v := ?_) ?_ (by kernel_rfl) (by kernel_rfl) (by kernel_rfl) ?_ ?_ HL10s ?_
  rotate_left 2
  · simp only [List.getElem?_toArray, List.getElem?_cons_zero, List.getElem?_cons_succ]; rfl
  · exact fun _ _ _ h => h
  · refine Or.inl ⟨by rfl, ?_⟩
    intro w hSw
    (try dsimp only at hSw)
    go_simp
    (try with_reducible rfl)
  (try simp only [Act.put, List.setIfInBounds_toArray, List.set_cons_zero, List.set_cons_succ])
  refine wpAnyH_ready (rs := [8]) (by kernel_rfl) (by simp) ?_
  refine AllReadyH.cons (o := ?_) ?_ (fun K hK => ?_) AllReadyH.nil
  rotate_left
  · simp only [List.getElem?_toArray, List.getElem?_cons_zero, List.getElem?_cons_succ]; rfl
  refine step_store 56 _ _ rfl ((W).heap.size) #[.int .i64 t0, .int .i64 t1, .int .i64 t2, .int .i64 t3] rfl rfl HR10.out.there (by kernel_rfl) (by simp [Value.oneCell']) (by kernel_rfl) ?_
  have KR := Lib.hid (blk_setCells HR10.out [.int .i64 t0, .int .i64 t1, .int .i64 t2, .int .i64 t3] rfl)
  have KL := Lib.hid (blk_setFar NE.out [.int .i64 t0, .int .i64 t1, .int .i64 t2, .int .i64 t3] 0 _ HL10.out)
  have XF := Lib.hid (ext_setCells HBR.out [.int .i64 t0, .int .i64 t1, .int .i64 t2, .int .i64 t3] 0 _ X20.out)
  refine hK.out _ _ KL.out.range (fun hF => ?_)
  clear hK K
  (try simp only [Act.put])
  refine wpAnyH_done (by kernel_rfl) ?_ _
  refine NoPanic.normal ?_
  generalize World.setCells _ _ _ _ = WF at *
  have gc2 := cell_regrown (show WF.cell? ⟨(W).heap.size, 2, none⟩ = some (.int .i64 t2) from KR.out.cell 2)
  have gc3 := cell_regrown (show WF.cell? ⟨(W).heap.size, 3, none⟩ = some (.int .i64 t3) from KR.out.cell 3)
  have D2 := fun d os => C2.out (Sort.grow (redrawn WF d) os)
  have D3 := fun d os => C3.out (Sort.grow (redrawn WF d) os)
  go_wp2_with fail
  refine wp_region_quiet_below (by kernel_rfl) (by kernel_rfl) ?_
  repeat (go_big_quiet_step (first | (with_reducible exact rg (D2 _ _)) | (with_reducible exact rg (D3 _ _))))
  refine wpQuiet_nil ?_
  intro _ hw'
  obtain ⟨⟨dq, osq⟩, hw''⟩ := hw'
  subst hw''
  have z5 : Ext WF (Sort.grow (redrawn WF dq) osq) := below_regrown _ _ _
  clear D2 D3 gc2 gc3
  go_wp2_with fail
  go_ret3
  exact ⟨rfl, (W0.trans XF.out).trans z5⟩
end L09
end Go.Proofs.Ytpkmpbpifbpomaa

