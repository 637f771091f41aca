/- The document's Parse of layer 10: its walk. -/
import Derived.Test.YtijhabhnhglhgaaDoorDocJ10
namespace Go.Proofs.YtijhabhnhglhgaaDoor
open Go.RowKit
namespace L10

theorem Pa.oks {w W1 wr : World} {g : Nat} {vl vm : Value} {l m : List WP} {ws : List (List UInt8)} {k : Nat} (h : Pa w W1 wr g vl vm l m) (hp : PsR ws k l m) :
    (∀ x ∈ l, x.Ok) ∧ (∀ x ∈ m, x.Ok) ∧ ∀ x ∈ l ++ m, x.s.size ≤ 1000000 ∧ x.ns.length ≤ 1000000 := by
  have hm : 1000000 ≤ maxLen := by decide
  have kl : ∀ x ∈ l, x.Ok ∧ x.s.size ≤ 1000000 ∧ x.ns.length ≤ 1000000 := fun x hx => by
    have hi := h.pb.inn x (List.mem_append.2 (.inl hx))
    have hb : patB (tn x) = true := (List.all_eq_true.1 hp.2.1) _ (List.mem_map.2 ⟨x, hx, rfl⟩)
    have h1 := (pat_len hb).2
    obtain ⟨h2, h3⟩ := pat_vals hb
    have e1 : (tn x).1.length = x.s.size := list_len x.s
    have e2 : (tn x).2 = x.ns := rfl
    rw [e2] at h2 h3
    exact ⟨⟨hi.room, hi.most, by omega, fun n hn => by have := h3 n hn; omega⟩, by omega, by omega⟩
  have km : ∀ x ∈ m, x.Ok ∧ x.s.size ≤ 1000000 ∧ x.ns.length ≤ 1000000 := fun x hx => by
    have hi := h.pb.inn x (List.mem_append.2 (.inr hx))
    have hb : excB (tn x) = true := (List.all_eq_true.1 hp.2.2) _ (List.mem_map.2 ⟨x, hx, rfl⟩)
    obtain ⟨g1, g2, g3⟩ := exc_parts hb
    have e1 : (tn x).1.length = x.s.size := list_len x.s
    have e2 : (tn x).2 = x.ns := rfl
    rw [e2] at g2 g3
    simp only [plainB, Bool.and_eq_true, decide_eq_true_eq] at g1
    have g4 := rises_length _ _ g3 (by omega)
    exact ⟨⟨hi.room, hi.most, by omega, fun n hn => by have := rises_mem _ _ g3 n hn; omega⟩, by omega, by omega⟩
  exact ⟨fun x hx => (kl x hx).1, fun x hx => (km x hx).1, fun x hx => by
    rcases List.mem_append.1 hx with hx | hx
    · exact (kl x hx).2
    · exact (km x hx).2⟩

set_option maxRecDepth 100000 in
set_option maxHeartbeats 8000000 in
theorem rparse_any (A : Option Addr) (t : List UInt8) (c : Nat) (w : World) (ht : SeenB w A t) (hn : t.length ≤ 5000) : Calls Tryd.prog 11 #[.slice A t.length c] w (ParseQ w (parseV t)) := by
  obtain ⟨W0, hW0⟩ : ∃ W0, W0 = (w.alloc (.cells #[.slice none 0 0, .slice none 0 0] 27)).alloc (.cells #[.slice none 0 0, .slice none 0 0] 27) := ⟨_, rfl⟩
  have x0 : Ext w W0 := by rw [hW0]; exact ((Ext.refl w).alloc _).alloc _
  have kR : Blk W0 w.heap.size 27 [.slice none 0 0, .slice none 0 0] := by rw [hW0]; exact (Blk.lit _ _ _ _ rfl).ext ((Ext.refl _).alloc _)
  have kP : Blk W0 (w.heap.size + 1) 27 [.slice none 0 0, .slice none 0 0] := by rw [hW0]; exact Blk.lit _ _ _ _ (by simp)
  have hz : W0.heap.size = w.heap.size + 2 := by rw [hW0]; simp
  have C0 := Lib.hid (rwords_any A t c (by omega) W0 (ht.ext x0))
  have HWL := Lib.hid (wordsGo_len t [])
  obtain ⟨n, hnn⟩ : ∃ n, n = t.length := ⟨_, rfl⟩
  rw [← hnn] at C0 ⊢
  have HNN := Lib.hid hnn
  clear ht hnn
  go_enter Tryd.func11, Tryd.ntmps11
  go_upto_region 2 with (fail)
  rw [← hW0]
  clear hW0
  have HK := Lib.hid (And.intro kR kP)
  clear kR kP
  go_wp2_with fail
  refine C0.out.mono ?_; rintro e W1 ⟨x1, Aw, cw, rfl, sw, wat⟩
  have hz1 : w.heap.size + 2 ≤ W1.heap.size := by rw [← hz]; exact x1.size
  have PA := Lib.hid (show Pa w W1 W1 (w.heap.size + 1) (.slice none 0 0) (.slice none 0 0) [] [] from ⟨⟨HK.out.2.ext x1, by omega, Nat.le_refl _, World.ownsRow_nil _ _ _ _, World.ownsRow_nil _ _ _ _, fun n e => (by cases e), fun x hx => (by simp at hx)⟩, x0.trans x1, fun _ _ _ => rfl⟩)
  have KR := Lib.hid (HK.out.1.ext x1)
  have SW := Lib.hid (And.intro sw (fun ad (e : Aw = some ad) => show ad.block ≠ w.heap.size + 1 by have := wat ad e; omega))
  have HWZ := HWL.out
  obtain ⟨ws, hws⟩ : ∃ ws, ws = wordsL t := ⟨_, rfl⟩
  rw [show wordsGo [] t = ws from hws.symm] at HWZ
  rw [← hws] at SW ⊢
  have HWS := Lib.hid hws
  have HPS := Lib.hid (PsR.start ws)
  have HWX := Lib.hid HWZ.2
  have hq5 : ws.length ≤ 5001 := by have := HWZ.1; omega
  obtain ⟨q, hq⟩ : ∃ q, q = ws.length := ⟨_, rfl⟩
  rw [← hq] at hq5 ⊢
  have HQ := Lib.hid hq
  have hq64 : (q : Int) ≤ 5001 := by omega
  clear C0 x1 x0 sw wat HK hz HWL HWZ hws hq
  go_wp2_with fail
  go_loopw [6] (fun i wr => ∃ (vl vm : Value) (l m : List WP) (k : Nat), i = .int .i64 k ∧ k ≤ q ∧ l.length + m.length = k ∧ Hid (Pa w W1 wr (w.heap.size + 1) vl vm l m) ∧ Hid (PsR ws k l m)) (fun i _ => q - (intOf i).toNat)
  case atStart => exact ⟨_, _, [], [], 0, rfl, Nat.zero_le _, rfl, PA, HPS⟩
  case round =>
    obtain ⟨vl, vm, l, m, k, rfl, hk, hlm, hpa, hps⟩ := hrel
    obtain ⟨Al, cl, rfl, _, _, _⟩ := row_slice hpa.out.pb.rl
    obtain ⟨Am, cm, rfl, _, _, _⟩ := row_slice hpa.out.pb.rm
    by_cases hlt : k < q
    · have hlt' : k < ws.length := by rw [← HQ.out]; exact hlt
      have hk64 : (k : Int) < (q : Int) := by omega
      obtain ⟨ad, rfl, hc⟩ := hpa.out.words SW.out.1 SW.out.2 hlt'
      have PP := Lib.hid (fun x ha => hps.out.pat hlt' (x := x) ha)
      have PE := Lib.hid (fun x hp ha => hps.out.exc hlt' (x := x) hp ha)
      have PN := Lib.hid (fun hp ha => hps.out.no hlt' hp ha)
      have hsz := HWX.out ws[k] (List.getElem_mem hlt')
      obtain ⟨u, hu⟩ : ∃ u : ByteArray, u = ⟨ws[k].toArray⟩ := ⟨_, rfl⟩
      have hul : u.data.toList = ws[k] := by rw [hu]
      have hus : u.size ≤ 100000 := by rw [← list_len, hul]; simp at hsz; omega
      rw [← hu] at hc
      rw [← hul] at PP PE PN
      have C1 := Lib.hid (aspat_any u hus wr)
      have C2 := Lib.hid (fun W => asexc_any u hus W)
      clear hps hsz hu hul hus
      go_wp2_with fail
      refine C1.out.mono ?_; rintro e w1 ⟨x1, ⟨sX, nX, AX, cX⟩, bX, rfl, rX, seX, xr, xm, xat⟩
      dsimp only [wpV] at rX seX xr xm xat ⊢
      obtain ⟨W2, hW2⟩ : ∃ W2, W2 = w1.alloc (.cells #[.string sX, .slice AX nX.length cX] 42) := ⟨_, rfl⟩
      have x2 : Ext w1 W2 := by rw [hW2]; exact (Ext.refl _).alloc _
      have kX : Blk W2 w1.heap.size 42 [.string sX, .slice AX nX.length cX] := by rw [hW2]; exact Blk.lit _ _ _ _ rfl
      have hc2 := (x1.trans x2).at hc
      have INX0 := Lib.hid (hpa.out.inn ⟨sX, nX, AX, cX⟩ seX xr xm xat)
      go_upto_region 7 with (fail)
      rw [← hW2]
      clear hW2
      generalize w1.heap.size = bx at *
      go_wp2_with fail
      refine (C2.out _).mono ?_; rintro e w3 ⟨x3, ⟨sY, nY, AY, cY⟩, bY, rfl, rY, seY, yr, ym, yat⟩
      dsimp only [wpV] at rY seY yr ym yat ⊢
      obtain ⟨W4, hW4⟩ : ∃ W4, W4 = w3.alloc (.cells #[.string sY, .slice AY nY.length cY] 45) := ⟨_, rfl⟩
      have x4 : Ext w3 W4 := by rw [hW4]; exact (Ext.refl _).alloc _
      have kY : Blk W4 w3.heap.size 45 [.string sY, .slice AY nY.length cY] := by rw [hW4]; exact Blk.lit _ _ _ _ rfl
      have INY0 := Lib.hid ((hpa.out.kept (x1.trans x2)).inn ⟨sY, nY, AY, cY⟩ seY yr ym yat)
      go_upto_region 8 with (fail)
      rw [← hW4]
      clear hW4
      generalize w3.heap.size = byy at *
      have X14 : Ext w1 W4 := (x2.trans x3).trans x4
      have PA2 := Lib.hid (hpa.out.kept (x1.trans X14))
      have INX := Lib.hid (INX0.out.ext X14)
      have INY := Lib.hid (INY0.out.ext x4)
      have p0 : W4.cell? ⟨w.heap.size + 1, 0, none⟩ = some (.slice Al l.length cl) := PA2.out.pb.box.cell 0
      have p1 : W4.cell? ⟨w.heap.size + 1, 1, none⟩ = some (.slice Am m.length cm) := PA2.out.pb.box.cell 1
      have y0 : W4.cell? ⟨byy, 0, none⟩ = some (.string sY) := kY.cell 0
      have y1 : W4.cell? ⟨byy, 1, none⟩ = some (.slice AY nY.length cY) := kY.cell 1
      have kX4 := kX.ext (x3.trans x4)
      have a0 : W4.cell? ⟨bx, 0, none⟩ = some (.string sX) := kX4.cell 0
      have a1 : W4.cell? ⟨bx, 1, none⟩ = some (.slice AX nX.length cX) := kX4.cell 1
      clear C1 C2 seX seY xat yat x1 x2 x3 x4 hc hc2 X14 kX kY kX4 xr xm yr ym INX0 INY0
      cases bX with
      | true =>
        have HPS := Lib.hid (PP.out _ (by rw [rX]; rfl))
        clear PP PE PN rX rY
        obtain ⟨v3, w3, r3, k3, pa3⟩ := PA2.out.putL (by omega) ⟨sX, nX, AX, cX⟩ INX.out (by omega) 24
        obtain ⟨A3, c3, e3, _, _, _⟩ := row_slice pa3.pb.rl
        obtain ⟨n3, hn3⟩ : ∃ n3, n3 = (l ++ [⟨sX, nX, AX, cX⟩] : List WP).length := ⟨_, rfl⟩
        rw [← hn3] at e3
        subst e3
        have PA3 := Lib.hid pa3
        have g3 : w3.cell? ⟨w.heap.size + 1, 0, none⟩ = some _ := k3.cell 0
        have z3 := k3.free 0
        clear pa3 k3 PA2 INX INY hn3
        go_wp2_with (at_builtin; refine wpList_ran rfl _ _ rfl r3 ?_)
        go_roundw
        case rel => exact ⟨.slice A3 n3 c3, _, l ++ [⟨sX, nX, AX, cX⟩], m, k + 1, by go_num, by omega, by rw [List.length_append]; simp; omega, PA3, HPS⟩
        case measure => simp [intOf]; omega
      | false =>
        cases bY with
        | true =>
          have HPS := Lib.hid (PE.out _ (by rw [rX]; rfl) (by rw [rY]; rfl))
          clear PP PE PN rX rY
          obtain ⟨v3, w3, r3, k3, pa3⟩ := PA2.out.putM (by omega) ⟨sY, nY, AY, cY⟩ INY.out (by omega) 25
          obtain ⟨A3, c3, e3, _, _, _⟩ := row_slice pa3.pb.rm
          obtain ⟨n3, hn3⟩ : ∃ n3, n3 = (m ++ [⟨sY, nY, AY, cY⟩] : List WP).length := ⟨_, rfl⟩
          rw [← hn3] at e3
          subst e3
          have PA3 := Lib.hid pa3
          have g3 : w3.cell? ⟨w.heap.size + 1, 1, none⟩ = some _ := k3.cell 1
          have z3 := k3.free 1
          clear pa3 k3 PA2 INX INY hn3
          go_wp2_with (at_builtin; refine wpList_ran rfl _ _ rfl r3 ?_)
          go_roundw
          case rel => exact ⟨_, .slice A3 n3 c3, l, m ++ [⟨sY, nY, AY, cY⟩], k + 1, by go_num, by omega, by rw [List.length_append]; simp; omega, PA3, HPS⟩
          case measure => simp [intOf]; omega
        | false =>
          have HNO := Lib.hid (show parseV t = none from parseV_none (by rw [← HWS.out]; exact PN.out (by rw [rX]; rfl) (by rw [rY]; rfl)))
          have kR := PA2.out.blk KR.out (by omega)
          obtain ⟨W, hW⟩ : ∃ W, W = (W4.setCell ⟨w.heap.size, 0, none⟩ (.slice none 0 0)).setCell ⟨w.heap.size, 1, none⟩ (.slice none 0 0) := ⟨_, rfl⟩
          have FIN := Lib.hid (show ParseQ w (parseV t) (.returned (.tuple #[.agg #[.slice none 0 0, .slice none 0 0], .int .i64 100])) W ∧ Blk W w.heap.size 27 [.slice none 0 0, .slice none 0 0] from by
            rw [hW]
            exact ⟨⟨(PA2.out.x.setCell (p := ⟨w.heap.size, 0, none⟩) (Nat.le_refl _) _).setCell (p := ⟨w.heap.size, 1, none⟩) (Nat.le_refl _) _, .inr ⟨rfl, HNO.out⟩⟩, (kR.set 0 (.slice none 0 0)).set 1 (.slice none 0 0)⟩)
          have r0 : W4.cell? ⟨w.heap.size, 0, none⟩ = some (.slice none 0 0) := kR.cell 0
          have r1 : W4.cell? ⟨w.heap.size, 1, none⟩ = some (.slice none 0 0) := kR.cell 1
          have z0 := kR.free 0
          have z1 := kR.free 1
          clear PP PE PN rX rY HNO kR INX INY hpa PA2
          go_wp2_with fail
          rw [← hW]
          clear hW
          refine bodyPost_ret (results_box_tmp rfl _ _ w.heap.size _ _ rfl rfl FIN.out.2.range (Tryd.isAgg27 _) (Tryd.sizeOf27 _)) rfl ?_
          exact FIN.out.1
    · obtain rfl : k = q := by omega
      obtain ⟨o1, o2, o3⟩ := hpa.out.oks hps.out
      have hll : l.length ≤ 1000000 := by omega
      have hmm : m.length ≤ 1000000 := by omega
      have C := Lib.hid (rcheck_any ⟨l, m⟩ ⟨Al, cl, Am, cm⟩ o1 o2 o3 wr hpa.out.pb.look hll hmm)
      unfold patsV at C
      dsimp only at C
      have HPV := Lib.hid (show parseV t = if patsB (rd ⟨l, m⟩) = true then some (l.map tn, m.map tn) else none from PsR.fin (by rw [← HWS.out]; exact hps.out) (by rw [← HWS.out]; exact HQ.out) hlm)
      have p0 : wr.cell? ⟨w.heap.size + 1, 0, none⟩ = some (.slice Al l.length cl) := hpa.out.pb.box.cell 0
      have p1 : wr.cell? ⟨w.heap.size + 1, 1, none⟩ = some (.slice Am m.length cm) := hpa.out.pb.box.cell 1
      clear o1 o2 o3 hps
      go_wp2_with fail
      refine C.out.mono ?_; rintro e w5 ⟨rfl, x5⟩
      have PA5 := Lib.hid (hpa.out.kept x5)
      have kR := PA5.out.blk KR.out (by omega)
      have p0 := x5.at p0
      have p1 := x5.at p1
      have r0 : w5.cell? ⟨w.heap.size, 0, none⟩ = some (.slice none 0 0) := kR.cell 0
      have r1 : w5.cell? ⟨w.heap.size, 1, none⟩ = some (.slice none 0 0) := kR.cell 1
      have z0 := kR.free 0
      have z1 := kR.free 1
      obtain ⟨b, hb⟩ : ∃ b, patsB (rd ⟨l, m⟩) = b := ⟨_, rfl⟩
      rw [hb] at HPV ⊢
      clear C x5 hb hpa
      cases b with
      | false =>
        have HNO := Lib.hid (show parseV t = none by rw [HPV.out]; rfl)
        obtain ⟨W, hW⟩ : ∃ W, W = (w5.setCell ⟨w.heap.size, 0, none⟩ (.slice none 0 0)).setCell ⟨w.heap.size, 1, none⟩ (.slice none 0 0) := ⟨_, rfl⟩
        have FIN := Lib.hid (show ParseQ w (parseV t) (.returned (.tuple #[.agg #[.slice none 0 0, .slice none 0 0], .int .i64 100])) W ∧ Blk W w.heap.size 27 [.slice none 0 0, .slice none 0 0] from by
          rw [hW]
          exact ⟨⟨(PA5.out.x.setCell (p := ⟨w.heap.size, 0, none⟩) (Nat.le_refl _) _).setCell (p := ⟨w.heap.size, 1, none⟩) (Nat.le_refl _) _, .inr ⟨rfl, HNO.out⟩⟩, (kR.set 0 (.slice none 0 0)).set 1 (.slice none 0 0)⟩)
        clear HPV HNO kR PA5
        go_wp2_with fail
        rw [← hW]
        clear hW
        refine bodyPost_ret (results_box_tmp rfl _ _ w.heap.size _ _ rfl rfl FIN.out.2.range (Tryd.isAgg27 _) (Tryd.sizeOf27 _)) rfl ?_
        exact FIN.out.1
      | true =>
        have HYES := Lib.hid (show parseV t = some (l.map tn, m.map tn) by rw [HPV.out]; rfl)
        obtain ⟨W, hW⟩ : ∃ W, W = (w5.setCell ⟨w.heap.size, 0, none⟩ (.slice Al l.length cl)).setCell ⟨w.heap.size, 1, none⟩ (.slice Am m.length cm) := ⟨_, rfl⟩
        have FIN := Lib.hid (show ParseQ w (parseV t) (.returned (.tuple #[.agg #[.slice Al l.length cl, .slice Am m.length cm], .int .i64 0])) W ∧ Blk W w.heap.size 27 [.slice Al l.length cl, .slice Am m.length cm] from by
          have pb9 := (PA5.out.pb.far ⟨w.heap.size, 0, none⟩ (by show w.heap.size < _; omega) (by show w.heap.size ≠ _; omega) (.slice Al l.length cl)).far ⟨w.heap.size, 1, none⟩ (by show w.heap.size < _; omega) (by show w.heap.size ≠ _; omega) (.slice Am m.length cm)
          obtain ⟨A1, c1, e1, l1, l2, _⟩ := row_slice pb9.rl
          cases e1
          obtain ⟨A2, c2, e2, m1, m2, _⟩ := row_slice pb9.rm
          cases e2
          rw [hW]
          exact ⟨⟨(PA5.out.x.setCell (p := ⟨w.heap.size, 0, none⟩) (Nat.le_refl _) _).setCell (p := ⟨w.heap.size, 1, none⟩) (Nat.le_refl _) _, .inl ⟨⟨l, m⟩, ⟨Al, cl, Am, cm⟩, rfl, pb9.look, l1, l2, m1, m2, fun x hx => ⟨(pb9.inn x hx).room, (pb9.inn x hx).most⟩, HYES.out⟩⟩, (kR.set 0 (.slice Al l.length cl)).set 1 (.slice Am m.length cm)⟩)
        clear HPV HYES kR PA5
        generalize l.length = nl at *
        generalize m.length = nm at *
        go_wp2_with fail
        rw [← hW]
        clear hW
        refine bodyPost_ret (results_box_tmp rfl _ _ w.heap.size _ _ rfl rfl FIN.out.2.range (Tryd.isAgg27 _) (Tryd.sizeOf27 _)) rfl ?_
        exact FIN.out.1
end L10
end Go.Proofs.YtijhabhnhglhgaaDoor

