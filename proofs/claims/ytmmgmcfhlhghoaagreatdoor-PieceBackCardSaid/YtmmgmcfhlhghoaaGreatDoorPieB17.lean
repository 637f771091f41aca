/- The landed Pieces of layer 17. -/
import Derived.Test.YtmmgmcfhlhghoaaGreatDoorPieA17
import Derived.Test.YtmmgmcfhlhghoaaGreatDoorFit17
import Derived.StillTailTactics
import Derived.BigQuiet
namespace Go.Proofs.YtmmgmcfhlhghoaaGreatDoor
open Go.RowKit
namespace L17
open L13 (TW tw checkB wordB)
open L16 (Brk befB brkV before_any)

theorem seenL_cut {w : World} {ad : Addr} {l : List Int} (h : SeenL w (some ad) l) (k : Nat) : SeenL w (some (ad.add k)) (l.drop k) := fun i v hv => by
  rw [List.map_drop, List.getElem?_drop] at hv
  obtain ⟨ad', e, hb, hc⟩ := h (k + i) v hv
  cases e
  exact ⟨ad.add k, rfl, by rw [addr_block]; exact hb, by rw [addr_add]; exact hc⟩
theorem seenL_take {w : World} {A : Option Addr} {l : List Int} (h : SeenL w A l) (k : Nat) : SeenL w A (l.take k) := fun i v hv => by
  rw [List.map_take, List.getElem?_take] at hv
  split at hv
  · exact h i v hv
  · cases hv
theorem caps_put {rs : List RI} (h : ∀ x ∈ rs, x.ns.length ≤ x.c) {x : RI} (hx : x.ns.length ≤ x.c) : ∀ y ∈ rs ++ [x], y.ns.length ≤ y.c := fun y hy => by
  rcases List.mem_append.1 hy with hy | hy
  · exact h y hy
  · rw [List.mem_singleton.1 hy]; exact hx
theorem two_from {l : List TW} {a b : Brk} (t : Two l a b) : begA a < (l.getD (begW a) ([], [])).1.length := by
  have hW := beg_cases a
  have h1 := t.all (begW a) (by have := t.sq; have := t.bw; omega)
  have h2 := t.an
  have h3 := t.aa
  rcases hW with ⟨_, _, e⟩ | ⟨e1, e2, e3⟩
  · omega
  · have h4 := h2 e1
    rw [e2]
    omega
/-- What a call of Pieces is told of its breaks, when all may be. -/
theorem piA_yes {l : List TW} {a b : Brk} (hc : checkB l = true) (ha : sB l a = true) (hb : sB l b = true) (h : befB a b = true) : piA l a b = (cutL a b l, 0) := by
  have sa : stB l a = true := by rw [stB_eq, hc, ha]; rfl
  have sb : stB l b = true := by rw [stB_eq, hc, hb]; rfl
  unfold piA
  rw [if_pos hc, if_pos ⟨sa, sb, (two_of sa sb h).a5, h⟩]
theorem piA_arg {l : List TW} {a b : Brk} (hc : checkB l = true) (h : ¬ (sB l a = true ∧ sB l b = true ∧ befB a b = true)) : piA l a b = ([], 1) := by
  unfold piA
  rw [if_pos hc, if_neg (fun g => h ⟨by have := g.1; rw [stB_eq, hc] at this; exact this, by have := g.2.1; rw [stB_eq, hc] at this; exact this, g.2.2.2⟩)]
set_option maxRecDepth 100000 in
set_option maxHeartbeats 4000000 in
theorem pieces_any (WA : Option Addr) (wl : List CW) (n d : Nat) (a b : Brk) (w : World) (sw : SeenC w WA wl) (hn : n = wl.length) (hd : n ≤ d) (hm : d ≤ maxLen) (wok : ∀ x ∈ wl, x.Ok) :
    Calls Tryz.prog 9 #[.slice WA n d, brkV a, brkV b] w (PiQ w (piA (wl.map tw) a b)) := by
  subst hn
  obtain ⟨a1, a2, a3⟩ := a
  obtain ⟨d1, d2, d3⟩ := b
  obtain ⟨W1, hW1⟩ : ∃ W1, W1 = (w.alloc (.cells #[.int .i64 a1, .int .i64 a2, .int .i64 a3] 43)).alloc (.cells #[.int .i64 d1, .int .i64 d2, .int .i64 d3] 43) := ⟨_, rfl⟩
  have x0 : Ext w W1 := by rw [hW1]; exact ((Ext.refl _).alloc _).alloc _
  have KA := Lib.hid (show Blk W1 w.heap.size 43 [.int .i64 a1, .int .i64 a2, .int .i64 a3] by rw [hW1]; exact (Blk.lit _ _ _ _ rfl).ext ((Ext.refl _).alloc _))
  have KB := Lib.hid (show Blk W1 (w.heap.size + 1) 43 [.int .i64 d1, .int .i64 d2, .int .i64 d3] by rw [hW1]; exact Blk.lit _ _ _ _ (by simp))
  have SW := Lib.hid (sw.ext x0)
  have X0 := Lib.hid x0
  have CK := Lib.hid (L13.check_any WA wl wl.length d W1 (sw.ext x0) rfl wok)
  have CA := Lib.hid (fun w' (x : Ext W1 w') => stands_any WA wl wl.length d (a1, a2, a3) w' (SW.out.ext x) rfl hd hm wok)
  have CB := Lib.hid (fun w' (x : Ext W1 w') => stands_any WA wl wl.length d (d1, d2, d3) w' (SW.out.ext x) rfl hd hm wok)
  have CF := Lib.hid (fun w' => before_any (a1, a2, a3) (d1, d2, d3) w')
  have CG := Lib.hid (fun (h1 : 0 ≤ a2) (h2 : a2 ≤ 1000000) (h3 : 0 ≤ a3) w' => begin_any (a1, a2, a3) w' h1 h2 h3)
  have CH := Lib.hid (fun w' => hyphens_any (d1, d2, d3) w')
  have PF := Lib.hid (fun h : checkB (wl.map tw) = false => show piA (wl.map tw) (a1, a2, a3) (d1, d2, d3) = ([], 130) by unfold piA; rw [if_neg (by rw [h]; decide)])
  have PN := Lib.hid (fun (h : checkB (wl.map tw) = true) g => piA_arg (a := (a1, a2, a3)) (b := (d1, d2, d3)) h g)
  have PY := Lib.hid (fun (h : checkB (wl.map tw) = true) ha hb hf => (piA_yes (a := (a1, a2, a3)) (b := (d1, d2, d3)) h ha hb hf).trans (congrArg (·, (0 : Int)) (cutL_parts (by rw [stB_eq, h, ha]; rfl) (by rw [stB_eq, h, hb]; rfl) hf)))
  have TWO := Lib.hid (fun (h : checkB (wl.map tw) = true) (ha : sB (wl.map tw) (a1, a2, a3) = true) (hb : sB (wl.map tw) (d1, d2, d3) = true) hf => two_of (a := (a1, a2, a3)) (b := (d1, d2, d3)) (by rw [stB_eq, h, ha]; rfl) (by rw [stB_eq, h, hb]; rfl) hf)
  have WF := Lib.hid (fun h : checkB (wl.map tw) = true => words_fit h)
  generalize checkB (wl.map tw) = cb at *
  generalize sB (wl.map tw) (a1, a2, a3) = sa at *
  generalize sB (wl.map tw) (d1, d2, d3) = sb at *
  generalize befB (a1, a2, a3) (d1, d2, d3) = bf at *
  generalize piA (wl.map tw) (a1, a2, a3) (d1, d2, d3) = r at *
  generalize hyB (d1, d2, d3) = hy at *
  have HW1 := Lib.hid hW1
  obtain ⟨b0, hb0⟩ : ∃ b0, w.heap.size = b0 := ⟨_, rfl⟩
  obtain ⟨b1, hb1⟩ : ∃ b1, b0 + 1 = b1 := ⟨_, rfl⟩
  rw [hb0] at KA KB
  rw [hb1] at KB
  have H0 := Lib.hid hb0
  have H1 := Lib.hid hb1
  have OKS := Lib.hid wok
  clear hW1 hb0 hb1 x0 sw wok hd hm
  unfold brkV at *
  dsimp only at *
  go_enter Tryz.func9, Tryz.ntmps9
  go_upto_region 1 with (fail)
  rw [← HW1.out, H0.out, H1.out]
  clear HW1 H0 H1
  go_wp2_with fail
  refine CK.out.mono ?_
  rintro e w1 ⟨rfl, x1⟩
  have X1 := Lib.hid x1
  have p0 : w1.cell? ⟨b0, 0, none⟩ = some (.int .i64 a1) := (KA.out.ext x1).cell 0
  have p1 : w1.cell? ⟨b0, 1, none⟩ = some (.int .i64 a2) := (KA.out.ext x1).cell 1
  have p2 : w1.cell? ⟨b0, 2, none⟩ = some (.int .i64 a3) := (KA.out.ext x1).cell 2
  clear x1 CK
  cases cb with
  | false =>
    have RV := Lib.hid (PF.out rfl)
    clear PF PN PY CA CB CF CG CH TWO WF OKS
    go_wp2_with fail
    go_ret2
    rw [RV.out]
    exact ⟨X0.out.trans X1.out, none, [], 0, rfl, ReadR.nil, rfl⟩
  | true =>
  have NOV := Lib.hid (PN.out rfl)
  have YES := Lib.hid (PY.out rfl)
  have TW2 := Lib.hid (TWO.out rfl)
  have WG := Lib.hid (WF.out rfl)
  clear PF PN PY TWO WF
  go_wp2_with fail
  refine (CA.out w1 X1.out).mono ?_
  rintro e w2 ⟨rfl, x2⟩
  have X2 := Lib.hid (X1.out.trans x2)
  clear x2 CA p0 p1 p2
  have p0 : w2.cell? ⟨b0, 0, none⟩ = some (.int .i64 a1) := (KA.out.ext X2.out).cell 0
  have p1 : w2.cell? ⟨b0, 1, none⟩ = some (.int .i64 a2) := (KA.out.ext X2.out).cell 1
  have p2 : w2.cell? ⟨b0, 2, none⟩ = some (.int .i64 a3) := (KA.out.ext X2.out).cell 2
  have q0 : w2.cell? ⟨b1, 0, none⟩ = some (.int .i64 d1) := (KB.out.ext X2.out).cell 0
  have q1 : w2.cell? ⟨b1, 1, none⟩ = some (.int .i64 d2) := (KB.out.ext X2.out).cell 1
  have q2 : w2.cell? ⟨b1, 2, none⟩ = some (.int .i64 d3) := (KB.out.ext X2.out).cell 2
  cases sa with
  | false =>
    have RV := Lib.hid (NOV.out (fun h => by simp at h))
    clear YES CF NOV CB CG CH TW2 WG OKS
    go_wp2_with fail
    go_ret2
    rw [RV.out]
    exact ⟨X0.out.trans X2.out, none, [], 0, rfl, ReadR.nil, rfl⟩
  | true =>
  go_wp2_with fail
  refine (CB.out w2 X2.out).mono ?_
  rintro e w3 ⟨rfl, x3⟩
  have X3 := Lib.hid (X2.out.trans x3)
  clear x3 CB p0 p1 p2 q0 q1 q2
  have p0 : w3.cell? ⟨b0, 0, none⟩ = some (.int .i64 a1) := (KA.out.ext X3.out).cell 0
  have p1 : w3.cell? ⟨b0, 1, none⟩ = some (.int .i64 a2) := (KA.out.ext X3.out).cell 1
  have p2 : w3.cell? ⟨b0, 2, none⟩ = some (.int .i64 a3) := (KA.out.ext X3.out).cell 2
  have q0 : w3.cell? ⟨b1, 0, none⟩ = some (.int .i64 d1) := (KB.out.ext X3.out).cell 0
  have q1 : w3.cell? ⟨b1, 1, none⟩ = some (.int .i64 d2) := (KB.out.ext X3.out).cell 1
  have q2 : w3.cell? ⟨b1, 2, none⟩ = some (.int .i64 d3) := (KB.out.ext X3.out).cell 2
  cases sb with
  | false =>
    have RV := Lib.hid (NOV.out (fun h => by simp at h))
    clear YES CF NOV CG CH TW2 WG OKS
    go_wp2_with fail
    go_ret2
    rw [RV.out]
    exact ⟨X0.out.trans X3.out, none, [], 0, rfl, ReadR.nil, rfl⟩
  | true =>
  go_wp2_with fail
  refine (CF.out w3).mono ?_
  rintro e w4 ⟨rfl, x4⟩
  have X4 := Lib.hid (X3.out.trans x4)
  clear x4 CF p0 p1 p2 q0 q1 q2
  cases bf with
  | false =>
    have RV := Lib.hid (NOV.out (fun h => by simp at h))
    clear YES NOV CG CH TW2 WG OKS
    go_wp2_with fail
    go_ret2
    rw [RV.out]
    exact ⟨X0.out.trans X4.out, none, [], 0, rfl, ReadR.nil, rfl⟩
  | true =>
  have RV := Lib.hid (YES.out (by trivial) (by trivial) (by trivial))
  have T := Lib.hid (TW2.out (by trivial) (by trivial) (by trivial))
  clear YES NOV TW2
  have p0 : w4.cell? ⟨b0, 0, none⟩ = some (.int .i64 a1) := (KA.out.ext X4.out).cell 0
  have p1 : w4.cell? ⟨b0, 1, none⟩ = some (.int .i64 a2) := (KA.out.ext X4.out).cell 1
  have p2 : w4.cell? ⟨b0, 2, none⟩ = some (.int .i64 a3) := (KA.out.ext X4.out).cell 2
  have LN : (wl.map tw).length = wl.length := List.length_map ..
  have W110 := WG.out.1
  have tb := T.out.bw
  have ta := T.out.aw
  have ua := T.out.aa
  have vb := T.out.ba
  dsimp only at tb ta ua vb
  rw [LN] at tb ta
  have CG2 := Lib.hid (CG.out ta.1 (by omega) ua.1)
  have SQ := Lib.hid T.out.sq
  have FT := Lib.hid T.out.ft
  have FA := Lib.hid (two_from T.out)
  generalize begW (a1, a2, a3) = s at *
  generalize begA (a1, a2, a3) = f at *
  obtain ⟨q, rfl⟩ : ∃ q : Nat, d2 = (q : Int) := ⟨d2.toNat, by omega⟩
  obtain ⟨t, rfl⟩ : ∃ t : Nat, d3 = (t : Int) := ⟨d3.toNat, by omega⟩
  dsimp only [Int.toNat_natCast] at *
  clear CG
  go_wp2_with fail
  refine (CG2.out _).mono ?_
  rintro e w5 ⟨rfl, x5⟩
  have X5 := Lib.hid (X4.out.trans x5)
  clear x5 CG2 p0 p1 p2 X4
  have q1 : w5.cell? ⟨b1, 1, none⟩ = some (.int .i64 (q : Int)) := (KB.out.ext X5.out).cell 1
  obtain ⟨m, hm⟩ : ∃ m, q = s + m := ⟨q - s, by have := SQ.out; omega⟩
  have WS : IntKind.i64.wrap ((q : Int) - (s : Int)) = (m : Int) := by rw [show (q : Int) - (s : Int) = (m : Int) by omega]; exact IntWalk.i64_in _ (by omega)
  have HM := Lib.hid hm
  have m64 : (m : Int) ≤ 1000 := by omega
  clear hm
  go_wp2_with fail
  go_loopw [8, 10, 41] (fun v fr i wr => ∃ (k z : Nat) (rs : List RI), k ≤ m ∧ i = .int .i64 k ∧ fr = .int .i64 z ∧ Hid (z = if k = 0 then f else 0) ∧ Hid (OwnR w5 wr v rs) ∧ Hid (nsL rs = midsL (wl.map tw) s f k) ∧ Hid (∀ x ∈ rs, x.ns.length ≤ x.c)) (fun _ _ i _ => m - (intOf i).toNat)
  case atStart => exact ⟨0, f, [], by omega, rfl, rfl, Lib.hid rfl, Lib.hid (OwnR.nil (Ext.refl _)), Lib.hid rfl, Lib.hid (fun x hx => by simp at hx)⟩
  case round =>
    obtain ⟨k, z, rs, hk, rfl, rfl, HZ, HO, HN, CP⟩ := hrel
    obtain ⟨wo, rfl⟩ : ∃ wo : World, wo = wr := ⟨_, rfl⟩
    have HX := Lib.hid (X5.out.trans HO.out.2.1)
    by_cases hlt : k < m
    · have hk64 : (k : Int) < (m : Int) := by omega
      obtain ⟨y, hyy⟩ : ∃ y, y = s + k := ⟨_, rfl⟩
      have HYY := Lib.hid hyy
      have WI : IntKind.i64.wrap ((s : Int) + (k : Int)) = (y : Int) := by rw [show (s : Int) + (k : Int) = (y : Int) by omega]; exact IntWalk.i64_in _ (by have := HM.out; omega)
      have hyl : y < wl.length := by have := HM.out; omega
      have hyl64 : (y : Int) < (wl.length : Int) := by omega
      obtain ⟨⟨ad, rfl, c0, -⟩, s1, -⟩ := (SW.out.ext HX.out).get hyl
      have OK := OKS.out _ (List.getElem_mem hyl)
      have GY := Lib.hid (show (wl.map tw).getD y ([], []) = tw wl[y] by simp [List.getD, hyl])
      have WY := WG.out.2 _ (List.getElem_mem hyl)
      have ZF := Lib.hid (show z < wl[y].cs.length by
        rw [HZ.out]
        split
        · rename_i h0
          have := FA.out
          rw [show s = y by omega, GY.out] at this
          exact this
        · omega)
      have NX := Lib.hid (show midsL (wl.map tw) s f (k + 1) = midsL (wl.map tw) s f k ++ [wl[y].cs.drop z] by
        rw [mids_succ]
        unfold fromW
        rw [← HYY.out, GY.out, HZ.out]
        rfl)
      generalize wl[y] = x at *
      obtain ⟨cs, xA, xc, ss, xB, xd⟩ := x
      obtain ⟨o1, o2, -⟩ := OK
      dsimp only at *
      unfold maxLen at o2
      rw [show (2 : Nat) ^ 63 - 1 = 9223372036854775807 from rfl] at o2
      obtain ⟨ae, ea, -⟩ := s1.get (k := 0) (by omega)
      subst ea
      have zf := ZF.out
      have z64 : (z : Int) ≤ (cs.length : Int) := by omega
      have z65 : (cs.length : Int) ≤ (xc : Int) := by omega
      have cz : (cs.length : Int) ≤ 1000 := by omega
      clear hyy
      have CL := clone_any (some (ae.add z)) (cs.drop z) (cs.length - z) (xc - z) wo (seenL_cut s1 z) (by simp) (by simp; omega)
      have BL := Lib.hid (show (cs.drop z).length ≤ 1000 by simp; omega)
      have LR := Lib.hid (show rs.length = k by have h := congrArg List.length HN.out; simpa [nsL, midsL] using h)
      rw [← HN.out] at NX
      generalize cs.drop z = dl at *
      have CL := Lib.hid CL
      go_wp2_with fail
      refine CL.out.mono ?_
      rintro e w6 ⟨v6, rfl, o6⟩
      obtain ⟨A6, c6, rfl, hc6, s6, -⟩ := OwnI.cap o6
      have CP3 := Lib.hid (caps_put CP.out (x := ⟨dl, A6, c6⟩) hc6)
      obtain ⟨v7, w7, r7, o7⟩ := (HO.out.over o6.2).put ⟨dl, A6, c6⟩ s6 (OwnI.typed o6) (by have := LR.out; omega) 45
      have HO3 := Lib.hid o7
      have HN3 := Lib.hid (show nsL (rs ++ [⟨dl, A6, c6⟩]) = midsL (wl.map tw) s f (k + 1) by rw [NX.out]; simp [nsL])
      unfold riV at r7
      dsimp only at r7
      clear CL HO HN HX o6 o7 s6 NX c0 s1 q1 BL hc6 CP
      generalize dl.length = dn at *
      go_wp2_with (first | (at_builtin; refine wpList_ran rfl _ _ rfl r7 ?_) | fail)
      go_roundw
      case rel => exact ⟨k + 1, 0, rs ++ [⟨dl, A6, c6⟩], by omega, by go_num, rfl, Lib.hid rfl, HO3, HN3, CP3⟩
      case measure => simp [intOf]; omega
    · obtain rfl : k = m := by omega
      have hk64 : ¬ (k : Int) < (k : Int) := by omega
      have hql : q < wl.length := by omega
      have hql64 : (q : Int) < (wl.length : Int) := by omega
      obtain ⟨⟨ad, rfl, c0, -⟩, s1, -⟩ := (SW.out.ext HX.out).get hql
      have OK := OKS.out _ (List.getElem_mem hql)
      have GY := Lib.hid (show (wl.map tw).getD q ([], []) = tw wl[q] by simp [List.getD, hql])
      have WY := WG.out.2 _ (List.getElem_mem hql)
      have ZT := Lib.hid (show z < t by
        have h1 := FT.out
        have h2 := T.out.b1
        have h3 := HM.out
        dsimp only at h2
        rw [HZ.out]
        split
        · have := h1 (by omega); omega
        · omega)
      have TC := Lib.hid (show t ≤ wl[q].cs.length by
        have h := vb.2
        rw [GY.out] at h
        have e : (tw wl[q]).1.length = wl[q].cs.length := rfl
        omega)
      have LL := Lib.hid (show lastL (wl.map tw) s f q t = (wl[q].cs.take t).drop z by
        unfold lastL
        rw [GY.out, HZ.out]
        have h3 := HM.out
        by_cases h0 : k = 0
        · rw [if_pos h0, if_pos (by omega)]; rfl
        · rw [if_neg h0, if_neg (by omega)]; rfl)
      have RW := Lib.hid (show r = (nsL rs ++ [lastL (wl.map tw) s f q t ++ if hy = true then [45] else []], 0) by
        rw [RV.out, HN.out, show q - s = k by have := HM.out; omega])
      rw [LL.out] at RW
      have LR := Lib.hid (show rs.length = k by have h := congrArg List.length HN.out; simpa [nsL, midsL] using h)
      have k1000 : k ≤ 1000 := by omega
      clear LL RV T FT FA vb HN HZ
      generalize wl[q] = x at *
      obtain ⟨cs, xA, xc, ss, xB, xd⟩ := x
      obtain ⟨o1, o2, -⟩ := OK
      dsimp only at *
      unfold maxLen at o2
      rw [show (2 : Nat) ^ 63 - 1 = 9223372036854775807 from rfl] at o2
      obtain ⟨ae, ea, -⟩ := s1.get (k := 0) (by omega)
      subst ea
      have zt := ZT.out
      have tc := TC.out
      have z64 : (z : Int) ≤ (t : Int) := by omega
      have z65 : (t : Int) ≤ (xc : Int) := by omega
      have z66 : (t : Int) ≤ 1000 := by omega
      have q0 : wo.cell? ⟨b1, 0, none⟩ = some (.int .i64 d1) := (KB.out.ext HX.out).cell 0
      have q1 : wo.cell? ⟨b1, 1, none⟩ = some (.int .i64 (q : Int)) := (KB.out.ext HX.out).cell 1
      have q2 : wo.cell? ⟨b1, 2, none⟩ = some (.int .i64 (t : Int)) := (KB.out.ext HX.out).cell 2
      go_wp2_with fail
      go_still_tail 10, (by kernel_rfl)
      change wpList _ _ _ _ _ wo.drew
      obtain ⟨w9, hw9⟩ : ∃ w9, w9 = wo.drew := ⟨_, rfl⟩
      rw [← hw9]
      have x9 : Ext wo w9 := by rw [hw9]; exact (Ext.refl wo).drew
      clear hw9
      have c0 := Ext.at x9 c0
      have r1 := Ext.at x9 q1
      have r2 := Ext.at x9 q2
      have HO := Lib.hid (HO.out.over x9)
      have HX := Lib.hid (HX.out.trans x9)
      have s1 := s1.ext x9
      clear q0 q1 q2 x9
      have CL := clone_any (some (ae.add z)) ((cs.take t).drop z) (t - z) (xc - z) w9 (seenL_cut (seenL_take s1 t) z) (by rw [List.length_drop, List.length_take]; omega) (by rw [List.length_drop, List.length_take]; omega)
      have BL := Lib.hid (show ((cs.take t).drop z).length ≤ 1000 by rw [List.length_drop, List.length_take]; omega)
      generalize (cs.take t).drop z = dl at *
      have CL := Lib.hid CL
      go_wp2_with fail
      refine CL.out.mono ?_
      rintro e w6 ⟨v6, rfl, o6⟩
      have HO6 := Lib.hid (HO.out.over o6.2)
      have X6 := Lib.hid (HX.out.trans o6.2)
      have O6 := Lib.hid o6
      have d0 : w6.cell? ⟨b1, 0, none⟩ = some (.int .i64 d1) := (KB.out.ext X6.out).cell 0
      have d1' : w6.cell? ⟨b1, 1, none⟩ = some (.int .i64 (q : Int)) := (KB.out.ext X6.out).cell 1
      have d2' : w6.cell? ⟨b1, 2, none⟩ = some (.int .i64 (t : Int)) := (KB.out.ext X6.out).cell 2
      clear CL HX c0 r1 r2 s1 o6
      go_wp2_with fail
      refine (CH.out _).mono ?_
      rintro e w7 ⟨rfl, x7⟩
      have HO7 := Lib.hid (HO6.out.over x7)
      have O7 := Lib.hid (O6.out.over x7)
      have X7 := Lib.hid (X6.out.trans x7)
      clear CH O6 HO6 x7 d0 d1' d2' X6
      cases hy with
      | false =>
        obtain ⟨A8, c8, rfl, hc8, s8, -⟩ := OwnI.cap O7.out
        have CAPS := Lib.hid (caps_put CP.out (x := ⟨dl, A8, c8⟩) hc8)
        obtain ⟨v9, w9', r9, o9⟩ := HO7.out.put ⟨dl, A8, c8⟩ s8 (OwnI.typed O7.out) (by have := LR.out; omega) 45
        have O9 := Lib.hid o9
        unfold riV at r9
        dsimp only at r9
        have FIN := Lib.hid (show r = (nsL (rs ++ [⟨dl, A8, c8⟩]), 0) by rw [RW.out]; simp [nsL])
        clear RW s8 o9 HO7 O7 hc8 CP
        generalize dl.length = dn at *
        go_wp2_with (first | (at_builtin; refine wpList_ran rfl _ _ rfl r9 ?_) | fail)
        obtain ⟨A5, c5, rfl, sr5⟩ := O9.out.read
        go_ret2
        rw [FIN.out]
        exact ⟨X0.out.trans (X5.out.trans O9.out.2.1), A5, _, c5, by simp [nsL], ⟨sr5.1, sr5.2.1, CAPS.out, sr5.2.2⟩, rfl⟩
      | true =>
        obtain ⟨v8, w8, r8, o8⟩ := O7.out.put 45 (by have := BL.out; omega) 48
        have HO8 := Lib.hid (HO.out.over o8.2)
        have RY := Lib.hid (show r = (nsL rs ++ [dl ++ [45]], 0) by rw [RW.out]; rfl)
        clear HO HO7 O7 RW
        generalize dl ++ [45] = dx at *
        obtain ⟨A8, c8, rfl, hc8, s8, -⟩ := OwnI.cap o8
        have CAPS := Lib.hid (caps_put CP.out (x := ⟨dx, A8, c8⟩) hc8)
        obtain ⟨v9, w9', r9, o9⟩ := HO8.out.put ⟨dx, A8, c8⟩ s8 (OwnI.typed o8) (by have := LR.out; omega) 45
        have O9 := Lib.hid o9
        unfold riV at r9
        dsimp only at r9
        have FIN := Lib.hid (show r = (nsL (rs ++ [⟨dx, A8, c8⟩]), 0) by rw [RY.out]; simp [nsL])
        clear RY s8 o9 HO8 o8 hc8 CP
        generalize dx.length = dn at *
        go_wp2_with (first | (at_builtin; refine wpList_ran rfl _ _ rfl r8 ?_) | (at_builtin; refine wpList_ran rfl _ _ rfl r9 ?_) | fail)
        obtain ⟨A5, c5, rfl, sr5⟩ := O9.out.read
        go_ret2
        rw [FIN.out]
        exact ⟨X0.out.trans (X5.out.trans O9.out.2.1), A5, _, c5, by simp [nsL], ⟨sr5.1, sr5.2.1, CAPS.out, sr5.2.2⟩, rfl⟩
end L17
end Go.Proofs.YtmmgmcfhlhghoaaGreatDoor

