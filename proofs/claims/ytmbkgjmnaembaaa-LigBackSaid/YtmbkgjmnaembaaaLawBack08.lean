/- LigBack: what is set is expanded again (at most three hundred of each; a hundred codes): for every input. -/
import Derived.Test.YtmbkgjmnaembaaaAwake08
import Derived.Test.YtmbkgjmnaembaaaLigMath08
namespace Go.Proofs.Ytmbkgjmnaembaaa
open Go.ChangeShapes Go.WideShapes Go.ChangeAt Go.RowKit Go.Deep
namespace LigBack
open L07 L08

theorem take_map (g : List (Int × Int)) (k : Nat) (hk : k < g.length) : (g.take (k + 1)).map (fun p => Value.int .i64 p.1) = (g.take k).map (fun p => Value.int .i64 p.1) ++ [.int .i64 (g.getD k (0, 0)).1] := by
  rw [List.take_succ_eq_append_getElem hk, List.map_append, List.getD, List.getElem?_eq_getElem hk]
  rfl

set_option maxRecDepth 100000 in
set_option maxHeartbeats 16000000 in
theorem walk (D : FontD) (P : FontP) (ok : FontOk D P) (A : Option Addr) (l : List Int) (c : Nat) (hc : l.length ≤ c) (hm : c ≤ maxLen) (_ : ∀ n ∈ l, (Lit.int .i64 n).wf = true) (w : World) (sn : SeenFont w D P) (hs : Seen w.heap.size w A (l.map (.int .i64))) :
    Calls Try.prog 4 #[fontV D P, .slice A l.length c] w (Ret w (.bool true)) := by
  have hl := hs.fn
  clear hs
  have W0 : Ext w (w.alloc (.cells #[.int .i64 D.sum, .int .i64 D.design, .int .i64 D.first, .slice P.xc D.nc P.zc, .slice P.xw D.nw P.zw, .slice P.xh D.nh P.zh, .slice P.xd D.nd P.zd, .slice P.xi D.ni P.zi, .slice P.xs D.ns P.zs, .slice P.xk D.nk P.zk, .slice P.xp D.np P.zp] 26)) := (Ext.refl _).alloc _
  have SN := Lib.hid (fun w' (x : Ext (w.alloc (.cells #[.int .i64 D.sum, .int .i64 D.design, .int .i64 D.first, .slice P.xc D.nc P.zc, .slice P.xw D.nw P.zw, .slice P.xh D.nh P.zh, .slice P.xd D.nd P.zd, .slice P.xi D.ni P.zi, .slice P.xs D.ns P.zs, .slice P.xk D.nk P.zk, .slice P.xp D.np P.zp] 26)) w') => (sn.ext W0).ext x)
  have OK := Lib.hid ok
  have HC := Lib.hid hc
  have HM := Lib.hid hm
  have kF : Blk (w.alloc (.cells #[.int .i64 D.sum, .int .i64 D.design, .int .i64 D.first, .slice P.xc D.nc P.zc, .slice P.xw D.nw P.zw, .slice P.xh D.nh P.zh, .slice P.xd D.nd P.zd, .slice P.xi D.ni P.zi, .slice P.xs D.ns P.zs, .slice P.xk D.nk P.zk, .slice P.xp D.np P.zp] 26)) w.heap.size 26 [.int .i64 D.sum, .int .i64 D.design, .int .i64 D.first, .slice P.xc D.nc P.zc, .slice P.xw D.nw P.zw, .slice P.xh D.nh P.zh, .slice P.xd D.nd P.zd, .slice P.xi D.ni P.zi, .slice P.xs D.ns P.zs, .slice P.xk D.nk P.zk, .slice P.xp D.np P.zp] := Blk.lit _ _ _ _ rfl
  have HL := Lib.hid (fun w' (x : Ext (w.alloc (.cells #[.int .i64 D.sum, .int .i64 D.design, .int .i64 D.first, .slice P.xc D.nc P.zc, .slice P.xw D.nw P.zw, .slice P.xh D.nh P.zh, .slice P.xd D.nd P.zd, .slice P.xi D.ni P.zi, .slice P.xs D.ns P.zs, .slice P.xk D.nk P.zk, .slice P.xp D.np P.zp] 26)) w') => hl.ext (W0.trans x))
  clear ok sn hc hm hl
  have S1 := Lib.hid (fun w' (x : Ext (w.alloc (.cells #[.int .i64 D.sum, .int .i64 D.design, .int .i64 D.first, .slice P.xc D.nc P.zc, .slice P.xw D.nw P.zw, .slice P.xh D.nh P.zh, .slice P.xd D.nd P.zd, .slice P.xi D.ni P.zi, .slice P.xs D.ns P.zs, .slice P.xk D.nk P.zk, .slice P.xp D.np P.zp] 26)) w') (hn : l.length ≤ 1000) => show Calls Try.prog 10 #[.agg #[.int .i64 D.sum, .int .i64 D.design, .int .i64 D.first, .slice P.xc D.nc P.zc, .slice P.xw D.nw P.zw, .slice P.xh D.nh P.zh, .slice P.xd D.nd P.zd, .slice P.xi D.ni P.zi, .slice P.xs D.ns P.zs, .slice P.xk D.nk P.zk, .slice P.xp D.np P.zp], .slice A l.length c] w' (GlyQ w' (setR D l)) from lset_any D P A l c w' OK.out (SN.out _ x) (HL.out _ x) hn HC.out HM.out)
  have FEW := Lib.hid (fun w' => show Calls Try.prog 9 #[.agg #[.int .i64 D.sum, .int .i64 D.design, .int .i64 D.first, .slice P.xc D.nc P.zc, .slice P.xw D.nw P.zw, .slice P.xh D.nh P.zh, .slice P.xd D.nd P.zd, .slice P.xi D.ni P.zi, .slice P.xs D.ns P.zs, .slice P.xk D.nk P.zk, .slice P.xp D.np P.zp]] w' (Ret w' (.bool (fewB D))) from few_any D P w')
  have EX := Lib.hid (fun w' (x : Ext (w.alloc (.cells #[.int .i64 D.sum, .int .i64 D.design, .int .i64 D.first, .slice P.xc D.nc P.zc, .slice P.xw D.nw P.zw, .slice P.xh D.nh P.zh, .slice P.xd D.nd P.zd, .slice P.xi D.ni P.zi, .slice P.xs D.ns P.zs, .slice P.xk D.nk P.zk, .slice P.xp D.np P.zp] 26)) w') (A' : Option Addr) (l' : List Int) (c' : Nat) (hl' : SeenF w' A' l'.length (fun j => l'.getD j 0)) (hb : ∀ j, -9223372036854775808 ≤ l'.getD j 0 ∧ l'.getD j 0 ≤ 9223372036854775807) (hn : l'.length ≤ 1000000) => show Calls Try.prog 12 #[.agg #[.int .i64 D.sum, .int .i64 D.design, .int .i64 D.first, .slice P.xc D.nc P.zc, .slice P.xw D.nw P.zw, .slice P.xh D.nh P.zh, .slice P.xd D.nd P.zd, .slice P.xi D.ni P.zi, .slice P.xs D.ns P.zs, .slice P.xk D.nk P.zk, .slice P.xp D.np P.zp], .slice A' l'.length c'] w' (IntsQ w' (expandR D l')) from lexpand_any D P A' l' c' w' OK.out (SN.out _ x) hl' hb hn)
  obtain ⟨n, hnl⟩ : ∃ n, n = l.length := ⟨_, rfl⟩
  rw [← hnl] at S1 HL ⊢
  have HN := Lib.hid hnl
  have hn63 : (n : Int) ≤ 9223372036854775807 := by have := HC.out; have := HM.out; unfold maxLen at this; omega
  clear hnl
  unfold fontV
  go_enter Try.func4, Try.ntmps4
  go_wp2_with fail
  generalize (w.alloc (.cells #[.int .i64 D.sum, .int .i64 D.design, .int .i64 D.first, .slice P.xc D.nc P.zc, .slice P.xw D.nw P.zw, .slice P.xh D.nh P.zh, .slice P.xd D.nd P.zd, .slice P.xi D.ni P.zi, .slice P.xs D.ns P.zs, .slice P.xk D.nk P.zk, .slice P.xp D.np P.zp] 26)) = V at *
  generalize w.heap.size = B at *
  refine (awake_any _).mono ?_; rintro e w1 ⟨rfl, x1⟩
  have k1 := kF.ext x1
  have q0 : w1.cell? ⟨B, 0, none⟩ = some (.int .i64 D.sum) := k1.cell 0
  have q1 : w1.cell? ⟨B, 1, none⟩ = some (.int .i64 D.design) := k1.cell 1
  have q2 : w1.cell? ⟨B, 2, none⟩ = some (.int .i64 D.first) := k1.cell 2
  have q3 : w1.cell? ⟨B, 3, none⟩ = some (.slice P.xc D.nc P.zc) := k1.cell 3
  have q4 : w1.cell? ⟨B, 4, none⟩ = some (.slice P.xw D.nw P.zw) := k1.cell 4
  have q5 : w1.cell? ⟨B, 5, none⟩ = some (.slice P.xh D.nh P.zh) := k1.cell 5
  have q6 : w1.cell? ⟨B, 6, none⟩ = some (.slice P.xd D.nd P.zd) := k1.cell 6
  have q7 : w1.cell? ⟨B, 7, none⟩ = some (.slice P.xi D.ni P.zi) := k1.cell 7
  have q8 : w1.cell? ⟨B, 8, none⟩ = some (.slice P.xs D.ns P.zs) := k1.cell 8
  have q9 : w1.cell? ⟨B, 9, none⟩ = some (.slice P.xk D.nk P.zk) := k1.cell 9
  have q10 : w1.cell? ⟨B, 10, none⟩ = some (.slice P.xp D.np P.zp) := k1.cell 10
  go_wp2_with fail
  refine (FEW.out _).mono ?_; rintro e w2 ⟨rfl, x2⟩
  have X2 := x1.trans x2
  have k2 := k1.ext x2
  clear q0 q1 q2 q3 q4 q5 q6 q7 q8 q9 q10 kF k1 x1 x2 FEW
  have q0 : w2.cell? ⟨B, 0, none⟩ = some (.int .i64 D.sum) := k2.cell 0
  have q1 : w2.cell? ⟨B, 1, none⟩ = some (.int .i64 D.design) := k2.cell 1
  have q2 : w2.cell? ⟨B, 2, none⟩ = some (.int .i64 D.first) := k2.cell 2
  have q3 : w2.cell? ⟨B, 3, none⟩ = some (.slice P.xc D.nc P.zc) := k2.cell 3
  have q4 : w2.cell? ⟨B, 4, none⟩ = some (.slice P.xw D.nw P.zw) := k2.cell 4
  have q5 : w2.cell? ⟨B, 5, none⟩ = some (.slice P.xh D.nh P.zh) := k2.cell 5
  have q6 : w2.cell? ⟨B, 6, none⟩ = some (.slice P.xd D.nd P.zd) := k2.cell 6
  have q7 : w2.cell? ⟨B, 7, none⟩ = some (.slice P.xi D.ni P.zi) := k2.cell 7
  have q8 : w2.cell? ⟨B, 8, none⟩ = some (.slice P.xs D.ns P.zs) := k2.cell 8
  have q9 : w2.cell? ⟨B, 9, none⟩ = some (.slice P.xk D.nk P.zk) := k2.cell 9
  have q10 : w2.cell? ⟨B, 10, none⟩ = some (.slice P.xp D.np P.zp) := k2.cell 10
  cases fewB D with
  | false =>
    go_wp2_with fail
    go_ret
    exact ⟨rfl, W0.trans X2⟩
  | true =>
  by_cases hn : (n : Int) ≤ 100
  · have hn' : ¬ 100 < (n : Int) := by omega
    go_wp2_with fail
    refine (S1.out _ X2 (by omega)).mono ?_
    rintro e w3 ⟨x3, A3, c3, rfl, h3, h3', s3⟩
    have X3 := X2.trans x3
    have k3 := k2.ext x3
    clear q0 q1 q2 q3 q4 q5 q6 q7 q8 q9 q10 k2 x3 X2 S1
    have q0 : w3.cell? ⟨B, 0, none⟩ = some (.int .i64 D.sum) := k3.cell 0
    have q1 : w3.cell? ⟨B, 1, none⟩ = some (.int .i64 D.design) := k3.cell 1
    have q2 : w3.cell? ⟨B, 2, none⟩ = some (.int .i64 D.first) := k3.cell 2
    have q3 : w3.cell? ⟨B, 3, none⟩ = some (.slice P.xc D.nc P.zc) := k3.cell 3
    have q4 : w3.cell? ⟨B, 4, none⟩ = some (.slice P.xw D.nw P.zw) := k3.cell 4
    have q5 : w3.cell? ⟨B, 5, none⟩ = some (.slice P.xh D.nh P.zh) := k3.cell 5
    have q6 : w3.cell? ⟨B, 6, none⟩ = some (.slice P.xd D.nd P.zd) := k3.cell 6
    have q7 : w3.cell? ⟨B, 7, none⟩ = some (.slice P.xi D.ni P.zi) := k3.cell 7
    have q8 : w3.cell? ⟨B, 8, none⟩ = some (.slice P.xs D.ns P.zs) := k3.cell 8
    have q9 : w3.cell? ⟨B, 9, none⟩ = some (.slice P.xk D.nk P.zk) := k3.cell 9
    have q10 : w3.cell? ⟨B, 10, none⟩ = some (.slice P.xp D.np P.zp) := k3.cell 10
    have hcase : (∃ m, makeD D = some m ∧ setB D l = true ∧ setR D l = (glyD D l, 0)) ∨ (∃ e : Int, e ≠ 0 ∧ setR D l = ([], e)) := by
      cases h1 : ligB D with
      | false => exact .inr ⟨70, by decide, by rw [setR, h1]; rfl⟩
      | true =>
        cases h2 : setB D l with
        | false => exact .inr ⟨80, by decide, by rw [setR, h1, h2]; rfl⟩
        | true =>
          obtain ⟨m, hm⟩ := Option.isSome_iff_exists.1 (show (makeD D).isSome = true from h1)
          exact .inl ⟨m, hm, rfl, by rw [setR, h1, h2]; rfl⟩
    rcases hcase with ⟨m, hm, hset, hr⟩ | ⟨er, he, hr⟩
    · rw [hr] at s3 h3
      simp only [hr]
      have G := make_good hm
      have BK := Lib.hid (backD G hset)
      have HAS := Lib.hid (glyD_has G hset)
      have MK := Lib.hid (show ∀ l', expandR D l' = (expL m l', 0) from fun l' => by rw [expandR, hm])
      have hlen : (glyD D l).length ≤ n ∧ ((glyD D l).length = 0 → n = 0) := by
        rw [HN.out]
        cases l with
        | nil => simp [glyD]
        | cons a r =>
          have h1 := glyL_length D r a
          have h2 := glyL_pos D r a
          simp only [glyD, List.length_cons]
          omega
      obtain ⟨hlen1, hlen2⟩ := hlen
      clear hr hm G hset
      generalize glyD D l = g at *
      obtain ⟨q, hq⟩ : ∃ q, q = g.length := ⟨_, rfl⟩
      rw [← hq] at h3 hlen1 hlen2 ⊢
      have HQ := Lib.hid hq
      have HX3 := Lib.hid X3
      clear hq X3 q0 q1 q2 q3 q4 q5 q6 q7 q8 q9 q10
      go_wp2_with fail
      go_loopw [8, 9] (fun v i wr => ∃ (vv : Value) (k : Nat), vv = v ∧ k ≤ q ∧ i = .int .i64 k ∧ wr.ownsRow w3.heap.size 3 1 vv k ((g.take k).map fun p => Value.int .i64 p.1) ∧ Ext w3 wr) (fun _ i _ => q - (intOf i).toNat)
      case atStart => exact ⟨_, 0, rfl, by omega, rfl, World.ownsRow_nil _ _ _ _, Ext.refl _⟩
      case round =>
        obtain ⟨vv, k, hvv, hk, rfl, ho, X⟩ := hrel
        subst hvv
        by_cases hlt : k < q
        · have hkg : k < g.length := by rw [← HQ.out]; exact hlt
          obtain ⟨ad, rfl, u0, u1⟩ := (s3.ext X).get hkg
          have HT := Lib.hid (take_map g k hkg)
          generalize (g.getD k (0, 0)).1 = gv at *
          have kN : Blk (wr.alloc (.cells #[.int .i64 gv] 3)) wr.heap.size 3 [.int .i64 gv] := Blk.lit _ _ _ _ rfl
          obtain ⟨v', w', hr, ho', hx', _, _⟩ := run_put1 (ho.alloc (.cells #[.int .i64 gv] 3)) (X.alloc _) ⟨wr.heap.size, 0, none⟩ gv (kN.cell 0) (by omega) 23
          have HO := Lib.hid ho'
          have hk64 : (k : Int) < (q : Int) := by omega
          clear ho ho' kN X
          go_wp2_with (at_builtin; refine wpList_ran rfl _ _ rfl hr ?_)
          go_roundw
          case rel => exact ⟨_, k + 1, rfl, by omega, by go_num, by rw [HT.out]; exact HO.out, hx'⟩
          case measure => simp [intOf]; omega
        · obtain rfl : k = q := by omega
          obtain ⟨A', c', rfl, ha, hb, hsn⟩ := own_slice ho
          have e : (g.take k).map (fun p => Value.int .i64 p.1) = (g.map (·.1)).map (.int .i64) := by rw [HQ.out, List.take_length, List.map_map]; rfl
          rw [e] at hsn
          have hsn := hsn.fn
          have HLEN := Lib.hid (show (g.map (·.1)).length = k by rw [List.length_map, HQ.out])
          have hX := HX3.out.trans X
          have C := Lib.hid (EX.out wr hX A' (g.map (·.1)) c' hsn (fun j => by
            by_cases hj : j < g.length
            · have hj' : j < (g.map (·.1)).length := by simpa using hj
              rw [List.getD, List.getElem?_eq_getElem hj', Option.getD_some, List.getElem_map]
              have := has_lt (HAS.out _ (List.getElem_mem hj))
              omega
            · rw [List.getD, List.getElem?_eq_none (by simp; omega)]; simp) (by rw [HLEN.out]; omega))
          rw [MK.out, BK.out, HLEN.out] at C
          have k4 := k3.ext X
          have q0 : wr.cell? ⟨B, 0, none⟩ = some (.int .i64 D.sum) := k4.cell 0
          have q1 : wr.cell? ⟨B, 1, none⟩ = some (.int .i64 D.design) := k4.cell 1
          have q2 : wr.cell? ⟨B, 2, none⟩ = some (.int .i64 D.first) := k4.cell 2
          have q3 : wr.cell? ⟨B, 3, none⟩ = some (.slice P.xc D.nc P.zc) := k4.cell 3
          have q4 : wr.cell? ⟨B, 4, none⟩ = some (.slice P.xw D.nw P.zw) := k4.cell 4
          have q5 : wr.cell? ⟨B, 5, none⟩ = some (.slice P.xh D.nh P.zh) := k4.cell 5
          have q6 : wr.cell? ⟨B, 6, none⟩ = some (.slice P.xd D.nd P.zd) := k4.cell 6
          have q7 : wr.cell? ⟨B, 7, none⟩ = some (.slice P.xi D.ni P.zi) := k4.cell 7
          have q8 : wr.cell? ⟨B, 8, none⟩ = some (.slice P.xs D.ns P.zs) := k4.cell 8
          have q9 : wr.cell? ⟨B, 9, none⟩ = some (.slice P.xk D.nk P.zk) := k4.cell 9
          have q10 : wr.cell? ⟨B, 10, none⟩ = some (.slice P.xp D.np P.zp) := k4.cell 10
          have HX := Lib.hid X
          clear e hsn ho X hX
          go_wp2_with fail
          refine C.out.mono ?_
          rintro e w5 ⟨x5, A5, c5, rfl, h5, _, s5⟩
          have HL5 := HL.out w5 ((HX3.out.trans HX.out).trans x5)
          have SM := Lib.hid (L04.same_any A5 A n n c5 c (fun j => l.getD j 0) (fun j => l.getD j 0) w5 (by rw [HN.out]; exact s5) (by rw [HN.out]; rw [HN.out] at HL5; exact HL5) (by omega))
          rw [show L04.sameB n n (fun j => l.getD j 0) (fun j => l.getD j 0) = true from decide_eq_true ⟨rfl, fun _ _ => rfl⟩] at SM
          rw [← HN.out]
          clear HL5 s5 C q0 q1 q2 q3 q4 q5 q6 q7 q8 q9 q10
          have hkn : (k : Int) ≤ (n : Int) := by omega
          have hor : 0 < (k : Int) ∨ ((k : Int) = 0 ∧ (n : Int) = 0) := by
            rcases Nat.eq_zero_or_pos k with h | h
            · exact .inr ⟨by omega, by have := hlen2 h; omega⟩
            · exact .inl (by omega)
          rcases hor with hk0 | ⟨hk0, hn0⟩
          · go_wp2_with fail
            refine SM.out.mono ?_; rintro e w6 ⟨rfl, x6⟩
            go_wp2_with fail
            go_ret
            exact ⟨rfl, W0.trans (((HX3.out.trans HX.out).trans x5).trans x6)⟩
          · obtain rfl : k = 0 := by omega
            obtain rfl : n = 0 := by omega
            go_wp2_with fail
            refine SM.out.mono ?_; rintro e w6 ⟨rfl, x6⟩
            go_wp2_with fail
            go_ret
            exact ⟨rfl, W0.trans (((HX3.out.trans HX.out).trans x5).trans x6)⟩
    · rw [hr] at s3 h3
      simp only [hr]
      have he0 : (er == 0) = false := by simpa using he
      have he1 : (er != 0) = true := by simpa using he
      clear hr he s3 h3 h3'
      go_wp2_with fail
      go_ret
      exact ⟨rfl, W0.trans X3⟩
  · have hn' : 100 < (n : Int) := by omega
    go_wp2_with fail
    go_ret
    exact ⟨rfl, W0.trans X2⟩

set_option maxRecDepth 100000 in
theorem lifted (os : Os) (started : os.Started) (H : Type) (enc : TypeId × Value → H) :
    ReturnsInHanded {} Try.checked os 4 .any (Rows.ligBackSpec.pre6 enc Try.prog Try.f4 [] false) (Rows.ligBackSpec.post enc Try.prog Try.f4 false true false false) := by
  refine law_lift (C := Try.checked) own started (by kernel_rfl) Try.func4 laidOut rfl rfl Try.underlying4 (by kernel_rfl) ?_
    (ChangeSpec.witness6 (enc := enc) (C := Try.checked) false ⟨#[], #[.agg #[.int .i64 0, .int .i64 0, .int .i64 0, .slice none 0 0, .slice none 0 0, .slice none 0 0, .slice none 0 0, .slice none 0 0, .slice none 0 0, .slice none 0 0, .slice none 0 0], .slice none 0 0], []⟩ 8 (by kernel_rfl) (by kernel_rfl) (by kernel_rfl) (by kernel_rfl)) ?_
  · intro H ds h
    match ds, h with
    | [_, _], _ => rfl
  · intro W base args ds p hval hA hlt hwt hsh
    rw [Try.params4] at hA hval
    obtain ⟨v0, vs0, d0, ds0, p0, q0, hargs, rfl, rfl, h0, r0⟩ := trodAll_cons hA
    obtain ⟨v1, vs1, d1, ds1, p1, q1, rfl, rfl, rfl, h1, r1⟩ := trodAll_cons r0
    obtain ⟨rfl, rfl, rfl⟩ := trodAll_nil r1
    obtain rfl : args = #[v0, v1] := by cases args; simp_all
    obtain ⟨D0, P0, rfl, ok0, hs0⟩ := arg_font (hval 0 26 v0 rfl rfl) h0
    obtain ⟨A1, l1, c1, rfl, hc1, hm1, wf1, hs1⟩ := seen_ints Try.underlying23 Try.underlying3 (by kernel_rfl) (hval 1 23 v1 rfl rfl) h1
    exact walk D0 P0 ok0 A1 l1 c1 hc1 hm1 wf1 W hs0 hs1

theorem holds : Rows.LigBackSaid :=
  OpenClaim.holds_of_wide 4 Try.f4 rfl rfl rfl rfl rfl rfl rfl ⟨rfl, rfl, rfl, rfl, rfl⟩ rfl rfl rfl rfl rfl (by kernel_rfl) Try.func4 (by kernel_rfl)
    (of_decide_eq_true (by kernel_rfl)) (by unfold Func.isWrapper; first | (rw [if_pos (by decide +kernel)]; kernel_rfl) | (rw [if_neg (by decide +kernel)]; exact ⟨rfl, rfl⟩))
    (fun os started H enc _ => lifted os started H enc)
end LigBack
end Go.Proofs.Ytmbkgjmnaembaaa

