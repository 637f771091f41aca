/- LiangParts: the patterns of two texts, a byte 10 between: for every input. -/
import Derived.Test.YtijhabhnhglhgaaDoorBoth10
import Derived.Deep.DeepCutAuto
namespace Go.Proofs.YtijhabhnhglhgaaDoor
open Go.ChangeShapes Go.WideShapes Go.ChangeAt Go.RowKit Go.Deep
namespace LiangParts
open L10

theorem seenB_lit (w : World) (cs : Array Value) (l : List UInt8) (t : TypeId) (h : cs = (bv l).toArray) : SeenB (w.alloc (.cells cs t)) (some ⟨w.heap.size, 0, none⟩) l :=
  Blk.seen (Blk.lit w w.heap.size t cs rfl) (by rw [h])
theorem run_more {w w0 : World} {v : Value} {m : List UInt8} (h : OwnB 5 w0 w v m) {a : Option Addr} (n c : Nat) (l : List UInt8) (hs : SeenB w a l) (hn : n = l.length) (hm : m.length + l.length ≤ 1000000) (ty : TypeId) :
    ∃ v' w', (Builtin.append_ #[22, 22] ty #[v, .slice a n c]).run Tryd.prog w = .ok v' w' ∧ OwnB 5 w0 w' v' (m ++ l) := by
  obtain ⟨v', w', h1, h2, _⟩ := run_putB (P := Tryd.prog) 22 ty 5 Tryd.underlying22 byte_info h a l n c hs hn hm
  exact ⟨v', w', h1, h2⟩
/-- append(append(append([]byte{}, a...), 10), b...). -/
theorem run_both (w : World) (A0 : Option Addr) (a : List UInt8) (n0 c0 : Nat) (A1 : Option Addr) (b : List UInt8) (n1 c1 : Nat) (h0 : SeenB w A0 a) (h1 : SeenB w A1 b) (e0 : n0 = a.length) (e1 : n1 = b.length) (ha : a.length ≤ 2000) (hb : b.length ≤ 2000) (z : Nat) (hz : w.heap.size = z) :
    ∃ v1 w1 v2 w2 v3 w3, (Builtin.append_ #[22, 22] 22 #[.slice (some ⟨z, 0, none⟩) 0 0, .slice A0 n0 c0]).run Tryd.prog (w.alloc (.cells #[] 5)) = .ok v1 w1 ∧
      (Builtin.append_ #[22, 22] 22 #[v1, .slice (some ⟨w1.heap.size, 0, none⟩) 1 1]).run Tryd.prog (w1.alloc (.cells #[.int .u8 10] 5)) = .ok v2 w2 ∧
      (Builtin.append_ #[22, 22] 22 #[v2, .slice A1 n1 c1]).run Tryd.prog w2 = .ok v3 w3 ∧ Ext w w3 ∧ ∃ A c, v3 = .slice A (a ++ 10 :: b).length c ∧ SeenB w3 A (a ++ 10 :: b) := by
  subst hz
  obtain ⟨v1, w1, r1, o1⟩ := run_more (OwnB.lit 5 w w [] #[] 0 rfl rfl (by simp) (Ext.refl w)) n0 c0 a (h0.ext ((Ext.refl w).alloc _)) e0 (by simp only [List.length_nil]; omega) 22
  obtain ⟨v2, w2, r2, o2⟩ := run_more (o1.over ((Ext.refl w1).alloc (.cells #[.int .u8 10] 5))) 1 1 [10] (seenB_lit w1 _ [10] 5 rfl) rfl (by simp only [List.length_nil, List.length_cons, List.nil_append]; omega) 22
  obtain ⟨v3, w3, r3, o3⟩ := run_more o2 n1 c1 b (h1.ext o2.2) e1 (by simp only [List.length_nil, List.length_cons, List.nil_append, List.length_append]; omega) 22
  obtain ⟨A, c, e, _, s⟩ := o3.seen
  have el : [] ++ a ++ [10] ++ b = a ++ 10 :: b := by simp
  rw [el] at e s
  exact ⟨v1, w1, v2, w2, v3, w3, r1, r2, r3, o3.2, A, c, e, s⟩

theorem split_lens {α : Type} (l : List α) : ∃ n, n = l.length := ⟨_, rfl⟩

set_option maxRecDepth 100000 in
set_option maxHeartbeats 16000000 in
theorem core (A0 : Option Addr) (a : List UInt8) (c0 : Nat) (A1' : Option Addr) (b : List UInt8) (c1' : Nat) (w : World) (h0 : SeenB w A0 a) (h1 : SeenB w A1' b) (hT : Tabs w) (ha : (a.length : Int) ≤ 2000) (hb : (b.length : Int) ≤ 2000) :
    Calls Tryd.prog 6 #[.slice A0 a.length c0, .slice A1' b.length c1'] w (Ret w (.bool true)) := by
  have P0 := Lib.hid (fun w' (x : Ext w w') => parse_all A0 a c0 w' (h0.ext x) (by omega) (hT.ext x))
  have P1 := Lib.hid (fun w' (x : Ext w w') => parse_all A1' b c1' w' (h1.ext x) (by omega) (hT.ext x))
  have P2 := Lib.hid (fun w' A c (x : Ext w w') (s : SeenB w' A (a ++ 10 :: b)) => parse_all A (a ++ 10 :: b) c w' s (by simp; omega) (hT.ext x))
  have RB := Lib.hid (fun w' (x : Ext w w') (z : Nat) (hz : w'.heap.size = z) => run_both w' A0 a a.length c0 A1' b b.length c1' (h0.ext x) (h1.ext x) rfl rfl (by omega) (by omega) z hz)
  have AW := Lib.hid (awake_any w hT)
  have PE : (parseE a = 0 ∧ parseE b = 0 ∧ ((patsB ((parseD a).1 ++ (parseD b).1, (parseD a).2 ++ (parseD b).2) = true ∧ parseE (a ++ 10 :: b) = 0 ∧ parseD (a ++ 10 :: b) = ((parseD a).1 ++ (parseD b).1, (parseD a).2 ++ (parseD b).2)) ∨ (patsB ((parseD a).1 ++ (parseD b).1, (parseD a).2 ++ (parseD b).2) = false ∧ parseE (a ++ 10 :: b) = 100))) ∨
      (parseE a = 100 ∧ parseE (a ++ 10 :: b) = 100) ∨ (parseE a = 0 ∧ parseE b = 100 ∧ parseE (a ++ 10 :: b) = 100) := by
    cases hp : parseV a with
    | none => exact .inr (.inl ⟨(parseE_no hp).1, (parseE_no (parse_noL hp)).1⟩)
    | some p =>
      obtain ⟨ep, dp⟩ := parseE_zero hp
      cases hq : parseV b with
      | none => exact .inr (.inr ⟨ep, (parseE_no hq).1, (parseE_no (parse_noR hq)).1⟩)
      | some q =>
        obtain ⟨eq, dq⟩ := parseE_zero hq
        have hb := parse_both hp hq
        rw [dp, dq]
        refine .inl ⟨ep, eq, ?_⟩
        cases hB : patsB (p.1 ++ q.1, p.2 ++ q.2) with
        | true => rw [hB, if_pos rfl] at hb; exact .inl ⟨rfl, (parseE_zero hb).1, (parseE_zero hb).2⟩
        | false => rw [hB, if_neg (by simp)] at hb; exact .inr ⟨rfl, (parseE_no hb).1⟩
  have HPE := Lib.hid PE
  clear h0 h1 hT PE
  generalize hE0 : parseE a = E0 at *
  generalize hE1 : parseE b = E1 at *
  generalize hE2 : parseE (a ++ 10 :: b) = E2 at *
  go_enter Tryd.func6, Tryd.ntmps6
  go_wp2_with fail
  refine AW.out.mono ?_; rintro e V ⟨rfl, x1⟩
  have X1 := Lib.hid x1
  clear x1 AW
  obtain ⟨n0, hn0⟩ : ∃ n, n = a.length := ⟨_, rfl⟩
  obtain ⟨n1', hn1'⟩ : ∃ n, n = b.length := ⟨_, rfl⟩
  rw [← hn0] at P0 RB ha ⊢
  rw [← hn1'] at P1 RB hb ⊢
  clear hn0 hn1'
  go_wp2_with fail
  refine (P0.out _ X1.out).mono ?_; rintro e w4 ⟨x4, ⟨l1, m1⟩, ⟨A1, c1, B1, d1⟩, rfl, hd1, g1⟩
  rw [hE0]
  unfold patsV
  dsimp only
  obtain ⟨n1, H1⟩ := split_lens l1
  obtain ⟨q1, K1⟩ := split_lens m1
  rw [← H1, ← K1]
  have G1 := Lib.hid g1
  have HD1 := Lib.hid hd1
  have Hn1 := Lib.hid H1
  have Hq1 := Lib.hid K1
  have X4 := Lib.hid (X1.out.trans x4)
  clear g1 hd1 H1 K1 x4 P0
  have k6 : Blk (w4.alloc (.cells #[.slice A1 n1 c1, .slice B1 q1 d1] 27)) w4.heap.size 27 [.slice A1 n1 c1, .slice B1 q1 d1] := Blk.lit _ _ _ _ rfl
  go_wp2_with fail
  refine (P1.out _ (X4.out.alloc _)).mono ?_; rintro e w5 ⟨x5, ⟨l2, m2⟩, ⟨A2, c2, B2, d2⟩, rfl, hd2, g2⟩
  rw [hE1]
  unfold patsV
  dsimp only
  obtain ⟨n2, H2⟩ := split_lens l2
  obtain ⟨q2, K2⟩ := split_lens m2
  rw [← H2, ← K2]
  have x45 : Ext w4 w5 := ((Ext.refl _).alloc _).trans x5
  have G1 := Lib.hid (G1.out.ext x45)
  have G2 := Lib.hid g2
  have HD2 := Lib.hid hd2
  have Hn2 := Lib.hid H2
  have Hq2 := Lib.hid K2
  have X5 := Lib.hid (X4.out.trans x45)
  have k6 := k6.ext x5
  have lb6 := k6.lt
  generalize w4.heap.size = b6 at *
  clear g2 hd2 H2 K2 x5 x45 P1 X4
  have k8 : Blk (w5.alloc (.cells #[.slice A2 n2 c2, .slice B2 q2 d2] 27)) w5.heap.size 27 [.slice A2 n2 c2, .slice B2 q2 d2] := Blk.lit _ _ _ _ rfl
  obtain ⟨v1, u1, v2, u2, v3, u3, r1, r2, r3, x56, A7, c7, rfl, s7⟩ := RB.out (w5.alloc (.cells #[.slice A2 n2 c2, .slice B2 q2 d2] 27)) (X5.out.alloc _) (w5.heap.size + 1) (by simp)
  have P3 := Lib.hid (P2.out u3 A7 c7 (X5.out.trans (((Ext.refl _).alloc _).trans x56)) s7)
  have x5u : Ext w5 u3 := ((Ext.refl _).alloc _).trans x56
  have k6 := k6.ext x5u
  have k8 := k8.ext x56
  have G1 := Lib.hid (G1.out.ext x5u)
  have G2 := Lib.hid (G2.out.ext x5u)
  have X6 := Lib.hid (X5.out.trans x5u)
  clear x5u x56 s7 RB P2 X5
  have hne : b6 ≠ w5.heap.size := by omega
  generalize (a ++ 10 :: b).length = n7 at *
  go_wp2_with (first | (at_builtin; refine wpList_ran rfl _ _ rfl r1 ?_) | (at_builtin; refine wpList_ran rfl _ _ rfl r2 ?_) | (at_builtin; refine wpList_ran rfl _ _ rfl r3 ?_))
  refine P3.out.mono ?_; rintro e w7 ⟨x7, ⟨l3, m3⟩, ⟨A3, c3, B3, d3⟩, rfl, hd3, g3⟩
  rw [hE2]
  unfold patsV
  dsimp only
  obtain ⟨n3, H3⟩ := split_lens l3
  obtain ⟨q3, K3⟩ := split_lens m3
  rw [← H3, ← K3]
  have k6 := k6.ext x7
  have k8 := k8.ext x7
  have G1 := Lib.hid (G1.out.ext x7)
  have G2 := Lib.hid (G2.out.ext x7)
  have G3 := Lib.hid g3
  have HD3 := Lib.hid hd3
  have Hn3 := Lib.hid H3
  have Hq3 := Lib.hid K3
  have X7 := Lib.hid (X6.out.trans x7)
  have lb8 := k8.lt
  clear g3 hd3 H3 K3 x7 P3 X6 r1 r2 r3 hE0 hE1 hE2
  generalize w5.heap.size = b8 at *
  obtain ⟨W, hW⟩ : ∃ W, W = w7.alloc (.cells #[.slice A3 n3 c3, .slice B3 q3 d3] 27) := ⟨_, rfl⟩
  have X8 := Lib.hid (show Ext w W by rw [hW]; exact X7.out.alloc _)
  rcases HPE.out with ⟨rfl, rfl, hck⟩ | ⟨rfl, rfl⟩ | ⟨rfl, rfl, rfl⟩
  rotate_left
  · clear HPE
    go_wp2_with fail
    go_ret
    rw [← hW]
    exact ⟨rfl, X8.out⟩
  · clear HPE
    go_wp2_with fail
    go_ret
    rw [← hW]
    exact ⟨rfl, X8.out⟩
  · have HCK := Lib.hid hck
    clear hck HPE
    have y7 : Ext w7 W := by rw [hW]; exact (Ext.refl _).alloc _
    have k6 := k6.ext y7
    have k8 := k8.ext y7
    have k10 : Blk W w7.heap.size 27 [.slice A3 n3 c3, .slice B3 q3 d3] := by rw [hW]; exact Blk.lit _ _ _ _ rfl
    have G1 := Lib.hid (G1.out.ext y7)
    have G2 := Lib.hid (G2.out.ext y7)
    have G3 := Lib.hid (G3.out.ext y7)
    have S1 := Lib.hid G1.out.sn.l
    have R1 := Lib.hid G1.out.sn.m
    have S2 := Lib.hid G2.out.sn.l
    have R2 := Lib.hid G2.out.sn.m
    have hlen1 := G1.out.len
    have hlen2 := G2.out.len
    dsimp only at S1 R1 S2 R2 hlen1 hlen2
    have HIN := Lib.hid (show ∀ x ∈ ([] ++ l1 ++ l2) ++ ([] ++ m1 ++ m2), SeenL W x.A x.ns from fun x hx => by
      rcases List.mem_append.1 hx with hx | hx
      · rcases List.mem_append.1 hx with hx | hx
        · exact S1.out.inner x hx
        · exact S2.out.inner x hx
      · rcases List.mem_append.1 hx with hx | hx
        · exact R1.out.inner x hx
        · exact R2.out.inner x hx)
    obtain ⟨nL, hnL⟩ := split_lens (l1 ++ l2)
    obtain ⟨qL, hqL⟩ := split_lens (m1 ++ m2)
    have HnL := Lib.hid hnL
    have HqL := Lib.hid hqL
    clear hnL hqL
    have FIN := Lib.hid (fun (wx : World) (B : Nat) (Al : Option Addr) (cl : Nat) (Am : Option Addr) (cm : Nat) (hx : Ext W wx) (hb : Blk wx B 27 [.slice Al nL cl, .slice Am qL cm]) (hs : SeenPats wx ⟨l1 ++ l2, m1 ++ m2⟩ ⟨Al, cl, Am, cm⟩) =>
      (show ∃ B' Al cl Am cm, Value.pointer (some ⟨B, 0, none⟩) = .pointer (some ⟨B', 0, none⟩) ∧ Hid (Ext W wx) ∧ Hid (Blk wx B' 27 [.slice Al nL cl, .slice Am qL cm]) ∧ Hid (SeenPats wx ⟨l1 ++ l2, m1 ++ m2⟩ ⟨Al, cl, Am, cm⟩) from ⟨B, Al, cl, Am, cm, rfl, hx, hb, hs⟩))
    go_upto_region 9 with (fail)
    rw [← hW]
    clear hW
    generalize w7.heap.size = b10 at *
    go_cut [12] (fun p wx => ∃ B Al cl Am cm, p = .pointer (some ⟨B, 0, none⟩) ∧ Hid (Ext W wx) ∧ Hid (Blk wx B 27 [.slice Al nL cl, .slice Am qL cm]) ∧ Hid (SeenPats wx ⟨l1 ++ l2, m1 ++ m2⟩ ⟨Al, cl, Am, cm⟩))
    case first =>
      have p0 : W.cell? ⟨b6, 0, none⟩ = some (.slice A1 n1 c1) := k6.cell 0
      have p1 : W.cell? ⟨b6, 1, none⟩ = some (.slice B1 q1 d1) := k6.cell 1
      have s0 : W.cell? ⟨b8, 0, none⟩ = some (.slice A2 n2 c2) := k8.cell 0
      have s1 : W.cell? ⟨b8, 1, none⟩ = some (.slice B2 q2 d2) := k8.cell 1
      have T0 := Lib.hid (TwoR.start W)
      clear k6 k8 k10 HCK G1 G2 G3 HD1 HD2 HD3 X7 X8 y7
      refine wp_region_noPanic ?_
      refine wp_region_held_drew (S := (fun w' => Ext W w')) (by kernel_rfl) (Ext.refl W).drew (fun h => ?_)
      generalize W.drew = wd at T0 h ⊢
      refine wpAnyH_take (i := 1) (oi := ?_) (v := ?_) ?_ (by kernel_rfl) (by kernel_rfl) (by kernel_rfl) ?_ ?_ h ?_
      rotate_left 2
      · simp only [List.getElem?_toArray, List.getElem?_cons_zero, List.getElem?_cons_succ]; rfl
      · exact fun _ _ _ h => h
      · refine Or.inl ⟨by rfl, ?_⟩
        intro w hSw
        (try dsimp only at hSw)
        go_simp
        (try with_reducible rfl)
      (try simp only [Act.put, List.setIfInBounds_toArray, List.set_cons_zero, List.set_cons_succ])
      refine wpAnyH_take (i := 2) (oi := ?_) (v := ?_) ?_ (by kernel_rfl) (by kernel_rfl) (by kernel_rfl) ?_ ?_ h ?_
      rotate_left 2
      · simp only [List.getElem?_toArray, List.getElem?_cons_zero, List.getElem?_cons_succ]; rfl
      · exact fun _ _ _ h => h
      · refine Or.inl ⟨by rfl, ?_⟩
        intro w hSw
        (try dsimp only at hSw)
        have hld := Ext.at (hSw : Ext W w) p0
        go_simp
        (try with_reducible rfl)
      (try simp only [Act.put, List.setIfInBounds_toArray, List.set_cons_zero, List.set_cons_succ])
      refine wpAnyH_take (i := 4) (oi := ?_) (v := ?_) ?_ (by kernel_rfl) (by kernel_rfl) (by kernel_rfl) ?_ ?_ h ?_
      rotate_left 2
      · simp only [List.getElem?_toArray, List.getElem?_cons_zero, List.getElem?_cons_succ]; rfl
      · exact fun _ _ _ h => h
      · refine Or.inl ⟨by rfl, ?_⟩
        intro w hSw
        (try dsimp only at hSw)
        go_simp
        (try with_reducible rfl)
      (try simp only [Act.put, List.setIfInBounds_toArray, List.set_cons_zero, List.set_cons_succ])
      refine wpAnyH_take (i := 5) (oi := ?_) (v := ?_) ?_ (by kernel_rfl) (by kernel_rfl) (by kernel_rfl) ?_ ?_ h ?_
      rotate_left 2
      · simp only [List.getElem?_toArray, List.getElem?_cons_zero, List.getElem?_cons_succ]; rfl
      · exact fun _ _ _ h => h
      · refine Or.inl ⟨by rfl, ?_⟩
        intro w hSw
        (try dsimp only at hSw)
        have hld := Ext.at (hSw : Ext W w) s0
        go_simp
        (try with_reducible rfl)
      (try simp only [Act.put, List.setIfInBounds_toArray, List.set_cons_zero, List.set_cons_succ])
      refine wpAnyH_take (i := 8) (oi := ?_) (v := ?_) ?_ (by kernel_rfl) (by kernel_rfl) (by kernel_rfl) ?_ ?_ h ?_
      rotate_left 2
      · simp only [List.getElem?_toArray, List.getElem?_cons_zero, List.getElem?_cons_succ]; rfl
      · exact fun _ _ _ h => h
      · refine Or.inl ⟨by rfl, ?_⟩
        intro w hSw
        (try dsimp only at hSw)
        go_simp
        (try with_reducible rfl)
      (try simp only [Act.put, List.setIfInBounds_toArray, List.set_cons_zero, List.set_cons_succ])
      refine wpAnyH_take (i := 9) (oi := ?_) (v := ?_) ?_ (by kernel_rfl) (by kernel_rfl) (by kernel_rfl) ?_ ?_ h ?_
      rotate_left 2
      · simp only [List.getElem?_toArray, List.getElem?_cons_zero, List.getElem?_cons_succ]; rfl
      · exact fun _ _ _ h => h
      · refine Or.inl ⟨by rfl, ?_⟩
        intro w hSw
        (try dsimp only at hSw)
        have hld := Ext.at (hSw : Ext W w) p1
        go_simp
        (try with_reducible rfl)
      (try simp only [Act.put, List.setIfInBounds_toArray, List.set_cons_zero, List.set_cons_succ])
      refine wpAnyH_take (i := 11) (oi := ?_) (v := ?_) ?_ (by kernel_rfl) (by kernel_rfl) (by kernel_rfl) ?_ ?_ h ?_
      rotate_left 2
      · simp only [List.getElem?_toArray, List.getElem?_cons_zero, List.getElem?_cons_succ]; rfl
      · exact fun _ _ _ h => h
      · refine Or.inl ⟨by rfl, ?_⟩
        intro w hSw
        (try dsimp only at hSw)
        go_simp
        (try with_reducible rfl)
      (try simp only [Act.put, List.setIfInBounds_toArray, List.set_cons_zero, List.set_cons_succ])
      refine wpAnyH_take (i := 12) (oi := ?_) (v := ?_) ?_ (by kernel_rfl) (by kernel_rfl) (by kernel_rfl) ?_ ?_ h ?_
      rotate_left 2
      · simp only [List.getElem?_toArray, List.getElem?_cons_zero, List.getElem?_cons_succ]; rfl
      · exact fun _ _ _ h => h
      · refine Or.inl ⟨by rfl, ?_⟩
        intro w hSw
        (try dsimp only at hSw)
        have hld := Ext.at (hSw : Ext W w) s1
        go_simp
        (try with_reducible rfl)
      (try simp only [Act.put, List.setIfInBounds_toArray, List.set_cons_zero, List.set_cons_succ])
      refine wpAnyH_ready (rs := [0, 7, 15]) (by kernel_rfl) (by simp) ?_
      refine AllReadyH.cons (o := ?_) ?_ (fun K hK => ?_) ?_
      rotate_left
      · simp only [List.getElem?_toArray, List.getElem?_cons_zero]; rfl
      · go_simp
        refine hK.out _ _ (T0.out.x.alloc _) (fun h => ?_)
        have T2 := Lib.hid T0.out.litL
        generalize wd.alloc (.cells #[] 42) = x1 at T2 h ⊢
        clear hK K
        skip
        (try simp only [Act.put, List.setIfInBounds_toArray, List.set_cons_zero, List.set_cons_succ])
        refine wpAnyH_ready (rs := [3, 7, 15]) (by kernel_rfl) (by simp) ?_
        refine AllReadyH.cons (o := ?_) ?_ (fun K hK => ?_) ?_
        rotate_left
        · simp only [List.getElem?_toArray, List.getElem?_cons_zero, List.getElem?_cons_succ]; rfl
        · obtain ⟨va3, wa3, ra3, ta3⟩ := T2.out.putL A1 l1 n1 c1 S1.out Hn1.out (by simp only [List.length_nil, Nat.zero_add]; omega)
          refine step_app10 (.tmp 56) (.tmp 58) rfl (by kernel_rfl) ra3 ?_
          refine hK.out _ _ ta3.x (fun h => ?_)
          have T2 := Lib.hid ta3
          clear ra3 ta3
          clear hK K
          (try simp only [Act.put, List.setIfInBounds_toArray, List.set_cons_zero, List.set_cons_succ])
          refine wpAnyH_ready (rs := [6, 7, 15]) (by kernel_rfl) (by simp) ?_
          refine AllReadyH.cons (o := ?_) ?_ (fun K hK => ?_) ?_
          rotate_left
          · simp only [List.getElem?_toArray, List.getElem?_cons_zero, List.getElem?_cons_succ]; rfl
          · obtain ⟨va6, wa6, ra6, ta6⟩ := T2.out.putL A2 l2 n2 c2 S2.out Hn2.out (by simp only [List.nil_append]; omega)
            refine step_app10 (.tmp 59) (.tmp 61) rfl (by kernel_rfl) ra6 ?_
            refine hK.out _ _ ta6.x (fun h => ?_)
            have T2 := Lib.hid ta6
            clear ra6 ta6
            clear hK K
            (try simp only [Act.put, List.setIfInBounds_toArray, List.set_cons_zero, List.set_cons_succ])
            refine wpAnyH_ready (rs := [7, 15]) (by kernel_rfl) (by simp) ?_
            refine AllReadyH.cons (o := ?_) ?_ (fun K hK => ?_) ?_
            rotate_left
            · simp only [List.getElem?_toArray, List.getElem?_cons_zero, List.getElem?_cons_succ]; rfl
            · go_simp
              refine hK.out _ _ (T2.out.x.alloc _) (fun h => ?_)
              have T2 := Lib.hid T2.out.litM
              generalize wa6.alloc (.cells #[] 45) = x2 at T2 h ⊢
              clear hK K
              (try simp only [Act.put, List.setIfInBounds_toArray, List.set_cons_zero, List.set_cons_succ])
              refine wpAnyH_ready (rs := [10, 15]) (by kernel_rfl) (by simp) ?_
              refine AllReadyH.cons (o := ?_) ?_ (fun K hK => ?_) ?_
              rotate_left
              · simp only [List.getElem?_toArray, List.getElem?_cons_zero, List.getElem?_cons_succ]; rfl
              · obtain ⟨va10, wa10, ra10, ta10⟩ := T2.out.putM B1 m1 q1 d1 R1.out Hq1.out (by simp only [List.length_nil, Nat.zero_add]; omega)
                refine step_app10 (.tmp 63) (.tmp 65) rfl (by kernel_rfl) ra10 ?_
                refine hK.out _ _ ta10.x (fun h => ?_)
                have T2 := Lib.hid ta10
                clear ra10 ta10
                clear hK K
                (try simp only [Act.put, List.setIfInBounds_toArray, List.set_cons_zero, List.set_cons_succ])
                refine wpAnyH_ready (rs := [13, 15]) (by kernel_rfl) (by simp) ?_
                refine AllReadyH.cons (o := ?_) ?_ (fun K hK => ?_) ?_
                rotate_left
                · simp only [List.getElem?_toArray, List.getElem?_cons_zero, List.getElem?_cons_succ]; rfl
                · obtain ⟨va13, wa13, ra13, ta13⟩ := T2.out.putM B2 m2 q2 d2 R2.out Hq2.out (by simp only [List.nil_append]; omega)
                  refine step_app10 (.tmp 66) (.tmp 68) rfl (by kernel_rfl) ra13 ?_
                  refine hK.out _ _ ta13.x (fun h => ?_)
                  have T2 := Lib.hid ta13
                  clear ra13 ta13
                  clear hK K
                  (try simp only [Act.put, List.setIfInBounds_toArray, List.set_cons_zero, List.set_cons_succ])
                  obtain ⟨Al, cl, Am, cm, e1, e2⟩ := T2.out.shape nL qL HnL.out HqL.out
                  subst e1 e2
                  refine wpAnyH_take (i := 14) (oi := ?_) (v := ?_) ?_ (by kernel_rfl) (by kernel_rfl) (by kernel_rfl) ?_ ?_ h ?_
                  rotate_left 2
                  · simp only [List.getElem?_toArray, List.getElem?_cons_zero, List.getElem?_cons_succ]; rfl
                  · exact fun _ _ _ h => h
                  · refine Or.inl ⟨by rfl, ?_⟩
                    intro w hSw
                    (try dsimp only at hSw)
                    go_simp
                    (try with_reducible rfl)
                  (try simp only [Act.put, List.setIfInBounds_toArray, List.set_cons_zero, List.set_cons_succ])
                  refine wpAnyH_ready (rs := [15]) (by kernel_rfl) (by simp) ?_
                  refine AllReadyH.cons (o := ?_) ?_ (fun K hK => ?_) AllReadyH.nil
                  rotate_left
                  · simp only [List.getElem?_toArray, List.getElem?_cons_zero, List.getElem?_cons_succ]; rfl
                  go_simp
                  refine hK.out _ _ (T2.out.x.alloc _) (fun h => ?_)
                  have T2 := Lib.hid T2.out.var
                  generalize wa13.alloc (.cells #[.slice none 0 0, .slice none 0 0] 27) = x3 at T2 h ⊢
                  clear hK K
                  (try simp only [Act.put, List.setIfInBounds_toArray, List.set_cons_zero, List.set_cons_succ])
                  obtain ⟨Al, cl, Am, cm, e1, e2, _, _, _, _, hx9, hb9, hs9⟩ := T2.out.done HIN.out nL qL HnL.out HqL.out
                  cases e1
                  cases e2
                  refine wpAnyH_ready (rs := [16]) (by kernel_rfl) (by simp) ?_
                  refine AllReadyH.cons (o := ?_) ?_ (fun K hK => ?_) AllReadyH.nil
                  rotate_left
                  · simp only [List.getElem?_toArray, List.getElem?_cons_zero, List.getElem?_cons_succ]; rfl
                  refine step_store10 27 _ _ rfl _ #[_, _] rfl rfl (T2.out.box _ rfl).1.there (by kernel_rfl) (by simp [Value.oneCell']) (by kernel_rfl) ?_
                  refine hK.out _ _ hx9 (fun h => ?_)
                  clear hK K
                  (try simp only [Act.put])
                  refine wpAnyH_done (by kernel_rfl) ?_ _
                  refine NoPanic.normal ?_
                  go_wp2_with fail
                  go_meet
                  exact FIN.out _ _ _ _ _ _ hx9 hb9 hs9
                refine AllReadyH.cons (o := ?_) ?_ (fun K hK => ?_) AllReadyH.nil
                rotate_left
                · simp only [List.getElem?_toArray, List.getElem?_cons_zero, List.getElem?_cons_succ]; rfl
                go_simp
                refine hK.out _ _ (T2.out.x.alloc _) (fun h => ?_)
                have T2 := Lib.hid T2.out.var
                generalize wa10.alloc (.cells #[.slice none 0 0, .slice none 0 0] 27) = x4 at T2 h ⊢
                clear hK K
                (try simp only [Act.put, List.setIfInBounds_toArray, List.set_cons_zero, List.set_cons_succ])
                refine wpAnyH_ready (rs := [13]) (by kernel_rfl) (by simp) ?_
                refine AllReadyH.cons (o := ?_) ?_ (fun K hK => ?_) AllReadyH.nil
                rotate_left
                · simp only [List.getElem?_toArray, List.getElem?_cons_zero, List.getElem?_cons_succ]; rfl
                obtain ⟨va13, wa13, ra13, ta13⟩ := T2.out.putM B2 m2 q2 d2 R2.out Hq2.out (by simp only [List.nil_append]; omega)
                refine step_app10 (.tmp 66) (.tmp 68) rfl (by kernel_rfl) ra13 ?_
                refine hK.out _ _ ta13.x (fun h => ?_)
                have T2 := Lib.hid ta13
                clear ra13 ta13
                clear hK K
                (try simp only [Act.put, List.setIfInBounds_toArray, List.set_cons_zero, List.set_cons_succ])
                obtain ⟨Al, cl, Am, cm, e1, e2⟩ := T2.out.shape nL qL HnL.out HqL.out
                subst e1 e2
                refine wpAnyH_take (i := 14) (oi := ?_) (v := ?_) ?_ (by kernel_rfl) (by kernel_rfl) (by kernel_rfl) ?_ ?_ h ?_
                rotate_left 2
                · simp only [List.getElem?_toArray, List.getElem?_cons_zero, List.getElem?_cons_succ]; rfl
                · exact fun _ _ _ h => h
                · refine Or.inl ⟨by rfl, ?_⟩
                  intro w hSw
                  (try dsimp only at hSw)
                  go_simp
                  (try with_reducible rfl)
                (try simp only [Act.put, List.setIfInBounds_toArray, List.set_cons_zero, List.set_cons_succ])
                obtain ⟨Al, cl, Am, cm, e1, e2, _, _, _, _, hx9, hb9, hs9⟩ := T2.out.done HIN.out nL qL HnL.out HqL.out
                cases e1
                cases e2
                refine wpAnyH_ready (rs := [16]) (by kernel_rfl) (by simp) ?_
                refine AllReadyH.cons (o := ?_) ?_ (fun K hK => ?_) AllReadyH.nil
                rotate_left
                · simp only [List.getElem?_toArray, List.getElem?_cons_zero, List.getElem?_cons_succ]; rfl
                refine step_store10 27 _ _ rfl _ #[_, _] rfl rfl (T2.out.box _ rfl).1.there (by kernel_rfl) (by simp [Value.oneCell']) (by kernel_rfl) ?_
                refine hK.out _ _ hx9 (fun h => ?_)
                clear hK K
                (try simp only [Act.put])
                refine wpAnyH_done (by kernel_rfl) ?_ _
                refine NoPanic.normal ?_
                go_wp2_with fail
                go_meet
                exact FIN.out _ _ _ _ _ _ hx9 hb9 hs9
              refine AllReadyH.cons (o := ?_) ?_ (fun K hK => ?_) AllReadyH.nil
              rotate_left
              · simp only [List.getElem?_toArray, List.getElem?_cons_zero, List.getElem?_cons_succ]; rfl
              go_simp
              refine hK.out _ _ (T2.out.x.alloc _) (fun h => ?_)
              have T2 := Lib.hid T2.out.var
              generalize x2.alloc (.cells #[.slice none 0 0, .slice none 0 0] 27) = x5 at T2 h ⊢
              clear hK K
              (try simp only [Act.put, List.setIfInBounds_toArray, List.set_cons_zero, List.set_cons_succ])
              refine wpAnyH_ready (rs := [10]) (by kernel_rfl) (by simp) ?_
              refine AllReadyH.cons (o := ?_) ?_ (fun K hK => ?_) AllReadyH.nil
              rotate_left
              · simp only [List.getElem?_toArray, List.getElem?_cons_zero, List.getElem?_cons_succ]; rfl
              obtain ⟨va10, wa10, ra10, ta10⟩ := T2.out.putM B1 m1 q1 d1 R1.out Hq1.out (by simp only [List.length_nil, Nat.zero_add]; omega)
              refine step_app10 (.tmp 63) (.tmp 65) rfl (by kernel_rfl) ra10 ?_
              refine hK.out _ _ ta10.x (fun h => ?_)
              have T2 := Lib.hid ta10
              clear ra10 ta10
              clear hK K
              (try simp only [Act.put, List.setIfInBounds_toArray, List.set_cons_zero, List.set_cons_succ])
              refine wpAnyH_ready (rs := [13]) (by kernel_rfl) (by simp) ?_
              refine AllReadyH.cons (o := ?_) ?_ (fun K hK => ?_) AllReadyH.nil
              rotate_left
              · simp only [List.getElem?_toArray, List.getElem?_cons_zero, List.getElem?_cons_succ]; rfl
              obtain ⟨va13, wa13, ra13, ta13⟩ := T2.out.putM B2 m2 q2 d2 R2.out Hq2.out (by simp only [List.nil_append]; omega)
              refine step_app10 (.tmp 66) (.tmp 68) rfl (by kernel_rfl) ra13 ?_
              refine hK.out _ _ ta13.x (fun h => ?_)
              have T2 := Lib.hid ta13
              clear ra13 ta13
              clear hK K
              (try simp only [Act.put, List.setIfInBounds_toArray, List.set_cons_zero, List.set_cons_succ])
              obtain ⟨Al, cl, Am, cm, e1, e2⟩ := T2.out.shape nL qL HnL.out HqL.out
              subst e1 e2
              refine wpAnyH_take (i := 14) (oi := ?_) (v := ?_) ?_ (by kernel_rfl) (by kernel_rfl) (by kernel_rfl) ?_ ?_ h ?_
              rotate_left 2
              · simp only [List.getElem?_toArray, List.getElem?_cons_zero, List.getElem?_cons_succ]; rfl
              · exact fun _ _ _ h => h
              · refine Or.inl ⟨by rfl, ?_⟩
                intro w hSw
                (try dsimp only at hSw)
                go_simp
                (try with_reducible rfl)
              (try simp only [Act.put, List.setIfInBounds_toArray, List.set_cons_zero, List.set_cons_succ])
              obtain ⟨Al, cl, Am, cm, e1, e2, _, _, _, _, hx9, hb9, hs9⟩ := T2.out.done HIN.out nL qL HnL.out HqL.out
              cases e1
              cases e2
              refine wpAnyH_ready (rs := [16]) (by kernel_rfl) (by simp) ?_
              refine AllReadyH.cons (o := ?_) ?_ (fun K hK => ?_) AllReadyH.nil
              rotate_left
              · simp only [List.getElem?_toArray, List.getElem?_cons_zero, List.getElem?_cons_succ]; rfl
              refine step_store10 27 _ _ rfl _ #[_, _] rfl rfl (T2.out.box _ rfl).1.there (by kernel_rfl) (by simp [Value.oneCell']) (by kernel_rfl) ?_
              refine hK.out _ _ hx9 (fun h => ?_)
              clear hK K
              (try simp only [Act.put])
              refine wpAnyH_done (by kernel_rfl) ?_ _
              refine NoPanic.normal ?_
              go_wp2_with fail
              go_meet
              exact FIN.out _ _ _ _ _ _ hx9 hb9 hs9
            refine AllReadyH.cons (o := ?_) ?_ (fun K hK => ?_) AllReadyH.nil
            rotate_left
            · simp only [List.getElem?_toArray, List.getElem?_cons_zero, List.getElem?_cons_succ]; rfl
            go_simp
            refine hK.out _ _ (T2.out.x.alloc _) (fun h => ?_)
            have T2 := Lib.hid T2.out.var
            generalize wa6.alloc (.cells #[.slice none 0 0, .slice none 0 0] 27) = x6 at T2 h ⊢
            clear hK K
            (try simp only [Act.put, List.setIfInBounds_toArray, List.set_cons_zero, List.set_cons_succ])
            refine wpAnyH_ready (rs := [7]) (by kernel_rfl) (by simp) ?_
            refine AllReadyH.cons (o := ?_) ?_ (fun K hK => ?_) AllReadyH.nil
            rotate_left
            · simp only [List.getElem?_toArray, List.getElem?_cons_zero, List.getElem?_cons_succ]; rfl
            go_simp
            refine hK.out _ _ (T2.out.x.alloc _) (fun h => ?_)
            have T2 := Lib.hid T2.out.litM
            generalize x6.alloc (.cells #[] 45) = x7 at T2 h ⊢
            clear hK K
            (try simp only [Act.put, List.setIfInBounds_toArray, List.set_cons_zero, List.set_cons_succ])
            refine wpAnyH_ready (rs := [10]) (by kernel_rfl) (by simp) ?_
            refine AllReadyH.cons (o := ?_) ?_ (fun K hK => ?_) AllReadyH.nil
            rotate_left
            · simp only [List.getElem?_toArray, List.getElem?_cons_zero, List.getElem?_cons_succ]; rfl
            obtain ⟨va10, wa10, ra10, ta10⟩ := T2.out.putM B1 m1 q1 d1 R1.out Hq1.out (by simp only [List.length_nil, Nat.zero_add]; omega)
            refine step_app10 (.tmp 63) (.tmp 65) rfl (by kernel_rfl) ra10 ?_
            refine hK.out _ _ ta10.x (fun h => ?_)
            have T2 := Lib.hid ta10
            clear ra10 ta10
            clear hK K
            (try simp only [Act.put, List.setIfInBounds_toArray, List.set_cons_zero, List.set_cons_succ])
            refine wpAnyH_ready (rs := [13]) (by kernel_rfl) (by simp) ?_
            refine AllReadyH.cons (o := ?_) ?_ (fun K hK => ?_) AllReadyH.nil
            rotate_left
            · simp only [List.getElem?_toArray, List.getElem?_cons_zero, List.getElem?_cons_succ]; rfl
            obtain ⟨va13, wa13, ra13, ta13⟩ := T2.out.putM B2 m2 q2 d2 R2.out Hq2.out (by simp only [List.nil_append]; omega)
            refine step_app10 (.tmp 66) (.tmp 68) rfl (by kernel_rfl) ra13 ?_
            refine hK.out _ _ ta13.x (fun h => ?_)
            have T2 := Lib.hid ta13
            clear ra13 ta13
            clear hK K
            (try simp only [Act.put, List.setIfInBounds_toArray, List.set_cons_zero, List.set_cons_succ])
            obtain ⟨Al, cl, Am, cm, e1, e2⟩ := T2.out.shape nL qL HnL.out HqL.out
            subst e1 e2
            refine wpAnyH_take (i := 14) (oi := ?_) (v := ?_) ?_ (by kernel_rfl) (by kernel_rfl) (by kernel_rfl) ?_ ?_ h ?_
            rotate_left 2
            · simp only [List.getElem?_toArray, List.getElem?_cons_zero, List.getElem?_cons_succ]; rfl
            · exact fun _ _ _ h => h
            · refine Or.inl ⟨by rfl, ?_⟩
              intro w hSw
              (try dsimp only at hSw)
              go_simp
              (try with_reducible rfl)
            (try simp only [Act.put, List.setIfInBounds_toArray, List.set_cons_zero, List.set_cons_succ])
            obtain ⟨Al, cl, Am, cm, e1, e2, _, _, _, _, hx9, hb9, hs9⟩ := T2.out.done HIN.out nL qL HnL.out HqL.out
            cases e1
            cases e2
            refine wpAnyH_ready (rs := [16]) (by kernel_rfl) (by simp) ?_
            refine AllReadyH.cons (o := ?_) ?_ (fun K hK => ?_) AllReadyH.nil
            rotate_left
            · simp only [List.getElem?_toArray, List.getElem?_cons_zero, List.getElem?_cons_succ]; rfl
            refine step_store10 27 _ _ rfl _ #[_, _] rfl rfl (T2.out.box _ rfl).1.there (by kernel_rfl) (by simp [Value.oneCell']) (by kernel_rfl) ?_
            refine hK.out _ _ hx9 (fun h => ?_)
            clear hK K
            (try simp only [Act.put])
            refine wpAnyH_done (by kernel_rfl) ?_ _
            refine NoPanic.normal ?_
            go_wp2_with fail
            go_meet
            exact FIN.out _ _ _ _ _ _ hx9 hb9 hs9
          refine AllReadyH.cons (o := ?_) ?_ (fun K hK => ?_) ?_
          rotate_left
          · simp only [List.getElem?_toArray, List.getElem?_cons_zero, List.getElem?_cons_succ]; rfl
          · go_simp
            refine hK.out _ _ (T2.out.x.alloc _) (fun h => ?_)
            have T2 := Lib.hid T2.out.litM
            generalize wa3.alloc (.cells #[] 45) = x8 at T2 h ⊢
            clear hK K
            (try simp only [Act.put, List.setIfInBounds_toArray, List.set_cons_zero, List.set_cons_succ])
            refine wpAnyH_ready (rs := [6, 15]) (by kernel_rfl) (by simp) ?_
            refine AllReadyH.cons (o := ?_) ?_ (fun K hK => ?_) ?_
            rotate_left
            · simp only [List.getElem?_toArray, List.getElem?_cons_zero, List.getElem?_cons_succ]; rfl
            · obtain ⟨va6, wa6, ra6, ta6⟩ := T2.out.putL A2 l2 n2 c2 S2.out Hn2.out (by simp only [List.nil_append]; omega)
              refine step_app10 (.tmp 59) (.tmp 61) rfl (by kernel_rfl) ra6 ?_
              refine hK.out _ _ ta6.x (fun h => ?_)
              have T2 := Lib.hid ta6
              clear ra6 ta6
              clear hK K
              (try simp only [Act.put, List.setIfInBounds_toArray, List.set_cons_zero, List.set_cons_succ])
              refine wpAnyH_ready (rs := [10, 15]) (by kernel_rfl) (by simp) ?_
              refine AllReadyH.cons (o := ?_) ?_ (fun K hK => ?_) ?_
              rotate_left
              · simp only [List.getElem?_toArray, List.getElem?_cons_zero, List.getElem?_cons_succ]; rfl
              · obtain ⟨va10, wa10, ra10, ta10⟩ := T2.out.putM B1 m1 q1 d1 R1.out Hq1.out (by simp only [List.length_nil, Nat.zero_add]; omega)
                refine step_app10 (.tmp 63) (.tmp 65) rfl (by kernel_rfl) ra10 ?_
                refine hK.out _ _ ta10.x (fun h => ?_)
                have T2 := Lib.hid ta10
                clear ra10 ta10
                clear hK K
                (try simp only [Act.put, List.setIfInBounds_toArray, List.set_cons_zero, List.set_cons_succ])
                refine wpAnyH_ready (rs := [13, 15]) (by kernel_rfl) (by simp) ?_
                refine AllReadyH.cons (o := ?_) ?_ (fun K hK => ?_) ?_
                rotate_left
                · simp only [List.getElem?_toArray, List.getElem?_cons_zero, List.getElem?_cons_succ]; rfl
                · obtain ⟨va13, wa13, ra13, ta13⟩ := T2.out.putM B2 m2 q2 d2 R2.out Hq2.out (by simp only [List.nil_append]; omega)
                  refine step_app10 (.tmp 66) (.tmp 68) rfl (by kernel_rfl) ra13 ?_
                  refine hK.out _ _ ta13.x (fun h => ?_)
                  have T2 := Lib.hid ta13
                  clear ra13 ta13
                  clear hK K
                  (try simp only [Act.put, List.setIfInBounds_toArray, List.set_cons_zero, List.set_cons_succ])
                  obtain ⟨Al, cl, Am, cm, e1, e2⟩ := T2.out.shape nL qL HnL.out HqL.out
                  subst e1 e2
                  refine wpAnyH_take (i := 14) (oi := ?_) (v := ?_) ?_ (by kernel_rfl) (by kernel_rfl) (by kernel_rfl) ?_ ?_ h ?_
                  rotate_left 2
                  · simp only [List.getElem?_toArray, List.getElem?_cons_zero, List.getElem?_cons_succ]; rfl
                  · exact fun _ _ _ h => h
                  · refine Or.inl ⟨by rfl, ?_⟩
                    intro w hSw
                    (try dsimp only at hSw)
                    go_simp
                    (try with_reducible rfl)
                  (try simp only [Act.put, List.setIfInBounds_toArray, List.set_cons_zero, List.set_cons_succ])
                  refine wpAnyH_ready (rs := [15]) (by kernel_rfl) (by simp) ?_
                  refine AllReadyH.cons (o := ?_) ?_ (fun K hK => ?_) AllReadyH.nil
                  rotate_left
                  · simp only [List.getElem?_toArray, List.getElem?_cons_zero, List.getElem?_cons_succ]; rfl
                  go_simp
                  refine hK.out _ _ (T2.out.x.alloc _) (fun h => ?_)
                  have T2 := Lib.hid T2.out.var
                  generalize wa13.alloc (.cells #[.slice none 0 0, .slice none 0 0] 27) = x9 at T2 h ⊢
                  clear hK K
                  (try simp only [Act.put, List.setIfInBounds_toArray, List.set_cons_zero, List.set_cons_succ])
                  obtain ⟨Al, cl, Am, cm, e1, e2, _, _, _, _, hx9, hb9, hs9⟩ := T2.out.done HIN.out nL qL HnL.out HqL.out
                  cases e1
                  cases e2
                  refine wpAnyH_ready (rs := [16]) (by kernel_rfl) (by simp) ?_
                  refine AllReadyH.cons (o := ?_) ?_ (fun K hK => ?_) AllReadyH.nil
                  rotate_left
                  · simp only [List.getElem?_toArray, List.getElem?_cons_zero, List.getElem?_cons_succ]; rfl
                  refine step_store10 27 _ _ rfl _ #[_, _] rfl rfl (T2.out.box _ rfl).1.there (by kernel_rfl) (by simp [Value.oneCell']) (by kernel_rfl) ?_
                  refine hK.out _ _ hx9 (fun h => ?_)
                  clear hK K
                  (try simp only [Act.put])
                  refine wpAnyH_done (by kernel_rfl) ?_ _
                  refine NoPanic.normal ?_
                  go_wp2_with fail
                  go_meet
                  exact FIN.out _ _ _ _ _ _ hx9 hb9 hs9
                refine AllReadyH.cons (o := ?_) ?_ (fun K hK => ?_) AllReadyH.nil
                rotate_left
                · simp only [List.getElem?_toArray, List.getElem?_cons_zero, List.getElem?_cons_succ]; rfl
                go_simp
                refine hK.out _ _ (T2.out.x.alloc _) (fun h => ?_)
                have T2 := Lib.hid T2.out.var
                generalize wa10.alloc (.cells #[.slice none 0 0, .slice none 0 0] 27) = x10 at T2 h ⊢
                clear hK K
                (try simp only [Act.put, List.setIfInBounds_toArray, List.set_cons_zero, List.set_cons_succ])
                refine wpAnyH_ready (rs := [13]) (by kernel_rfl) (by simp) ?_
                refine AllReadyH.cons (o := ?_) ?_ (fun K hK => ?_) AllReadyH.nil
                rotate_left
                · simp only [List.getElem?_toArray, List.getElem?_cons_zero, List.getElem?_cons_succ]; rfl
                obtain ⟨va13, wa13, ra13, ta13⟩ := T2.out.putM B2 m2 q2 d2 R2.out Hq2.out (by simp only [List.nil_append]; omega)
                refine step_app10 (.tmp 66) (.tmp 68) rfl (by kernel_rfl) ra13 ?_
                refine hK.out _ _ ta13.x (fun h => ?_)
                have T2 := Lib.hid ta13
                clear ra13 ta13
                clear hK K
                (try simp only [Act.put, List.setIfInBounds_toArray, List.set_cons_zero, List.set_cons_succ])
                obtain ⟨Al, cl, Am, cm, e1, e2⟩ := T2.out.shape nL qL HnL.out HqL.out
                subst e1 e2
                refine wpAnyH_take (i := 14) (oi := ?_) (v := ?_) ?_ (by kernel_rfl) (by kernel_rfl) (by kernel_rfl) ?_ ?_ h ?_
                rotate_left 2
                · simp only [List.getElem?_toArray, List.getElem?_cons_zero, List.getElem?_cons_succ]; rfl
                · exact fun _ _ _ h => h
                · refine Or.inl ⟨by rfl, ?_⟩
                  intro w hSw
                  (try dsimp only at hSw)
                  go_simp
                  (try with_reducible rfl)
                (try simp only [Act.put, List.setIfInBounds_toArray, List.set_cons_zero, List.set_cons_succ])
                obtain ⟨Al, cl, Am, cm, e1, e2, _, _, _, _, hx9, hb9, hs9⟩ := T2.out.done HIN.out nL qL HnL.out HqL.out
                cases e1
                cases e2
                refine wpAnyH_ready (rs := [16]) (by kernel_rfl) (by simp) ?_
                refine AllReadyH.cons (o := ?_) ?_ (fun K hK => ?_) AllReadyH.nil
                rotate_left
                · simp only [List.getElem?_toArray, List.getElem?_cons_zero, List.getElem?_cons_succ]; rfl
                refine step_store10 27 _ _ rfl _ #[_, _] rfl rfl (T2.out.box _ rfl).1.there (by kernel_rfl) (by simp [Value.oneCell']) (by kernel_rfl) ?_
                refine hK.out _ _ hx9 (fun h => ?_)
                clear hK K
                (try simp only [Act.put])
                refine wpAnyH_done (by kernel_rfl) ?_ _
                refine NoPanic.normal ?_
                go_wp2_with fail
                go_meet
                exact FIN.out _ _ _ _ _ _ hx9 hb9 hs9
              refine AllReadyH.cons (o := ?_) ?_ (fun K hK => ?_) AllReadyH.nil
              rotate_left
              · simp only [List.getElem?_toArray, List.getElem?_cons_zero, List.getElem?_cons_succ]; rfl
              go_simp
              refine hK.out _ _ (T2.out.x.alloc _) (fun h => ?_)
              have T2 := Lib.hid T2.out.var
              generalize wa6.alloc (.cells #[.slice none 0 0, .slice none 0 0] 27) = x11 at T2 h ⊢
              clear hK K
              (try simp only [Act.put, List.setIfInBounds_toArray, List.set_cons_zero, List.set_cons_succ])
              refine wpAnyH_ready (rs := [10]) (by kernel_rfl) (by simp) ?_
              refine AllReadyH.cons (o := ?_) ?_ (fun K hK => ?_) AllReadyH.nil
              rotate_left
              · simp only [List.getElem?_toArray, List.getElem?_cons_zero, List.getElem?_cons_succ]; rfl
              obtain ⟨va10, wa10, ra10, ta10⟩ := T2.out.putM B1 m1 q1 d1 R1.out Hq1.out (by simp only [List.length_nil, Nat.zero_add]; omega)
              refine step_app10 (.tmp 63) (.tmp 65) rfl (by kernel_rfl) ra10 ?_
              refine hK.out _ _ ta10.x (fun h => ?_)
              have T2 := Lib.hid ta10
              clear ra10 ta10
              clear hK K
              (try simp only [Act.put, List.setIfInBounds_toArray, List.set_cons_zero, List.set_cons_succ])
              refine wpAnyH_ready (rs := [13]) (by kernel_rfl) (by simp) ?_
              refine AllReadyH.cons (o := ?_) ?_ (fun K hK => ?_) AllReadyH.nil
              rotate_left
              · simp only [List.getElem?_toArray, List.getElem?_cons_zero, List.getElem?_cons_succ]; rfl
              obtain ⟨va13, wa13, ra13, ta13⟩ := T2.out.putM B2 m2 q2 d2 R2.out Hq2.out (by simp only [List.nil_append]; omega)
              refine step_app10 (.tmp 66) (.tmp 68) rfl (by kernel_rfl) ra13 ?_
              refine hK.out _ _ ta13.x (fun h => ?_)
              have T2 := Lib.hid ta13
              clear ra13 ta13
              clear hK K
              (try simp only [Act.put, List.setIfInBounds_toArray, List.set_cons_zero, List.set_cons_succ])
              obtain ⟨Al, cl, Am, cm, e1, e2⟩ := T2.out.shape nL qL HnL.out HqL.out
              subst e1 e2
              refine wpAnyH_take (i := 14) (oi := ?_) (v := ?_) ?_ (by kernel_rfl) (by kernel_rfl) (by kernel_rfl) ?_ ?_ h ?_
              rotate_left 2
              · simp only [List.getElem?_toArray, List.getElem?_cons_zero, List.getElem?_cons_succ]; rfl
              · exact fun _ _ _ h => h
              · refine Or.inl ⟨by rfl, ?_⟩
                intro w hSw
                (try dsimp only at hSw)
                go_simp
                (try with_reducible rfl)
              (try simp only [Act.put, List.setIfInBounds_toArray, List.set_cons_zero, List.set_cons_succ])
              obtain ⟨Al, cl, Am, cm, e1, e2, _, _, _, _, hx9, hb9, hs9⟩ := T2.out.done HIN.out nL qL HnL.out HqL.out
              cases e1
              cases e2
              refine wpAnyH_ready (rs := [16]) (by kernel_rfl) (by simp) ?_
              refine AllReadyH.cons (o := ?_) ?_ (fun K hK => ?_) AllReadyH.nil
              rotate_left
              · simp only [List.getElem?_toArray, List.getElem?_cons_zero, List.getElem?_cons_succ]; rfl
              refine step_store10 27 _ _ rfl _ #[_, _] rfl rfl (T2.out.box _ rfl).1.there (by kernel_rfl) (by simp [Value.oneCell']) (by kernel_rfl) ?_
              refine hK.out _ _ hx9 (fun h => ?_)
              clear hK K
              (try simp only [Act.put])
              refine wpAnyH_done (by kernel_rfl) ?_ _
              refine NoPanic.normal ?_
              go_wp2_with fail
              go_meet
              exact FIN.out _ _ _ _ _ _ hx9 hb9 hs9
            refine AllReadyH.cons (o := ?_) ?_ (fun K hK => ?_) AllReadyH.nil
            rotate_left
            · simp only [List.getElem?_toArray, List.getElem?_cons_zero, List.getElem?_cons_succ]; rfl
            go_simp
            refine hK.out _ _ (T2.out.x.alloc _) (fun h => ?_)
            have T2 := Lib.hid T2.out.var
            generalize x8.alloc (.cells #[.slice none 0 0, .slice none 0 0] 27) = x12 at T2 h ⊢
            clear hK K
            (try simp only [Act.put, List.setIfInBounds_toArray, List.set_cons_zero, List.set_cons_succ])
            refine wpAnyH_ready (rs := [6]) (by kernel_rfl) (by simp) ?_
            refine AllReadyH.cons (o := ?_) ?_ (fun K hK => ?_) AllReadyH.nil
            rotate_left
            · simp only [List.getElem?_toArray, List.getElem?_cons_zero, List.getElem?_cons_succ]; rfl
            obtain ⟨va6, wa6, ra6, ta6⟩ := T2.out.putL A2 l2 n2 c2 S2.out Hn2.out (by simp only [List.nil_append]; omega)
            refine step_app10 (.tmp 59) (.tmp 61) rfl (by kernel_rfl) ra6 ?_
            refine hK.out _ _ ta6.x (fun h => ?_)
            have T2 := Lib.hid ta6
            clear ra6 ta6
            clear hK K
            (try simp only [Act.put, List.setIfInBounds_toArray, List.set_cons_zero, List.set_cons_succ])
            refine wpAnyH_ready (rs := [10]) (by kernel_rfl) (by simp) ?_
            refine AllReadyH.cons (o := ?_) ?_ (fun K hK => ?_) AllReadyH.nil
            rotate_left
            · simp only [List.getElem?_toArray, List.getElem?_cons_zero, List.getElem?_cons_succ]; rfl
            obtain ⟨va10, wa10, ra10, ta10⟩ := T2.out.putM B1 m1 q1 d1 R1.out Hq1.out (by simp only [List.length_nil, Nat.zero_add]; omega)
            refine step_app10 (.tmp 63) (.tmp 65) rfl (by kernel_rfl) ra10 ?_
            refine hK.out _ _ ta10.x (fun h => ?_)
            have T2 := Lib.hid ta10
            clear ra10 ta10
            clear hK K
            (try simp only [Act.put, List.setIfInBounds_toArray, List.set_cons_zero, List.set_cons_succ])
            refine wpAnyH_ready (rs := [13]) (by kernel_rfl) (by simp) ?_
            refine AllReadyH.cons (o := ?_) ?_ (fun K hK => ?_) AllReadyH.nil
            rotate_left
            · simp only [List.getElem?_toArray, List.getElem?_cons_zero, List.getElem?_cons_succ]; rfl
            obtain ⟨va13, wa13, ra13, ta13⟩ := T2.out.putM B2 m2 q2 d2 R2.out Hq2.out (by simp only [List.nil_append]; omega)
            refine step_app10 (.tmp 66) (.tmp 68) rfl (by kernel_rfl) ra13 ?_
            refine hK.out _ _ ta13.x (fun h => ?_)
            have T2 := Lib.hid ta13
            clear ra13 ta13
            clear hK K
            (try simp only [Act.put, List.setIfInBounds_toArray, List.set_cons_zero, List.set_cons_succ])
            obtain ⟨Al, cl, Am, cm, e1, e2⟩ := T2.out.shape nL qL HnL.out HqL.out
            subst e1 e2
            refine wpAnyH_take (i := 14) (oi := ?_) (v := ?_) ?_ (by kernel_rfl) (by kernel_rfl) (by kernel_rfl) ?_ ?_ h ?_
            rotate_left 2
            · simp only [List.getElem?_toArray, List.getElem?_cons_zero, List.getElem?_cons_succ]; rfl
            · exact fun _ _ _ h => h
            · refine Or.inl ⟨by rfl, ?_⟩
              intro w hSw
              (try dsimp only at hSw)
              go_simp
              (try with_reducible rfl)
            (try simp only [Act.put, List.setIfInBounds_toArray, List.set_cons_zero, List.set_cons_succ])
            obtain ⟨Al, cl, Am, cm, e1, e2, _, _, _, _, hx9, hb9, hs9⟩ := T2.out.done HIN.out nL qL HnL.out HqL.out
            cases e1
            cases e2
            refine wpAnyH_ready (rs := [16]) (by kernel_rfl) (by simp) ?_
            refine AllReadyH.cons (o := ?_) ?_ (fun K hK => ?_) AllReadyH.nil
            rotate_left
            · simp only [List.getElem?_toArray, List.getElem?_cons_zero, List.getElem?_cons_succ]; rfl
            refine step_store10 27 _ _ rfl _ #[_, _] rfl rfl (T2.out.box _ rfl).1.there (by kernel_rfl) (by simp [Value.oneCell']) (by kernel_rfl) ?_
            refine hK.out _ _ hx9 (fun h => ?_)
            clear hK K
            (try simp only [Act.put])
            refine wpAnyH_done (by kernel_rfl) ?_ _
            refine NoPanic.normal ?_
            go_wp2_with fail
            go_meet
            exact FIN.out _ _ _ _ _ _ hx9 hb9 hs9
          refine AllReadyH.cons (o := ?_) ?_ (fun K hK => ?_) AllReadyH.nil
          rotate_left
          · simp only [List.getElem?_toArray, List.getElem?_cons_zero, List.getElem?_cons_succ]; rfl
          go_simp
          refine hK.out _ _ (T2.out.x.alloc _) (fun h => ?_)
          have T2 := Lib.hid T2.out.var
          generalize wa3.alloc (.cells #[.slice none 0 0, .slice none 0 0] 27) = x13 at T2 h ⊢
          clear hK K
          (try simp only [Act.put, List.setIfInBounds_toArray, List.set_cons_zero, List.set_cons_succ])
          refine wpAnyH_ready (rs := [6, 7]) (by kernel_rfl) (by simp) ?_
          refine AllReadyH.cons (o := ?_) ?_ (fun K hK => ?_) ?_
          rotate_left
          · simp only [List.getElem?_toArray, List.getElem?_cons_zero, List.getElem?_cons_succ]; rfl
          · obtain ⟨va6, wa6, ra6, ta6⟩ := T2.out.putL A2 l2 n2 c2 S2.out Hn2.out (by simp only [List.nil_append]; omega)
            refine step_app10 (.tmp 59) (.tmp 61) rfl (by kernel_rfl) ra6 ?_
            refine hK.out _ _ ta6.x (fun h => ?_)
            have T2 := Lib.hid ta6
            clear ra6 ta6
            clear hK K
            (try simp only [Act.put, List.setIfInBounds_toArray, List.set_cons_zero, List.set_cons_succ])
            refine wpAnyH_ready (rs := [7]) (by kernel_rfl) (by simp) ?_
            refine AllReadyH.cons (o := ?_) ?_ (fun K hK => ?_) AllReadyH.nil
            rotate_left
            · simp only [List.getElem?_toArray, List.getElem?_cons_zero, List.getElem?_cons_succ]; rfl
            go_simp
            refine hK.out _ _ (T2.out.x.alloc _) (fun h => ?_)
            have T2 := Lib.hid T2.out.litM
            generalize wa6.alloc (.cells #[] 45) = x14 at T2 h ⊢
            clear hK K
            (try simp only [Act.put, List.setIfInBounds_toArray, List.set_cons_zero, List.set_cons_succ])
            refine wpAnyH_ready (rs := [10]) (by kernel_rfl) (by simp) ?_
            refine AllReadyH.cons (o := ?_) ?_ (fun K hK => ?_) AllReadyH.nil
            rotate_left
            · simp only [List.getElem?_toArray, List.getElem?_cons_zero, List.getElem?_cons_succ]; rfl
            obtain ⟨va10, wa10, ra10, ta10⟩ := T2.out.putM B1 m1 q1 d1 R1.out Hq1.out (by simp only [List.length_nil, Nat.zero_add]; omega)
            refine step_app10 (.tmp 63) (.tmp 65) rfl (by kernel_rfl) ra10 ?_
            refine hK.out _ _ ta10.x (fun h => ?_)
            have T2 := Lib.hid ta10
            clear ra10 ta10
            clear hK K
            (try simp only [Act.put, List.setIfInBounds_toArray, List.set_cons_zero, List.set_cons_succ])
            refine wpAnyH_ready (rs := [13]) (by kernel_rfl) (by simp) ?_
            refine AllReadyH.cons (o := ?_) ?_ (fun K hK => ?_) AllReadyH.nil
            rotate_left
            · simp only [List.getElem?_toArray, List.getElem?_cons_zero, List.getElem?_cons_succ]; rfl
            obtain ⟨va13, wa13, ra13, ta13⟩ := T2.out.putM B2 m2 q2 d2 R2.out Hq2.out (by simp only [List.nil_append]; omega)
            refine step_app10 (.tmp 66) (.tmp 68) rfl (by kernel_rfl) ra13 ?_
            refine hK.out _ _ ta13.x (fun h => ?_)
            have T2 := Lib.hid ta13
            clear ra13 ta13
            clear hK K
            (try simp only [Act.put, List.setIfInBounds_toArray, List.set_cons_zero, List.set_cons_succ])
            obtain ⟨Al, cl, Am, cm, e1, e2⟩ := T2.out.shape nL qL HnL.out HqL.out
            subst e1 e2
            refine wpAnyH_take (i := 14) (oi := ?_) (v := ?_) ?_ (by kernel_rfl) (by kernel_rfl) (by kernel_rfl) ?_ ?_ h ?_
            rotate_left 2
            · simp only [List.getElem?_toArray, List.getElem?_cons_zero, List.getElem?_cons_succ]; rfl
            · exact fun _ _ _ h => h
            · refine Or.inl ⟨by rfl, ?_⟩
              intro w hSw
              (try dsimp only at hSw)
              go_simp
              (try with_reducible rfl)
            (try simp only [Act.put, List.setIfInBounds_toArray, List.set_cons_zero, List.set_cons_succ])
            obtain ⟨Al, cl, Am, cm, e1, e2, _, _, _, _, hx9, hb9, hs9⟩ := T2.out.done HIN.out nL qL HnL.out HqL.out
            cases e1
            cases e2
            refine wpAnyH_ready (rs := [16]) (by kernel_rfl) (by simp) ?_
            refine AllReadyH.cons (o := ?_) ?_ (fun K hK => ?_) AllReadyH.nil
            rotate_left
            · simp only [List.getElem?_toArray, List.getElem?_cons_zero, List.getElem?_cons_succ]; rfl
            refine step_store10 27 _ _ rfl _ #[_, _] rfl rfl (T2.out.box _ rfl).1.there (by kernel_rfl) (by simp [Value.oneCell']) (by kernel_rfl) ?_
            refine hK.out _ _ hx9 (fun h => ?_)
            clear hK K
            (try simp only [Act.put])
            refine wpAnyH_done (by kernel_rfl) ?_ _
            refine NoPanic.normal ?_
            go_wp2_with fail
            go_meet
            exact FIN.out _ _ _ _ _ _ hx9 hb9 hs9
          refine AllReadyH.cons (o := ?_) ?_ (fun K hK => ?_) AllReadyH.nil
          rotate_left
          · simp only [List.getElem?_toArray, List.getElem?_cons_zero, List.getElem?_cons_succ]; rfl
          go_simp
          refine hK.out _ _ (T2.out.x.alloc _) (fun h => ?_)
          have T2 := Lib.hid T2.out.litM
          generalize x13.alloc (.cells #[] 45) = x15 at T2 h ⊢
          clear hK K
          (try simp only [Act.put, List.setIfInBounds_toArray, List.set_cons_zero, List.set_cons_succ])
          refine wpAnyH_ready (rs := [6]) (by kernel_rfl) (by simp) ?_
          refine AllReadyH.cons (o := ?_) ?_ (fun K hK => ?_) AllReadyH.nil
          rotate_left
          · simp only [List.getElem?_toArray, List.getElem?_cons_zero, List.getElem?_cons_succ]; rfl
          obtain ⟨va6, wa6, ra6, ta6⟩ := T2.out.putL A2 l2 n2 c2 S2.out Hn2.out (by simp only [List.nil_append]; omega)
          refine step_app10 (.tmp 59) (.tmp 61) rfl (by kernel_rfl) ra6 ?_
          refine hK.out _ _ ta6.x (fun h => ?_)
          have T2 := Lib.hid ta6
          clear ra6 ta6
          clear hK K
          (try simp only [Act.put, List.setIfInBounds_toArray, List.set_cons_zero, List.set_cons_succ])
          refine wpAnyH_ready (rs := [10]) (by kernel_rfl) (by simp) ?_
          refine AllReadyH.cons (o := ?_) ?_ (fun K hK => ?_) AllReadyH.nil
          rotate_left
          · simp only [List.getElem?_toArray, List.getElem?_cons_zero, List.getElem?_cons_succ]; rfl
          obtain ⟨va10, wa10, ra10, ta10⟩ := T2.out.putM B1 m1 q1 d1 R1.out Hq1.out (by simp only [List.length_nil, Nat.zero_add]; omega)
          refine step_app10 (.tmp 63) (.tmp 65) rfl (by kernel_rfl) ra10 ?_
          refine hK.out _ _ ta10.x (fun h => ?_)
          have T2 := Lib.hid ta10
          clear ra10 ta10
          clear hK K
          (try simp only [Act.put, List.setIfInBounds_toArray, List.set_cons_zero, List.set_cons_succ])
          refine wpAnyH_ready (rs := [13]) (by kernel_rfl) (by simp) ?_
          refine AllReadyH.cons (o := ?_) ?_ (fun K hK => ?_) AllReadyH.nil
          rotate_left
          · simp only [List.getElem?_toArray, List.getElem?_cons_zero, List.getElem?_cons_succ]; rfl
          obtain ⟨va13, wa13, ra13, ta13⟩ := T2.out.putM B2 m2 q2 d2 R2.out Hq2.out (by simp only [List.nil_append]; omega)
          refine step_app10 (.tmp 66) (.tmp 68) rfl (by kernel_rfl) ra13 ?_
          refine hK.out _ _ ta13.x (fun h => ?_)
          have T2 := Lib.hid ta13
          clear ra13 ta13
          clear hK K
          (try simp only [Act.put, List.setIfInBounds_toArray, List.set_cons_zero, List.set_cons_succ])
          obtain ⟨Al, cl, Am, cm, e1, e2⟩ := T2.out.shape nL qL HnL.out HqL.out
          subst e1 e2
          refine wpAnyH_take (i := 14) (oi := ?_) (v := ?_) ?_ (by kernel_rfl) (by kernel_rfl) (by kernel_rfl) ?_ ?_ h ?_
          rotate_left 2
          · simp only [List.getElem?_toArray, List.getElem?_cons_zero, List.getElem?_cons_succ]; rfl
          · exact fun _ _ _ h => h
          · refine Or.inl ⟨by rfl, ?_⟩
            intro w hSw
            (try dsimp only at hSw)
            go_simp
            (try with_reducible rfl)
          (try simp only [Act.put, List.setIfInBounds_toArray, List.set_cons_zero, List.set_cons_succ])
          obtain ⟨Al, cl, Am, cm, e1, e2, _, _, _, _, hx9, hb9, hs9⟩ := T2.out.done HIN.out nL qL HnL.out HqL.out
          cases e1
          cases e2
          refine wpAnyH_ready (rs := [16]) (by kernel_rfl) (by simp) ?_
          refine AllReadyH.cons (o := ?_) ?_ (fun K hK => ?_) AllReadyH.nil
          rotate_left
          · simp only [List.getElem?_toArray, List.getElem?_cons_zero, List.getElem?_cons_succ]; rfl
          refine step_store10 27 _ _ rfl _ #[_, _] rfl rfl (T2.out.box _ rfl).1.there (by kernel_rfl) (by simp [Value.oneCell']) (by kernel_rfl) ?_
          refine hK.out _ _ hx9 (fun h => ?_)
          clear hK K
          (try simp only [Act.put])
          refine wpAnyH_done (by kernel_rfl) ?_ _
          refine NoPanic.normal ?_
          go_wp2_with fail
          go_meet
          exact FIN.out _ _ _ _ _ _ hx9 hb9 hs9
        refine AllReadyH.cons (o := ?_) ?_ (fun K hK => ?_) ?_
        rotate_left
        · simp only [List.getElem?_toArray, List.getElem?_cons_zero, List.getElem?_cons_succ]; rfl
        · go_simp
          refine hK.out _ _ (T2.out.x.alloc _) (fun h => ?_)
          have T2 := Lib.hid T2.out.litM
          generalize x1.alloc (.cells #[] 45) = x16 at T2 h ⊢
          clear hK K
          (try simp only [Act.put, List.setIfInBounds_toArray, List.set_cons_zero, List.set_cons_succ])
          refine wpAnyH_ready (rs := [3, 15]) (by kernel_rfl) (by simp) ?_
          refine AllReadyH.cons (o := ?_) ?_ (fun K hK => ?_) ?_
          rotate_left
          · simp only [List.getElem?_toArray, List.getElem?_cons_zero, List.getElem?_cons_succ]; rfl
          · obtain ⟨va3, wa3, ra3, ta3⟩ := T2.out.putL A1 l1 n1 c1 S1.out Hn1.out (by simp only [List.length_nil, Nat.zero_add]; omega)
            refine step_app10 (.tmp 56) (.tmp 58) rfl (by kernel_rfl) ra3 ?_
            refine hK.out _ _ ta3.x (fun h => ?_)
            have T2 := Lib.hid ta3
            clear ra3 ta3
            clear hK K
            (try simp only [Act.put, List.setIfInBounds_toArray, List.set_cons_zero, List.set_cons_succ])
            refine wpAnyH_ready (rs := [6, 15]) (by kernel_rfl) (by simp) ?_
            refine AllReadyH.cons (o := ?_) ?_ (fun K hK => ?_) ?_
            rotate_left
            · simp only [List.getElem?_toArray, List.getElem?_cons_zero, List.getElem?_cons_succ]; rfl
            · obtain ⟨va6, wa6, ra6, ta6⟩ := T2.out.putL A2 l2 n2 c2 S2.out Hn2.out (by simp only [List.nil_append]; omega)
              refine step_app10 (.tmp 59) (.tmp 61) rfl (by kernel_rfl) ra6 ?_
              refine hK.out _ _ ta6.x (fun h => ?_)
              have T2 := Lib.hid ta6
              clear ra6 ta6
              clear hK K
              (try simp only [Act.put, List.setIfInBounds_toArray, List.set_cons_zero, List.set_cons_succ])
              refine wpAnyH_ready (rs := [10, 15]) (by kernel_rfl) (by simp) ?_
              refine AllReadyH.cons (o := ?_) ?_ (fun K hK => ?_) ?_
              rotate_left
              · simp only [List.getElem?_toArray, List.getElem?_cons_zero, List.getElem?_cons_succ]; rfl
              · obtain ⟨va10, wa10, ra10, ta10⟩ := T2.out.putM B1 m1 q1 d1 R1.out Hq1.out (by simp only [List.length_nil, Nat.zero_add]; omega)
                refine step_app10 (.tmp 63) (.tmp 65) rfl (by kernel_rfl) ra10 ?_
                refine hK.out _ _ ta10.x (fun h => ?_)
                have T2 := Lib.hid ta10
                clear ra10 ta10
                clear hK K
                (try simp only [Act.put, List.setIfInBounds_toArray, List.set_cons_zero, List.set_cons_succ])
                refine wpAnyH_ready (rs := [13, 15]) (by kernel_rfl) (by simp) ?_
                refine AllReadyH.cons (o := ?_) ?_ (fun K hK => ?_) ?_
                rotate_left
                · simp only [List.getElem?_toArray, List.getElem?_cons_zero, List.getElem?_cons_succ]; rfl
                · obtain ⟨va13, wa13, ra13, ta13⟩ := T2.out.putM B2 m2 q2 d2 R2.out Hq2.out (by simp only [List.nil_append]; omega)
                  refine step_app10 (.tmp 66) (.tmp 68) rfl (by kernel_rfl) ra13 ?_
                  refine hK.out _ _ ta13.x (fun h => ?_)
                  have T2 := Lib.hid ta13
                  clear ra13 ta13
                  clear hK K
                  (try simp only [Act.put, List.setIfInBounds_toArray, List.set_cons_zero, List.set_cons_succ])
                  obtain ⟨Al, cl, Am, cm, e1, e2⟩ := T2.out.shape nL qL HnL.out HqL.out
                  subst e1 e2
                  refine wpAnyH_take (i := 14) (oi := ?_) (v := ?_) ?_ (by kernel_rfl) (by kernel_rfl) (by kernel_rfl) ?_ ?_ h ?_
                  rotate_left 2
                  · simp only [List.getElem?_toArray, List.getElem?_cons_zero, List.getElem?_cons_succ]; rfl
                  · exact fun _ _ _ h => h
                  · refine Or.inl ⟨by rfl, ?_⟩
                    intro w hSw
                    (try dsimp only at hSw)
                    go_simp
                    (try with_reducible rfl)
                  (try simp only [Act.put, List.setIfInBounds_toArray, List.set_cons_zero, List.set_cons_succ])
                  refine wpAnyH_ready (rs := [15]) (by kernel_rfl) (by simp) ?_
                  refine AllReadyH.cons (o := ?_) ?_ (fun K hK => ?_) AllReadyH.nil
                  rotate_left
                  · simp only [List.getElem?_toArray, List.getElem?_cons_zero, List.getElem?_cons_succ]; rfl
                  go_simp
                  refine hK.out _ _ (T2.out.x.alloc _) (fun h => ?_)
                  have T2 := Lib.hid T2.out.var
                  generalize wa13.alloc (.cells #[.slice none 0 0, .slice none 0 0] 27) = x17 at T2 h ⊢
                  clear hK K
                  (try simp only [Act.put, List.setIfInBounds_toArray, List.set_cons_zero, List.set_cons_succ])
                  obtain ⟨Al, cl, Am, cm, e1, e2, _, _, _, _, hx9, hb9, hs9⟩ := T2.out.done HIN.out nL qL HnL.out HqL.out
                  cases e1
                  cases e2
                  refine wpAnyH_ready (rs := [16]) (by kernel_rfl) (by simp) ?_
                  refine AllReadyH.cons (o := ?_) ?_ (fun K hK => ?_) AllReadyH.nil
                  rotate_left
                  · simp only [List.getElem?_toArray, List.getElem?_cons_zero, List.getElem?_cons_succ]; rfl
                  refine step_store10 27 _ _ rfl _ #[_, _] rfl rfl (T2.out.box _ rfl).1.there (by kernel_rfl) (by simp [Value.oneCell']) (by kernel_rfl) ?_
                  refine hK.out _ _ hx9 (fun h => ?_)
                  clear hK K
                  (try simp only [Act.put])
                  refine wpAnyH_done (by kernel_rfl) ?_ _
                  refine NoPanic.normal ?_
                  go_wp2_with fail
                  go_meet
                  exact FIN.out _ _ _ _ _ _ hx9 hb9 hs9
                refine AllReadyH.cons (o := ?_) ?_ (fun K hK => ?_) AllReadyH.nil
                rotate_left
                · simp only [List.getElem?_toArray, List.getElem?_cons_zero, List.getElem?_cons_succ]; rfl
                go_simp
                refine hK.out _ _ (T2.out.x.alloc _) (fun h => ?_)
                have T2 := Lib.hid T2.out.var
                generalize wa10.alloc (.cells #[.slice none 0 0, .slice none 0 0] 27) = x18 at T2 h ⊢
                clear hK K
                (try simp only [Act.put, List.setIfInBounds_toArray, List.set_cons_zero, List.set_cons_succ])
                refine wpAnyH_ready (rs := [13]) (by kernel_rfl) (by simp) ?_
                refine AllReadyH.cons (o := ?_) ?_ (fun K hK => ?_) AllReadyH.nil
                rotate_left
                · simp only [List.getElem?_toArray, List.getElem?_cons_zero, List.getElem?_cons_succ]; rfl
                obtain ⟨va13, wa13, ra13, ta13⟩ := T2.out.putM B2 m2 q2 d2 R2.out Hq2.out (by simp only [List.nil_append]; omega)
                refine step_app10 (.tmp 66) (.tmp 68) rfl (by kernel_rfl) ra13 ?_
                refine hK.out _ _ ta13.x (fun h => ?_)
                have T2 := Lib.hid ta13
                clear ra13 ta13
                clear hK K
                (try simp only [Act.put, List.setIfInBounds_toArray, List.set_cons_zero, List.set_cons_succ])
                obtain ⟨Al, cl, Am, cm, e1, e2⟩ := T2.out.shape nL qL HnL.out HqL.out
                subst e1 e2
                refine wpAnyH_take (i := 14) (oi := ?_) (v := ?_) ?_ (by kernel_rfl) (by kernel_rfl) (by kernel_rfl) ?_ ?_ h ?_
                rotate_left 2
                · simp only [List.getElem?_toArray, List.getElem?_cons_zero, List.getElem?_cons_succ]; rfl
                · exact fun _ _ _ h => h
                · refine Or.inl ⟨by rfl, ?_⟩
                  intro w hSw
                  (try dsimp only at hSw)
                  go_simp
                  (try with_reducible rfl)
                (try simp only [Act.put, List.setIfInBounds_toArray, List.set_cons_zero, List.set_cons_succ])
                obtain ⟨Al, cl, Am, cm, e1, e2, _, _, _, _, hx9, hb9, hs9⟩ := T2.out.done HIN.out nL qL HnL.out HqL.out
                cases e1
                cases e2
                refine wpAnyH_ready (rs := [16]) (by kernel_rfl) (by simp) ?_
                refine AllReadyH.cons (o := ?_) ?_ (fun K hK => ?_) AllReadyH.nil
                rotate_left
                · simp only [List.getElem?_toArray, List.getElem?_cons_zero, List.getElem?_cons_succ]; rfl
                refine step_store10 27 _ _ rfl _ #[_, _] rfl rfl (T2.out.box _ rfl).1.there (by kernel_rfl) (by simp [Value.oneCell']) (by kernel_rfl) ?_
                refine hK.out _ _ hx9 (fun h => ?_)
                clear hK K
                (try simp only [Act.put])
                refine wpAnyH_done (by kernel_rfl) ?_ _
                refine NoPanic.normal ?_
                go_wp2_with fail
                go_meet
                exact FIN.out _ _ _ _ _ _ hx9 hb9 hs9
              refine AllReadyH.cons (o := ?_) ?_ (fun K hK => ?_) AllReadyH.nil
              rotate_left
              · simp only [List.getElem?_toArray, List.getElem?_cons_zero, List.getElem?_cons_succ]; rfl
              go_simp
              refine hK.out _ _ (T2.out.x.alloc _) (fun h => ?_)
              have T2 := Lib.hid T2.out.var
              generalize wa6.alloc (.cells #[.slice none 0 0, .slice none 0 0] 27) = x19 at T2 h ⊢
              clear hK K
              (try simp only [Act.put, List.setIfInBounds_toArray, List.set_cons_zero, List.set_cons_succ])
              refine wpAnyH_ready (rs := [10]) (by kernel_rfl) (by simp) ?_
              refine AllReadyH.cons (o := ?_) ?_ (fun K hK => ?_) AllReadyH.nil
              rotate_left
              · simp only [List.getElem?_toArray, List.getElem?_cons_zero, List.getElem?_cons_succ]; rfl
              obtain ⟨va10, wa10, ra10, ta10⟩ := T2.out.putM B1 m1 q1 d1 R1.out Hq1.out (by simp only [List.length_nil, Nat.zero_add]; omega)
              refine step_app10 (.tmp 63) (.tmp 65) rfl (by kernel_rfl) ra10 ?_
              refine hK.out _ _ ta10.x (fun h => ?_)
              have T2 := Lib.hid ta10
              clear ra10 ta10
              clear hK K
              (try simp only [Act.put, List.setIfInBounds_toArray, List.set_cons_zero, List.set_cons_succ])
              refine wpAnyH_ready (rs := [13]) (by kernel_rfl) (by simp) ?_
              refine AllReadyH.cons (o := ?_) ?_ (fun K hK => ?_) AllReadyH.nil
              rotate_left
              · simp only [List.getElem?_toArray, List.getElem?_cons_zero, List.getElem?_cons_succ]; rfl
              obtain ⟨va13, wa13, ra13, ta13⟩ := T2.out.putM B2 m2 q2 d2 R2.out Hq2.out (by simp only [List.nil_append]; omega)
              refine step_app10 (.tmp 66) (.tmp 68) rfl (by kernel_rfl) ra13 ?_
              refine hK.out _ _ ta13.x (fun h => ?_)
              have T2 := Lib.hid ta13
              clear ra13 ta13
              clear hK K
              (try simp only [Act.put, List.setIfInBounds_toArray, List.set_cons_zero, List.set_cons_succ])
              obtain ⟨Al, cl, Am, cm, e1, e2⟩ := T2.out.shape nL qL HnL.out HqL.out
              subst e1 e2
              refine wpAnyH_take (i := 14) (oi := ?_) (v := ?_) ?_ (by kernel_rfl) (by kernel_rfl) (by kernel_rfl) ?_ ?_ h ?_
              rotate_left 2
              · simp only [List.getElem?_toArray, List.getElem?_cons_zero, List.getElem?_cons_succ]; rfl
              · exact fun _ _ _ h => h
              · refine Or.inl ⟨by rfl, ?_⟩
                intro w hSw
                (try dsimp only at hSw)
                go_simp
                (try with_reducible rfl)
              (try simp only [Act.put, List.setIfInBounds_toArray, List.set_cons_zero, List.set_cons_succ])
              obtain ⟨Al, cl, Am, cm, e1, e2, _, _, _, _, hx9, hb9, hs9⟩ := T2.out.done HIN.out nL qL HnL.out HqL.out
              cases e1
              cases e2
              refine wpAnyH_ready (rs := [16]) (by kernel_rfl) (by simp) ?_
              refine AllReadyH.cons (o := ?_) ?_ (fun K hK => ?_) AllReadyH.nil
              rotate_left
              · simp only [List.getElem?_toArray, List.getElem?_cons_zero, List.getElem?_cons_succ]; rfl
              refine step_store10 27 _ _ rfl _ #[_, _] rfl rfl (T2.out.box _ rfl).1.there (by kernel_rfl) (by simp [Value.oneCell']) (by kernel_rfl) ?_
              refine hK.out _ _ hx9 (fun h => ?_)
              clear hK K
              (try simp only [Act.put])
              refine wpAnyH_done (by kernel_rfl) ?_ _
              refine NoPanic.normal ?_
              go_wp2_with fail
              go_meet
              exact FIN.out _ _ _ _ _ _ hx9 hb9 hs9
            refine AllReadyH.cons (o := ?_) ?_ (fun K hK => ?_) AllReadyH.nil
            rotate_left
            · simp only [List.getElem?_toArray, List.getElem?_cons_zero, List.getElem?_cons_succ]; rfl
            go_simp
            refine hK.out _ _ (T2.out.x.alloc _) (fun h => ?_)
            have T2 := Lib.hid T2.out.var
            generalize wa3.alloc (.cells #[.slice none 0 0, .slice none 0 0] 27) = x20 at T2 h ⊢
            clear hK K
            (try simp only [Act.put, List.setIfInBounds_toArray, List.set_cons_zero, List.set_cons_succ])
            refine wpAnyH_ready (rs := [6]) (by kernel_rfl) (by simp) ?_
            refine AllReadyH.cons (o := ?_) ?_ (fun K hK => ?_) AllReadyH.nil
            rotate_left
            · simp only [List.getElem?_toArray, List.getElem?_cons_zero, List.getElem?_cons_succ]; rfl
            obtain ⟨va6, wa6, ra6, ta6⟩ := T2.out.putL A2 l2 n2 c2 S2.out Hn2.out (by simp only [List.nil_append]; omega)
            refine step_app10 (.tmp 59) (.tmp 61) rfl (by kernel_rfl) ra6 ?_
            refine hK.out _ _ ta6.x (fun h => ?_)
            have T2 := Lib.hid ta6
            clear ra6 ta6
            clear hK K
            (try simp only [Act.put, List.setIfInBounds_toArray, List.set_cons_zero, List.set_cons_succ])
            refine wpAnyH_ready (rs := [10]) (by kernel_rfl) (by simp) ?_
            refine AllReadyH.cons (o := ?_) ?_ (fun K hK => ?_) AllReadyH.nil
            rotate_left
            · simp only [List.getElem?_toArray, List.getElem?_cons_zero, List.getElem?_cons_succ]; rfl
            obtain ⟨va10, wa10, ra10, ta10⟩ := T2.out.putM B1 m1 q1 d1 R1.out Hq1.out (by simp only [List.length_nil, Nat.zero_add]; omega)
            refine step_app10 (.tmp 63) (.tmp 65) rfl (by kernel_rfl) ra10 ?_
            refine hK.out _ _ ta10.x (fun h => ?_)
            have T2 := Lib.hid ta10
            clear ra10 ta10
            clear hK K
            (try simp only [Act.put, List.setIfInBounds_toArray, List.set_cons_zero, List.set_cons_succ])
            refine wpAnyH_ready (rs := [13]) (by kernel_rfl) (by simp) ?_
            refine AllReadyH.cons (o := ?_) ?_ (fun K hK => ?_) AllReadyH.nil
            rotate_left
            · simp only [List.getElem?_toArray, List.getElem?_cons_zero, List.getElem?_cons_succ]; rfl
            obtain ⟨va13, wa13, ra13, ta13⟩ := T2.out.putM B2 m2 q2 d2 R2.out Hq2.out (by simp only [List.nil_append]; omega)
            refine step_app10 (.tmp 66) (.tmp 68) rfl (by kernel_rfl) ra13 ?_
            refine hK.out _ _ ta13.x (fun h => ?_)
            have T2 := Lib.hid ta13
            clear ra13 ta13
            clear hK K
            (try simp only [Act.put, List.setIfInBounds_toArray, List.set_cons_zero, List.set_cons_succ])
            obtain ⟨Al, cl, Am, cm, e1, e2⟩ := T2.out.shape nL qL HnL.out HqL.out
            subst e1 e2
            refine wpAnyH_take (i := 14) (oi := ?_) (v := ?_) ?_ (by kernel_rfl) (by kernel_rfl) (by kernel_rfl) ?_ ?_ h ?_
            rotate_left 2
            · simp only [List.getElem?_toArray, List.getElem?_cons_zero, List.getElem?_cons_succ]; rfl
            · exact fun _ _ _ h => h
            · refine Or.inl ⟨by rfl, ?_⟩
              intro w hSw
              (try dsimp only at hSw)
              go_simp
              (try with_reducible rfl)
            (try simp only [Act.put, List.setIfInBounds_toArray, List.set_cons_zero, List.set_cons_succ])
            obtain ⟨Al, cl, Am, cm, e1, e2, _, _, _, _, hx9, hb9, hs9⟩ := T2.out.done HIN.out nL qL HnL.out HqL.out
            cases e1
            cases e2
            refine wpAnyH_ready (rs := [16]) (by kernel_rfl) (by simp) ?_
            refine AllReadyH.cons (o := ?_) ?_ (fun K hK => ?_) AllReadyH.nil
            rotate_left
            · simp only [List.getElem?_toArray, List.getElem?_cons_zero, List.getElem?_cons_succ]; rfl
            refine step_store10 27 _ _ rfl _ #[_, _] rfl rfl (T2.out.box _ rfl).1.there (by kernel_rfl) (by simp [Value.oneCell']) (by kernel_rfl) ?_
            refine hK.out _ _ hx9 (fun h => ?_)
            clear hK K
            (try simp only [Act.put])
            refine wpAnyH_done (by kernel_rfl) ?_ _
            refine NoPanic.normal ?_
            go_wp2_with fail
            go_meet
            exact FIN.out _ _ _ _ _ _ hx9 hb9 hs9
          refine AllReadyH.cons (o := ?_) ?_ (fun K hK => ?_) AllReadyH.nil
          rotate_left
          · simp only [List.getElem?_toArray, List.getElem?_cons_zero, List.getElem?_cons_succ]; rfl
          go_simp
          refine hK.out _ _ (T2.out.x.alloc _) (fun h => ?_)
          have T2 := Lib.hid T2.out.var
          generalize x16.alloc (.cells #[.slice none 0 0, .slice none 0 0] 27) = x21 at T2 h ⊢
          clear hK K
          (try simp only [Act.put, List.setIfInBounds_toArray, List.set_cons_zero, List.set_cons_succ])
          refine wpAnyH_ready (rs := [3]) (by kernel_rfl) (by simp) ?_
          refine AllReadyH.cons (o := ?_) ?_ (fun K hK => ?_) AllReadyH.nil
          rotate_left
          · simp only [List.getElem?_toArray, List.getElem?_cons_zero, List.getElem?_cons_succ]; rfl
          obtain ⟨va3, wa3, ra3, ta3⟩ := T2.out.putL A1 l1 n1 c1 S1.out Hn1.out (by simp only [List.length_nil, Nat.zero_add]; omega)
          refine step_app10 (.tmp 56) (.tmp 58) rfl (by kernel_rfl) ra3 ?_
          refine hK.out _ _ ta3.x (fun h => ?_)
          have T2 := Lib.hid ta3
          clear ra3 ta3
          clear hK K
          (try simp only [Act.put, List.setIfInBounds_toArray, List.set_cons_zero, List.set_cons_succ])
          refine wpAnyH_ready (rs := [6]) (by kernel_rfl) (by simp) ?_
          refine AllReadyH.cons (o := ?_) ?_ (fun K hK => ?_) AllReadyH.nil
          rotate_left
          · simp only [List.getElem?_toArray, List.getElem?_cons_zero, List.getElem?_cons_succ]; rfl
          obtain ⟨va6, wa6, ra6, ta6⟩ := T2.out.putL A2 l2 n2 c2 S2.out Hn2.out (by simp only [List.nil_append]; omega)
          refine step_app10 (.tmp 59) (.tmp 61) rfl (by kernel_rfl) ra6 ?_
          refine hK.out _ _ ta6.x (fun h => ?_)
          have T2 := Lib.hid ta6
          clear ra6 ta6
          clear hK K
          (try simp only [Act.put, List.setIfInBounds_toArray, List.set_cons_zero, List.set_cons_succ])
          refine wpAnyH_ready (rs := [10]) (by kernel_rfl) (by simp) ?_
          refine AllReadyH.cons (o := ?_) ?_ (fun K hK => ?_) AllReadyH.nil
          rotate_left
          · simp only [List.getElem?_toArray, List.getElem?_cons_zero, List.getElem?_cons_succ]; rfl
          obtain ⟨va10, wa10, ra10, ta10⟩ := T2.out.putM B1 m1 q1 d1 R1.out Hq1.out (by simp only [List.length_nil, Nat.zero_add]; omega)
          refine step_app10 (.tmp 63) (.tmp 65) rfl (by kernel_rfl) ra10 ?_
          refine hK.out _ _ ta10.x (fun h => ?_)
          have T2 := Lib.hid ta10
          clear ra10 ta10
          clear hK K
          (try simp only [Act.put, List.setIfInBounds_toArray, List.set_cons_zero, List.set_cons_succ])
          refine wpAnyH_ready (rs := [13]) (by kernel_rfl) (by simp) ?_
          refine AllReadyH.cons (o := ?_) ?_ (fun K hK => ?_) AllReadyH.nil
          rotate_left
          · simp only [List.getElem?_toArray, List.getElem?_cons_zero, List.getElem?_cons_succ]; rfl
          obtain ⟨va13, wa13, ra13, ta13⟩ := T2.out.putM B2 m2 q2 d2 R2.out Hq2.out (by simp only [List.nil_append]; omega)
          refine step_app10 (.tmp 66) (.tmp 68) rfl (by kernel_rfl) ra13 ?_
          refine hK.out _ _ ta13.x (fun h => ?_)
          have T2 := Lib.hid ta13
          clear ra13 ta13
          clear hK K
          (try simp only [Act.put, List.setIfInBounds_toArray, List.set_cons_zero, List.set_cons_succ])
          obtain ⟨Al, cl, Am, cm, e1, e2⟩ := T2.out.shape nL qL HnL.out HqL.out
          subst e1 e2
          refine wpAnyH_take (i := 14) (oi := ?_) (v := ?_) ?_ (by kernel_rfl) (by kernel_rfl) (by kernel_rfl) ?_ ?_ h ?_
          rotate_left 2
          · simp only [List.getElem?_toArray, List.getElem?_cons_zero, List.getElem?_cons_succ]; rfl
          · exact fun _ _ _ h => h
          · refine Or.inl ⟨by rfl, ?_⟩
            intro w hSw
            (try dsimp only at hSw)
            go_simp
            (try with_reducible rfl)
          (try simp only [Act.put, List.setIfInBounds_toArray, List.set_cons_zero, List.set_cons_succ])
          obtain ⟨Al, cl, Am, cm, e1, e2, _, _, _, _, hx9, hb9, hs9⟩ := T2.out.done HIN.out nL qL HnL.out HqL.out
          cases e1
          cases e2
          refine wpAnyH_ready (rs := [16]) (by kernel_rfl) (by simp) ?_
          refine AllReadyH.cons (o := ?_) ?_ (fun K hK => ?_) AllReadyH.nil
          rotate_left
          · simp only [List.getElem?_toArray, List.getElem?_cons_zero, List.getElem?_cons_succ]; rfl
          refine step_store10 27 _ _ rfl _ #[_, _] rfl rfl (T2.out.box _ rfl).1.there (by kernel_rfl) (by simp [Value.oneCell']) (by kernel_rfl) ?_
          refine hK.out _ _ hx9 (fun h => ?_)
          clear hK K
          (try simp only [Act.put])
          refine wpAnyH_done (by kernel_rfl) ?_ _
          refine NoPanic.normal ?_
          go_wp2_with fail
          go_meet
          exact FIN.out _ _ _ _ _ _ hx9 hb9 hs9
        refine AllReadyH.cons (o := ?_) ?_ (fun K hK => ?_) AllReadyH.nil
        rotate_left
        · simp only [List.getElem?_toArray, List.getElem?_cons_zero, List.getElem?_cons_succ]; rfl
        go_simp
        refine hK.out _ _ (T2.out.x.alloc _) (fun h => ?_)
        have T2 := Lib.hid T2.out.var
        generalize x1.alloc (.cells #[.slice none 0 0, .slice none 0 0] 27) = x22 at T2 h ⊢
        clear hK K
        (try simp only [Act.put, List.setIfInBounds_toArray, List.set_cons_zero, List.set_cons_succ])
        refine wpAnyH_ready (rs := [3, 7]) (by kernel_rfl) (by simp) ?_
        refine AllReadyH.cons (o := ?_) ?_ (fun K hK => ?_) ?_
        rotate_left
        · simp only [List.getElem?_toArray, List.getElem?_cons_zero, List.getElem?_cons_succ]; rfl
        · obtain ⟨va3, wa3, ra3, ta3⟩ := T2.out.putL A1 l1 n1 c1 S1.out Hn1.out (by simp only [List.length_nil, Nat.zero_add]; omega)
          refine step_app10 (.tmp 56) (.tmp 58) rfl (by kernel_rfl) ra3 ?_
          refine hK.out _ _ ta3.x (fun h => ?_)
          have T2 := Lib.hid ta3
          clear ra3 ta3
          clear hK K
          (try simp only [Act.put, List.setIfInBounds_toArray, List.set_cons_zero, List.set_cons_succ])
          refine wpAnyH_ready (rs := [6, 7]) (by kernel_rfl) (by simp) ?_
          refine AllReadyH.cons (o := ?_) ?_ (fun K hK => ?_) ?_
          rotate_left
          · simp only [List.getElem?_toArray, List.getElem?_cons_zero, List.getElem?_cons_succ]; rfl
          · obtain ⟨va6, wa6, ra6, ta6⟩ := T2.out.putL A2 l2 n2 c2 S2.out Hn2.out (by simp only [List.nil_append]; omega)
            refine step_app10 (.tmp 59) (.tmp 61) rfl (by kernel_rfl) ra6 ?_
            refine hK.out _ _ ta6.x (fun h => ?_)
            have T2 := Lib.hid ta6
            clear ra6 ta6
            clear hK K
            (try simp only [Act.put, List.setIfInBounds_toArray, List.set_cons_zero, List.set_cons_succ])
            refine wpAnyH_ready (rs := [7]) (by kernel_rfl) (by simp) ?_
            refine AllReadyH.cons (o := ?_) ?_ (fun K hK => ?_) AllReadyH.nil
            rotate_left
            · simp only [List.getElem?_toArray, List.getElem?_cons_zero, List.getElem?_cons_succ]; rfl
            go_simp
            refine hK.out _ _ (T2.out.x.alloc _) (fun h => ?_)
            have T2 := Lib.hid T2.out.litM
            generalize wa6.alloc (.cells #[] 45) = x23 at T2 h ⊢
            clear hK K
            (try simp only [Act.put, List.setIfInBounds_toArray, List.set_cons_zero, List.set_cons_succ])
            refine wpAnyH_ready (rs := [10]) (by kernel_rfl) (by simp) ?_
            refine AllReadyH.cons (o := ?_) ?_ (fun K hK => ?_) AllReadyH.nil
            rotate_left
            · simp only [List.getElem?_toArray, List.getElem?_cons_zero, List.getElem?_cons_succ]; rfl
            obtain ⟨va10, wa10, ra10, ta10⟩ := T2.out.putM B1 m1 q1 d1 R1.out Hq1.out (by simp only [List.length_nil, Nat.zero_add]; omega)
            refine step_app10 (.tmp 63) (.tmp 65) rfl (by kernel_rfl) ra10 ?_
            refine hK.out _ _ ta10.x (fun h => ?_)
            have T2 := Lib.hid ta10
            clear ra10 ta10
            clear hK K
            (try simp only [Act.put, List.setIfInBounds_toArray, List.set_cons_zero, List.set_cons_succ])
            refine wpAnyH_ready (rs := [13]) (by kernel_rfl) (by simp) ?_
            refine AllReadyH.cons (o := ?_) ?_ (fun K hK => ?_) AllReadyH.nil
            rotate_left
            · simp only [List.getElem?_toArray, List.getElem?_cons_zero, List.getElem?_cons_succ]; rfl
            obtain ⟨va13, wa13, ra13, ta13⟩ := T2.out.putM B2 m2 q2 d2 R2.out Hq2.out (by simp only [List.nil_append]; omega)
            refine step_app10 (.tmp 66) (.tmp 68) rfl (by kernel_rfl) ra13 ?_
            refine hK.out _ _ ta13.x (fun h => ?_)
            have T2 := Lib.hid ta13
            clear ra13 ta13
            clear hK K
            (try simp only [Act.put, List.setIfInBounds_toArray, List.set_cons_zero, List.set_cons_succ])
            obtain ⟨Al, cl, Am, cm, e1, e2⟩ := T2.out.shape nL qL HnL.out HqL.out
            subst e1 e2
            refine wpAnyH_take (i := 14) (oi := ?_) (v := ?_) ?_ (by kernel_rfl) (by kernel_rfl) (by kernel_rfl) ?_ ?_ h ?_
            rotate_left 2
            · simp only [List.getElem?_toArray, List.getElem?_cons_zero, List.getElem?_cons_succ]; rfl
            · exact fun _ _ _ h => h
            · refine Or.inl ⟨by rfl, ?_⟩
              intro w hSw
              (try dsimp only at hSw)
              go_simp
              (try with_reducible rfl)
            (try simp only [Act.put, List.setIfInBounds_toArray, List.set_cons_zero, List.set_cons_succ])
            obtain ⟨Al, cl, Am, cm, e1, e2, _, _, _, _, hx9, hb9, hs9⟩ := T2.out.done HIN.out nL qL HnL.out HqL.out
            cases e1
            cases e2
            refine wpAnyH_ready (rs := [16]) (by kernel_rfl) (by simp) ?_
            refine AllReadyH.cons (o := ?_) ?_ (fun K hK => ?_) AllReadyH.nil
            rotate_left
            · simp only [List.getElem?_toArray, List.getElem?_cons_zero, List.getElem?_cons_succ]; rfl
            refine step_store10 27 _ _ rfl _ #[_, _] rfl rfl (T2.out.box _ rfl).1.there (by kernel_rfl) (by simp [Value.oneCell']) (by kernel_rfl) ?_
            refine hK.out _ _ hx9 (fun h => ?_)
            clear hK K
            (try simp only [Act.put])
            refine wpAnyH_done (by kernel_rfl) ?_ _
            refine NoPanic.normal ?_
            go_wp2_with fail
            go_meet
            exact FIN.out _ _ _ _ _ _ hx9 hb9 hs9
          refine AllReadyH.cons (o := ?_) ?_ (fun K hK => ?_) AllReadyH.nil
          rotate_left
          · simp only [List.getElem?_toArray, List.getElem?_cons_zero, List.getElem?_cons_succ]; rfl
          go_simp
          refine hK.out _ _ (T2.out.x.alloc _) (fun h => ?_)
          have T2 := Lib.hid T2.out.litM
          generalize wa3.alloc (.cells #[] 45) = x24 at T2 h ⊢
          clear hK K
          (try simp only [Act.put, List.setIfInBounds_toArray, List.set_cons_zero, List.set_cons_succ])
          refine wpAnyH_ready (rs := [6]) (by kernel_rfl) (by simp) ?_
          refine AllReadyH.cons (o := ?_) ?_ (fun K hK => ?_) AllReadyH.nil
          rotate_left
          · simp only [List.getElem?_toArray, List.getElem?_cons_zero, List.getElem?_cons_succ]; rfl
          obtain ⟨va6, wa6, ra6, ta6⟩ := T2.out.putL A2 l2 n2 c2 S2.out Hn2.out (by simp only [List.nil_append]; omega)
          refine step_app10 (.tmp 59) (.tmp 61) rfl (by kernel_rfl) ra6 ?_
          refine hK.out _ _ ta6.x (fun h => ?_)
          have T2 := Lib.hid ta6
          clear ra6 ta6
          clear hK K
          (try simp only [Act.put, List.setIfInBounds_toArray, List.set_cons_zero, List.set_cons_succ])
          refine wpAnyH_ready (rs := [10]) (by kernel_rfl) (by simp) ?_
          refine AllReadyH.cons (o := ?_) ?_ (fun K hK => ?_) AllReadyH.nil
          rotate_left
          · simp only [List.getElem?_toArray, List.getElem?_cons_zero, List.getElem?_cons_succ]; rfl
          obtain ⟨va10, wa10, ra10, ta10⟩ := T2.out.putM B1 m1 q1 d1 R1.out Hq1.out (by simp only [List.length_nil, Nat.zero_add]; omega)
          refine step_app10 (.tmp 63) (.tmp 65) rfl (by kernel_rfl) ra10 ?_
          refine hK.out _ _ ta10.x (fun h => ?_)
          have T2 := Lib.hid ta10
          clear ra10 ta10
          clear hK K
          (try simp only [Act.put, List.setIfInBounds_toArray, List.set_cons_zero, List.set_cons_succ])
          refine wpAnyH_ready (rs := [13]) (by kernel_rfl) (by simp) ?_
          refine AllReadyH.cons (o := ?_) ?_ (fun K hK => ?_) AllReadyH.nil
          rotate_left
          · simp only [List.getElem?_toArray, List.getElem?_cons_zero, List.getElem?_cons_succ]; rfl
          obtain ⟨va13, wa13, ra13, ta13⟩ := T2.out.putM B2 m2 q2 d2 R2.out Hq2.out (by simp only [List.nil_append]; omega)
          refine step_app10 (.tmp 66) (.tmp 68) rfl (by kernel_rfl) ra13 ?_
          refine hK.out _ _ ta13.x (fun h => ?_)
          have T2 := Lib.hid ta13
          clear ra13 ta13
          clear hK K
          (try simp only [Act.put, List.setIfInBounds_toArray, List.set_cons_zero, List.set_cons_succ])
          obtain ⟨Al, cl, Am, cm, e1, e2⟩ := T2.out.shape nL qL HnL.out HqL.out
          subst e1 e2
          refine wpAnyH_take (i := 14) (oi := ?_) (v := ?_) ?_ (by kernel_rfl) (by kernel_rfl) (by kernel_rfl) ?_ ?_ h ?_
          rotate_left 2
          · simp only [List.getElem?_toArray, List.getElem?_cons_zero, List.getElem?_cons_succ]; rfl
          · exact fun _ _ _ h => h
          · refine Or.inl ⟨by rfl, ?_⟩
            intro w hSw
            (try dsimp only at hSw)
            go_simp
            (try with_reducible rfl)
          (try simp only [Act.put, List.setIfInBounds_toArray, List.set_cons_zero, List.set_cons_succ])
          obtain ⟨Al, cl, Am, cm, e1, e2, _, _, _, _, hx9, hb9, hs9⟩ := T2.out.done HIN.out nL qL HnL.out HqL.out
          cases e1
          cases e2
          refine wpAnyH_ready (rs := [16]) (by kernel_rfl) (by simp) ?_
          refine AllReadyH.cons (o := ?_) ?_ (fun K hK => ?_) AllReadyH.nil
          rotate_left
          · simp only [List.getElem?_toArray, List.getElem?_cons_zero, List.getElem?_cons_succ]; rfl
          refine step_store10 27 _ _ rfl _ #[_, _] rfl rfl (T2.out.box _ rfl).1.there (by kernel_rfl) (by simp [Value.oneCell']) (by kernel_rfl) ?_
          refine hK.out _ _ hx9 (fun h => ?_)
          clear hK K
          (try simp only [Act.put])
          refine wpAnyH_done (by kernel_rfl) ?_ _
          refine NoPanic.normal ?_
          go_wp2_with fail
          go_meet
          exact FIN.out _ _ _ _ _ _ hx9 hb9 hs9
        refine AllReadyH.cons (o := ?_) ?_ (fun K hK => ?_) AllReadyH.nil
        rotate_left
        · simp only [List.getElem?_toArray, List.getElem?_cons_zero, List.getElem?_cons_succ]; rfl
        go_simp
        refine hK.out _ _ (T2.out.x.alloc _) (fun h => ?_)
        have T2 := Lib.hid T2.out.litM
        generalize x22.alloc (.cells #[] 45) = x25 at T2 h ⊢
        clear hK K
        (try simp only [Act.put, List.setIfInBounds_toArray, List.set_cons_zero, List.set_cons_succ])
        refine wpAnyH_ready (rs := [3]) (by kernel_rfl) (by simp) ?_
        refine AllReadyH.cons (o := ?_) ?_ (fun K hK => ?_) AllReadyH.nil
        rotate_left
        · simp only [List.getElem?_toArray, List.getElem?_cons_zero, List.getElem?_cons_succ]; rfl
        obtain ⟨va3, wa3, ra3, ta3⟩ := T2.out.putL A1 l1 n1 c1 S1.out Hn1.out (by simp only [List.length_nil, Nat.zero_add]; omega)
        refine step_app10 (.tmp 56) (.tmp 58) rfl (by kernel_rfl) ra3 ?_
        refine hK.out _ _ ta3.x (fun h => ?_)
        have T2 := Lib.hid ta3
        clear ra3 ta3
        clear hK K
        (try simp only [Act.put, List.setIfInBounds_toArray, List.set_cons_zero, List.set_cons_succ])
        refine wpAnyH_ready (rs := [6]) (by kernel_rfl) (by simp) ?_
        refine AllReadyH.cons (o := ?_) ?_ (fun K hK => ?_) AllReadyH.nil
        rotate_left
        · simp only [List.getElem?_toArray, List.getElem?_cons_zero, List.getElem?_cons_succ]; rfl
        obtain ⟨va6, wa6, ra6, ta6⟩ := T2.out.putL A2 l2 n2 c2 S2.out Hn2.out (by simp only [List.nil_append]; omega)
        refine step_app10 (.tmp 59) (.tmp 61) rfl (by kernel_rfl) ra6 ?_
        refine hK.out _ _ ta6.x (fun h => ?_)
        have T2 := Lib.hid ta6
        clear ra6 ta6
        clear hK K
        (try simp only [Act.put, List.setIfInBounds_toArray, List.set_cons_zero, List.set_cons_succ])
        refine wpAnyH_ready (rs := [10]) (by kernel_rfl) (by simp) ?_
        refine AllReadyH.cons (o := ?_) ?_ (fun K hK => ?_) AllReadyH.nil
        rotate_left
        · simp only [List.getElem?_toArray, List.getElem?_cons_zero, List.getElem?_cons_succ]; rfl
        obtain ⟨va10, wa10, ra10, ta10⟩ := T2.out.putM B1 m1 q1 d1 R1.out Hq1.out (by simp only [List.length_nil, Nat.zero_add]; omega)
        refine step_app10 (.tmp 63) (.tmp 65) rfl (by kernel_rfl) ra10 ?_
        refine hK.out _ _ ta10.x (fun h => ?_)
        have T2 := Lib.hid ta10
        clear ra10 ta10
        clear hK K
        (try simp only [Act.put, List.setIfInBounds_toArray, List.set_cons_zero, List.set_cons_succ])
        refine wpAnyH_ready (rs := [13]) (by kernel_rfl) (by simp) ?_
        refine AllReadyH.cons (o := ?_) ?_ (fun K hK => ?_) AllReadyH.nil
        rotate_left
        · simp only [List.getElem?_toArray, List.getElem?_cons_zero, List.getElem?_cons_succ]; rfl
        obtain ⟨va13, wa13, ra13, ta13⟩ := T2.out.putM B2 m2 q2 d2 R2.out Hq2.out (by simp only [List.nil_append]; omega)
        refine step_app10 (.tmp 66) (.tmp 68) rfl (by kernel_rfl) ra13 ?_
        refine hK.out _ _ ta13.x (fun h => ?_)
        have T2 := Lib.hid ta13
        clear ra13 ta13
        clear hK K
        (try simp only [Act.put, List.setIfInBounds_toArray, List.set_cons_zero, List.set_cons_succ])
        obtain ⟨Al, cl, Am, cm, e1, e2⟩ := T2.out.shape nL qL HnL.out HqL.out
        subst e1 e2
        refine wpAnyH_take (i := 14) (oi := ?_) (v := ?_) ?_ (by kernel_rfl) (by kernel_rfl) (by kernel_rfl) ?_ ?_ h ?_
        rotate_left 2
        · simp only [List.getElem?_toArray, List.getElem?_cons_zero, List.getElem?_cons_succ]; rfl
        · exact fun _ _ _ h => h
        · refine Or.inl ⟨by rfl, ?_⟩
          intro w hSw
          (try dsimp only at hSw)
          go_simp
          (try with_reducible rfl)
        (try simp only [Act.put, List.setIfInBounds_toArray, List.set_cons_zero, List.set_cons_succ])
        obtain ⟨Al, cl, Am, cm, e1, e2, _, _, _, _, hx9, hb9, hs9⟩ := T2.out.done HIN.out nL qL HnL.out HqL.out
        cases e1
        cases e2
        refine wpAnyH_ready (rs := [16]) (by kernel_rfl) (by simp) ?_
        refine AllReadyH.cons (o := ?_) ?_ (fun K hK => ?_) AllReadyH.nil
        rotate_left
        · simp only [List.getElem?_toArray, List.getElem?_cons_zero, List.getElem?_cons_succ]; rfl
        refine step_store10 27 _ _ rfl _ #[_, _] rfl rfl (T2.out.box _ rfl).1.there (by kernel_rfl) (by simp [Value.oneCell']) (by kernel_rfl) ?_
        refine hK.out _ _ hx9 (fun h => ?_)
        clear hK K
        (try simp only [Act.put])
        refine wpAnyH_done (by kernel_rfl) ?_ _
        refine NoPanic.normal ?_
        go_wp2_with fail
        go_meet
        exact FIN.out _ _ _ _ _ _ hx9 hb9 hs9
      refine AllReadyH.cons (o := ?_) ?_ (fun K hK => ?_) ?_
      rotate_left
      · simp only [List.getElem?_toArray, List.getElem?_cons_zero, List.getElem?_cons_succ]; rfl
      · go_simp
        refine hK.out _ _ (T0.out.x.alloc _) (fun h => ?_)
        have T2 := Lib.hid T0.out.litM
        generalize wd.alloc (.cells #[] 45) = x26 at T2 h ⊢
        clear hK K
        skip
        (try simp only [Act.put, List.setIfInBounds_toArray, List.set_cons_zero, List.set_cons_succ])
        refine wpAnyH_ready (rs := [0, 15]) (by kernel_rfl) (by simp) ?_
        refine AllReadyH.cons (o := ?_) ?_ (fun K hK => ?_) ?_
        rotate_left
        · simp only [List.getElem?_toArray, List.getElem?_cons_zero]; rfl
        · go_simp
          refine hK.out _ _ (T2.out.x.alloc _) (fun h => ?_)
          have T2 := Lib.hid T2.out.litL
          generalize x26.alloc (.cells #[] 42) = x27 at T2 h ⊢
          clear hK K
          (try simp only [Act.put, List.setIfInBounds_toArray, List.set_cons_zero, List.set_cons_succ])
          refine wpAnyH_ready (rs := [3, 15]) (by kernel_rfl) (by simp) ?_
          refine AllReadyH.cons (o := ?_) ?_ (fun K hK => ?_) ?_
          rotate_left
          · simp only [List.getElem?_toArray, List.getElem?_cons_zero, List.getElem?_cons_succ]; rfl
          · obtain ⟨va3, wa3, ra3, ta3⟩ := T2.out.putL A1 l1 n1 c1 S1.out Hn1.out (by simp only [List.length_nil, Nat.zero_add]; omega)
            refine step_app10 (.tmp 56) (.tmp 58) rfl (by kernel_rfl) ra3 ?_
            refine hK.out _ _ ta3.x (fun h => ?_)
            have T2 := Lib.hid ta3
            clear ra3 ta3
            clear hK K
            (try simp only [Act.put, List.setIfInBounds_toArray, List.set_cons_zero, List.set_cons_succ])
            refine wpAnyH_ready (rs := [6, 15]) (by kernel_rfl) (by simp) ?_
            refine AllReadyH.cons (o := ?_) ?_ (fun K hK => ?_) ?_
            rotate_left
            · simp only [List.getElem?_toArray, List.getElem?_cons_zero, List.getElem?_cons_succ]; rfl
            · obtain ⟨va6, wa6, ra6, ta6⟩ := T2.out.putL A2 l2 n2 c2 S2.out Hn2.out (by simp only [List.nil_append]; omega)
              refine step_app10 (.tmp 59) (.tmp 61) rfl (by kernel_rfl) ra6 ?_
              refine hK.out _ _ ta6.x (fun h => ?_)
              have T2 := Lib.hid ta6
              clear ra6 ta6
              clear hK K
              (try simp only [Act.put, List.setIfInBounds_toArray, List.set_cons_zero, List.set_cons_succ])
              refine wpAnyH_ready (rs := [10, 15]) (by kernel_rfl) (by simp) ?_
              refine AllReadyH.cons (o := ?_) ?_ (fun K hK => ?_) ?_
              rotate_left
              · simp only [List.getElem?_toArray, List.getElem?_cons_zero, List.getElem?_cons_succ]; rfl
              · obtain ⟨va10, wa10, ra10, ta10⟩ := T2.out.putM B1 m1 q1 d1 R1.out Hq1.out (by simp only [List.length_nil, Nat.zero_add]; omega)
                refine step_app10 (.tmp 63) (.tmp 65) rfl (by kernel_rfl) ra10 ?_
                refine hK.out _ _ ta10.x (fun h => ?_)
                have T2 := Lib.hid ta10
                clear ra10 ta10
                clear hK K
                (try simp only [Act.put, List.setIfInBounds_toArray, List.set_cons_zero, List.set_cons_succ])
                refine wpAnyH_ready (rs := [13, 15]) (by kernel_rfl) (by simp) ?_
                refine AllReadyH.cons (o := ?_) ?_ (fun K hK => ?_) ?_
                rotate_left
                · simp only [List.getElem?_toArray, List.getElem?_cons_zero, List.getElem?_cons_succ]; rfl
                · obtain ⟨va13, wa13, ra13, ta13⟩ := T2.out.putM B2 m2 q2 d2 R2.out Hq2.out (by simp only [List.nil_append]; omega)
                  refine step_app10 (.tmp 66) (.tmp 68) rfl (by kernel_rfl) ra13 ?_
                  refine hK.out _ _ ta13.x (fun h => ?_)
                  have T2 := Lib.hid ta13
                  clear ra13 ta13
                  clear hK K
                  (try simp only [Act.put, List.setIfInBounds_toArray, List.set_cons_zero, List.set_cons_succ])
                  obtain ⟨Al, cl, Am, cm, e1, e2⟩ := T2.out.shape nL qL HnL.out HqL.out
                  subst e1 e2
                  refine wpAnyH_take (i := 14) (oi := ?_) (v := ?_) ?_ (by kernel_rfl) (by kernel_rfl) (by kernel_rfl) ?_ ?_ h ?_
                  rotate_left 2
                  · simp only [List.getElem?_toArray, List.getElem?_cons_zero, List.getElem?_cons_succ]; rfl
                  · exact fun _ _ _ h => h
                  · refine Or.inl ⟨by rfl, ?_⟩
                    intro w hSw
                    (try dsimp only at hSw)
                    go_simp
                    (try with_reducible rfl)
                  (try simp only [Act.put, List.setIfInBounds_toArray, List.set_cons_zero, List.set_cons_succ])
                  refine wpAnyH_ready (rs := [15]) (by kernel_rfl) (by simp) ?_
                  refine AllReadyH.cons (o := ?_) ?_ (fun K hK => ?_) AllReadyH.nil
                  rotate_left
                  · simp only [List.getElem?_toArray, List.getElem?_cons_zero, List.getElem?_cons_succ]; rfl
                  go_simp
                  refine hK.out _ _ (T2.out.x.alloc _) (fun h => ?_)
                  have T2 := Lib.hid T2.out.var
                  generalize wa13.alloc (.cells #[.slice none 0 0, .slice none 0 0] 27) = x28 at T2 h ⊢
                  clear hK K
                  (try simp only [Act.put, List.setIfInBounds_toArray, List.set_cons_zero, List.set_cons_succ])
                  obtain ⟨Al, cl, Am, cm, e1, e2, _, _, _, _, hx9, hb9, hs9⟩ := T2.out.done HIN.out nL qL HnL.out HqL.out
                  cases e1
                  cases e2
                  refine wpAnyH_ready (rs := [16]) (by kernel_rfl) (by simp) ?_
                  refine AllReadyH.cons (o := ?_) ?_ (fun K hK => ?_) AllReadyH.nil
                  rotate_left
                  · simp only [List.getElem?_toArray, List.getElem?_cons_zero, List.getElem?_cons_succ]; rfl
                  refine step_store10 27 _ _ rfl _ #[_, _] rfl rfl (T2.out.box _ rfl).1.there (by kernel_rfl) (by simp [Value.oneCell']) (by kernel_rfl) ?_
                  refine hK.out _ _ hx9 (fun h => ?_)
                  clear hK K
                  (try simp only [Act.put])
                  refine wpAnyH_done (by kernel_rfl) ?_ _
                  refine NoPanic.normal ?_
                  go_wp2_with fail
                  go_meet
                  exact FIN.out _ _ _ _ _ _ hx9 hb9 hs9
                refine AllReadyH.cons (o := ?_) ?_ (fun K hK => ?_) AllReadyH.nil
                rotate_left
                · simp only [List.getElem?_toArray, List.getElem?_cons_zero, List.getElem?_cons_succ]; rfl
                go_simp
                refine hK.out _ _ (T2.out.x.alloc _) (fun h => ?_)
                have T2 := Lib.hid T2.out.var
                generalize wa10.alloc (.cells #[.slice none 0 0, .slice none 0 0] 27) = x29 at T2 h ⊢
                clear hK K
                (try simp only [Act.put, List.setIfInBounds_toArray, List.set_cons_zero, List.set_cons_succ])
                refine wpAnyH_ready (rs := [13]) (by kernel_rfl) (by simp) ?_
                refine AllReadyH.cons (o := ?_) ?_ (fun K hK => ?_) AllReadyH.nil
                rotate_left
                · simp only [List.getElem?_toArray, List.getElem?_cons_zero, List.getElem?_cons_succ]; rfl
                obtain ⟨va13, wa13, ra13, ta13⟩ := T2.out.putM B2 m2 q2 d2 R2.out Hq2.out (by simp only [List.nil_append]; omega)
                refine step_app10 (.tmp 66) (.tmp 68) rfl (by kernel_rfl) ra13 ?_
                refine hK.out _ _ ta13.x (fun h => ?_)
                have T2 := Lib.hid ta13
                clear ra13 ta13
                clear hK K
                (try simp only [Act.put, List.setIfInBounds_toArray, List.set_cons_zero, List.set_cons_succ])
                obtain ⟨Al, cl, Am, cm, e1, e2⟩ := T2.out.shape nL qL HnL.out HqL.out
                subst e1 e2
                refine wpAnyH_take (i := 14) (oi := ?_) (v := ?_) ?_ (by kernel_rfl) (by kernel_rfl) (by kernel_rfl) ?_ ?_ h ?_
                rotate_left 2
                · simp only [List.getElem?_toArray, List.getElem?_cons_zero, List.getElem?_cons_succ]; rfl
                · exact fun _ _ _ h => h
                · refine Or.inl ⟨by rfl, ?_⟩
                  intro w hSw
                  (try dsimp only at hSw)
                  go_simp
                  (try with_reducible rfl)
                (try simp only [Act.put, List.setIfInBounds_toArray, List.set_cons_zero, List.set_cons_succ])
                obtain ⟨Al, cl, Am, cm, e1, e2, _, _, _, _, hx9, hb9, hs9⟩ := T2.out.done HIN.out nL qL HnL.out HqL.out
                cases e1
                cases e2
                refine wpAnyH_ready (rs := [16]) (by kernel_rfl) (by simp) ?_
                refine AllReadyH.cons (o := ?_) ?_ (fun K hK => ?_) AllReadyH.nil
                rotate_left
                · simp only [List.getElem?_toArray, List.getElem?_cons_zero, List.getElem?_cons_succ]; rfl
                refine step_store10 27 _ _ rfl _ #[_, _] rfl rfl (T2.out.box _ rfl).1.there (by kernel_rfl) (by simp [Value.oneCell']) (by kernel_rfl) ?_
                refine hK.out _ _ hx9 (fun h => ?_)
                clear hK K
                (try simp only [Act.put])
                refine wpAnyH_done (by kernel_rfl) ?_ _
                refine NoPanic.normal ?_
                go_wp2_with fail
                go_meet
                exact FIN.out _ _ _ _ _ _ hx9 hb9 hs9
              refine AllReadyH.cons (o := ?_) ?_ (fun K hK => ?_) AllReadyH.nil
              rotate_left
              · simp only [List.getElem?_toArray, List.getElem?_cons_zero, List.getElem?_cons_succ]; rfl
              go_simp
              refine hK.out _ _ (T2.out.x.alloc _) (fun h => ?_)
              have T2 := Lib.hid T2.out.var
              generalize wa6.alloc (.cells #[.slice none 0 0, .slice none 0 0] 27) = x30 at T2 h ⊢
              clear hK K
              (try simp only [Act.put, List.setIfInBounds_toArray, List.set_cons_zero, List.set_cons_succ])
              refine wpAnyH_ready (rs := [10]) (by kernel_rfl) (by simp) ?_
              refine AllReadyH.cons (o := ?_) ?_ (fun K hK => ?_) AllReadyH.nil
              rotate_left
              · simp only [List.getElem?_toArray, List.getElem?_cons_zero, List.getElem?_cons_succ]; rfl
              obtain ⟨va10, wa10, ra10, ta10⟩ := T2.out.putM B1 m1 q1 d1 R1.out Hq1.out (by simp only [List.length_nil, Nat.zero_add]; omega)
              refine step_app10 (.tmp 63) (.tmp 65) rfl (by kernel_rfl) ra10 ?_
              refine hK.out _ _ ta10.x (fun h => ?_)
              have T2 := Lib.hid ta10
              clear ra10 ta10
              clear hK K
              (try simp only [Act.put, List.setIfInBounds_toArray, List.set_cons_zero, List.set_cons_succ])
              refine wpAnyH_ready (rs := [13]) (by kernel_rfl) (by simp) ?_
              refine AllReadyH.cons (o := ?_) ?_ (fun K hK => ?_) AllReadyH.nil
              rotate_left
              · simp only [List.getElem?_toArray, List.getElem?_cons_zero, List.getElem?_cons_succ]; rfl
              obtain ⟨va13, wa13, ra13, ta13⟩ := T2.out.putM B2 m2 q2 d2 R2.out Hq2.out (by simp only [List.nil_append]; omega)
              refine step_app10 (.tmp 66) (.tmp 68) rfl (by kernel_rfl) ra13 ?_
              refine hK.out _ _ ta13.x (fun h => ?_)
              have T2 := Lib.hid ta13
              clear ra13 ta13
              clear hK K
              (try simp only [Act.put, List.setIfInBounds_toArray, List.set_cons_zero, List.set_cons_succ])
              obtain ⟨Al, cl, Am, cm, e1, e2⟩ := T2.out.shape nL qL HnL.out HqL.out
              subst e1 e2
              refine wpAnyH_take (i := 14) (oi := ?_) (v := ?_) ?_ (by kernel_rfl) (by kernel_rfl) (by kernel_rfl) ?_ ?_ h ?_
              rotate_left 2
              · simp only [List.getElem?_toArray, List.getElem?_cons_zero, List.getElem?_cons_succ]; rfl
              · exact fun _ _ _ h => h
              · refine Or.inl ⟨by rfl, ?_⟩
                intro w hSw
                (try dsimp only at hSw)
                go_simp
                (try with_reducible rfl)
              (try simp only [Act.put, List.setIfInBounds_toArray, List.set_cons_zero, List.set_cons_succ])
              obtain ⟨Al, cl, Am, cm, e1, e2, _, _, _, _, hx9, hb9, hs9⟩ := T2.out.done HIN.out nL qL HnL.out HqL.out
              cases e1
              cases e2
              refine wpAnyH_ready (rs := [16]) (by kernel_rfl) (by simp) ?_
              refine AllReadyH.cons (o := ?_) ?_ (fun K hK => ?_) AllReadyH.nil
              rotate_left
              · simp only [List.getElem?_toArray, List.getElem?_cons_zero, List.getElem?_cons_succ]; rfl
              refine step_store10 27 _ _ rfl _ #[_, _] rfl rfl (T2.out.box _ rfl).1.there (by kernel_rfl) (by simp [Value.oneCell']) (by kernel_rfl) ?_
              refine hK.out _ _ hx9 (fun h => ?_)
              clear hK K
              (try simp only [Act.put])
              refine wpAnyH_done (by kernel_rfl) ?_ _
              refine NoPanic.normal ?_
              go_wp2_with fail
              go_meet
              exact FIN.out _ _ _ _ _ _ hx9 hb9 hs9
            refine AllReadyH.cons (o := ?_) ?_ (fun K hK => ?_) AllReadyH.nil
            rotate_left
            · simp only [List.getElem?_toArray, List.getElem?_cons_zero, List.getElem?_cons_succ]; rfl
            go_simp
            refine hK.out _ _ (T2.out.x.alloc _) (fun h => ?_)
            have T2 := Lib.hid T2.out.var
            generalize wa3.alloc (.cells #[.slice none 0 0, .slice none 0 0] 27) = x31 at T2 h ⊢
            clear hK K
            (try simp only [Act.put, List.setIfInBounds_toArray, List.set_cons_zero, List.set_cons_succ])
            refine wpAnyH_ready (rs := [6]) (by kernel_rfl) (by simp) ?_
            refine AllReadyH.cons (o := ?_) ?_ (fun K hK => ?_) AllReadyH.nil
            rotate_left
            · simp only [List.getElem?_toArray, List.getElem?_cons_zero, List.getElem?_cons_succ]; rfl
            obtain ⟨va6, wa6, ra6, ta6⟩ := T2.out.putL A2 l2 n2 c2 S2.out Hn2.out (by simp only [List.nil_append]; omega)
            refine step_app10 (.tmp 59) (.tmp 61) rfl (by kernel_rfl) ra6 ?_
            refine hK.out _ _ ta6.x (fun h => ?_)
            have T2 := Lib.hid ta6
            clear ra6 ta6
            clear hK K
            (try simp only [Act.put, List.setIfInBounds_toArray, List.set_cons_zero, List.set_cons_succ])
            refine wpAnyH_ready (rs := [10]) (by kernel_rfl) (by simp) ?_
            refine AllReadyH.cons (o := ?_) ?_ (fun K hK => ?_) AllReadyH.nil
            rotate_left
            · simp only [List.getElem?_toArray, List.getElem?_cons_zero, List.getElem?_cons_succ]; rfl
            obtain ⟨va10, wa10, ra10, ta10⟩ := T2.out.putM B1 m1 q1 d1 R1.out Hq1.out (by simp only [List.length_nil, Nat.zero_add]; omega)
            refine step_app10 (.tmp 63) (.tmp 65) rfl (by kernel_rfl) ra10 ?_
            refine hK.out _ _ ta10.x (fun h => ?_)
            have T2 := Lib.hid ta10
            clear ra10 ta10
            clear hK K
            (try simp only [Act.put, List.setIfInBounds_toArray, List.set_cons_zero, List.set_cons_succ])
            refine wpAnyH_ready (rs := [13]) (by kernel_rfl) (by simp) ?_
            refine AllReadyH.cons (o := ?_) ?_ (fun K hK => ?_) AllReadyH.nil
            rotate_left
            · simp only [List.getElem?_toArray, List.getElem?_cons_zero, List.getElem?_cons_succ]; rfl
            obtain ⟨va13, wa13, ra13, ta13⟩ := T2.out.putM B2 m2 q2 d2 R2.out Hq2.out (by simp only [List.nil_append]; omega)
            refine step_app10 (.tmp 66) (.tmp 68) rfl (by kernel_rfl) ra13 ?_
            refine hK.out _ _ ta13.x (fun h => ?_)
            have T2 := Lib.hid ta13
            clear ra13 ta13
            clear hK K
            (try simp only [Act.put, List.setIfInBounds_toArray, List.set_cons_zero, List.set_cons_succ])
            obtain ⟨Al, cl, Am, cm, e1, e2⟩ := T2.out.shape nL qL HnL.out HqL.out
            subst e1 e2
            refine wpAnyH_take (i := 14) (oi := ?_) (v := ?_) ?_ (by kernel_rfl) (by kernel_rfl) (by kernel_rfl) ?_ ?_ h ?_
            rotate_left 2
            · simp only [List.getElem?_toArray, List.getElem?_cons_zero, List.getElem?_cons_succ]; rfl
            · exact fun _ _ _ h => h
            · refine Or.inl ⟨by rfl, ?_⟩
              intro w hSw
              (try dsimp only at hSw)
              go_simp
              (try with_reducible rfl)
            (try simp only [Act.put, List.setIfInBounds_toArray, List.set_cons_zero, List.set_cons_succ])
            obtain ⟨Al, cl, Am, cm, e1, e2, _, _, _, _, hx9, hb9, hs9⟩ := T2.out.done HIN.out nL qL HnL.out HqL.out
            cases e1
            cases e2
            refine wpAnyH_ready (rs := [16]) (by kernel_rfl) (by simp) ?_
            refine AllReadyH.cons (o := ?_) ?_ (fun K hK => ?_) AllReadyH.nil
            rotate_left
            · simp only [List.getElem?_toArray, List.getElem?_cons_zero, List.getElem?_cons_succ]; rfl
            refine step_store10 27 _ _ rfl _ #[_, _] rfl rfl (T2.out.box _ rfl).1.there (by kernel_rfl) (by simp [Value.oneCell']) (by kernel_rfl) ?_
            refine hK.out _ _ hx9 (fun h => ?_)
            clear hK K
            (try simp only [Act.put])
            refine wpAnyH_done (by kernel_rfl) ?_ _
            refine NoPanic.normal ?_
            go_wp2_with fail
            go_meet
            exact FIN.out _ _ _ _ _ _ hx9 hb9 hs9
          refine AllReadyH.cons (o := ?_) ?_ (fun K hK => ?_) AllReadyH.nil
          rotate_left
          · simp only [List.getElem?_toArray, List.getElem?_cons_zero, List.getElem?_cons_succ]; rfl
          go_simp
          refine hK.out _ _ (T2.out.x.alloc _) (fun h => ?_)
          have T2 := Lib.hid T2.out.var
          generalize x27.alloc (.cells #[.slice none 0 0, .slice none 0 0] 27) = x32 at T2 h ⊢
          clear hK K
          (try simp only [Act.put, List.setIfInBounds_toArray, List.set_cons_zero, List.set_cons_succ])
          refine wpAnyH_ready (rs := [3]) (by kernel_rfl) (by simp) ?_
          refine AllReadyH.cons (o := ?_) ?_ (fun K hK => ?_) AllReadyH.nil
          rotate_left
          · simp only [List.getElem?_toArray, List.getElem?_cons_zero, List.getElem?_cons_succ]; rfl
          obtain ⟨va3, wa3, ra3, ta3⟩ := T2.out.putL A1 l1 n1 c1 S1.out Hn1.out (by simp only [List.length_nil, Nat.zero_add]; omega)
          refine step_app10 (.tmp 56) (.tmp 58) rfl (by kernel_rfl) ra3 ?_
          refine hK.out _ _ ta3.x (fun h => ?_)
          have T2 := Lib.hid ta3
          clear ra3 ta3
          clear hK K
          (try simp only [Act.put, List.setIfInBounds_toArray, List.set_cons_zero, List.set_cons_succ])
          refine wpAnyH_ready (rs := [6]) (by kernel_rfl) (by simp) ?_
          refine AllReadyH.cons (o := ?_) ?_ (fun K hK => ?_) AllReadyH.nil
          rotate_left
          · simp only [List.getElem?_toArray, List.getElem?_cons_zero, List.getElem?_cons_succ]; rfl
          obtain ⟨va6, wa6, ra6, ta6⟩ := T2.out.putL A2 l2 n2 c2 S2.out Hn2.out (by simp only [List.nil_append]; omega)
          refine step_app10 (.tmp 59) (.tmp 61) rfl (by kernel_rfl) ra6 ?_
          refine hK.out _ _ ta6.x (fun h => ?_)
          have T2 := Lib.hid ta6
          clear ra6 ta6
          clear hK K
          (try simp only [Act.put, List.setIfInBounds_toArray, List.set_cons_zero, List.set_cons_succ])
          refine wpAnyH_ready (rs := [10]) (by kernel_rfl) (by simp) ?_
          refine AllReadyH.cons (o := ?_) ?_ (fun K hK => ?_) AllReadyH.nil
          rotate_left
          · simp only [List.getElem?_toArray, List.getElem?_cons_zero, List.getElem?_cons_succ]; rfl
          obtain ⟨va10, wa10, ra10, ta10⟩ := T2.out.putM B1 m1 q1 d1 R1.out Hq1.out (by simp only [List.length_nil, Nat.zero_add]; omega)
          refine step_app10 (.tmp 63) (.tmp 65) rfl (by kernel_rfl) ra10 ?_
          refine hK.out _ _ ta10.x (fun h => ?_)
          have T2 := Lib.hid ta10
          clear ra10 ta10
          clear hK K
          (try simp only [Act.put, List.setIfInBounds_toArray, List.set_cons_zero, List.set_cons_succ])
          refine wpAnyH_ready (rs := [13]) (by kernel_rfl) (by simp) ?_
          refine AllReadyH.cons (o := ?_) ?_ (fun K hK => ?_) AllReadyH.nil
          rotate_left
          · simp only [List.getElem?_toArray, List.getElem?_cons_zero, List.getElem?_cons_succ]; rfl
          obtain ⟨va13, wa13, ra13, ta13⟩ := T2.out.putM B2 m2 q2 d2 R2.out Hq2.out (by simp only [List.nil_append]; omega)
          refine step_app10 (.tmp 66) (.tmp 68) rfl (by kernel_rfl) ra13 ?_
          refine hK.out _ _ ta13.x (fun h => ?_)
          have T2 := Lib.hid ta13
          clear ra13 ta13
          clear hK K
          (try simp only [Act.put, List.setIfInBounds_toArray, List.set_cons_zero, List.set_cons_succ])
          obtain ⟨Al, cl, Am, cm, e1, e2⟩ := T2.out.shape nL qL HnL.out HqL.out
          subst e1 e2
          refine wpAnyH_take (i := 14) (oi := ?_) (v := ?_) ?_ (by kernel_rfl) (by kernel_rfl) (by kernel_rfl) ?_ ?_ h ?_
          rotate_left 2
          · simp only [List.getElem?_toArray, List.getElem?_cons_zero, List.getElem?_cons_succ]; rfl
          · exact fun _ _ _ h => h
          · refine Or.inl ⟨by rfl, ?_⟩
            intro w hSw
            (try dsimp only at hSw)
            go_simp
            (try with_reducible rfl)
          (try simp only [Act.put, List.setIfInBounds_toArray, List.set_cons_zero, List.set_cons_succ])
          obtain ⟨Al, cl, Am, cm, e1, e2, _, _, _, _, hx9, hb9, hs9⟩ := T2.out.done HIN.out nL qL HnL.out HqL.out
          cases e1
          cases e2
          refine wpAnyH_ready (rs := [16]) (by kernel_rfl) (by simp) ?_
          refine AllReadyH.cons (o := ?_) ?_ (fun K hK => ?_) AllReadyH.nil
          rotate_left
          · simp only [List.getElem?_toArray, List.getElem?_cons_zero, List.getElem?_cons_succ]; rfl
          refine step_store10 27 _ _ rfl _ #[_, _] rfl rfl (T2.out.box _ rfl).1.there (by kernel_rfl) (by simp [Value.oneCell']) (by kernel_rfl) ?_
          refine hK.out _ _ hx9 (fun h => ?_)
          clear hK K
          (try simp only [Act.put])
          refine wpAnyH_done (by kernel_rfl) ?_ _
          refine NoPanic.normal ?_
          go_wp2_with fail
          go_meet
          exact FIN.out _ _ _ _ _ _ hx9 hb9 hs9
        refine AllReadyH.cons (o := ?_) ?_ (fun K hK => ?_) AllReadyH.nil
        rotate_left
        · simp only [List.getElem?_toArray, List.getElem?_cons_zero, List.getElem?_cons_succ]; rfl
        go_simp
        refine hK.out _ _ (T2.out.x.alloc _) (fun h => ?_)
        have T2 := Lib.hid T2.out.var
        generalize x26.alloc (.cells #[.slice none 0 0, .slice none 0 0] 27) = x33 at T2 h ⊢
        clear hK K
        (try simp only [Act.put, List.setIfInBounds_toArray, List.set_cons_zero, List.set_cons_succ])
        refine wpAnyH_ready (rs := [0]) (by kernel_rfl) (by simp) ?_
        refine AllReadyH.cons (o := ?_) ?_ (fun K hK => ?_) AllReadyH.nil
        rotate_left
        · simp only [List.getElem?_toArray, List.getElem?_cons_zero]; rfl
        go_simp
        refine hK.out _ _ (T2.out.x.alloc _) (fun h => ?_)
        have T2 := Lib.hid T2.out.litL
        generalize x33.alloc (.cells #[] 42) = x34 at T2 h ⊢
        clear hK K
        (try simp only [Act.put, List.setIfInBounds_toArray, List.set_cons_zero, List.set_cons_succ])
        refine wpAnyH_ready (rs := [3]) (by kernel_rfl) (by simp) ?_
        refine AllReadyH.cons (o := ?_) ?_ (fun K hK => ?_) AllReadyH.nil
        rotate_left
        · simp only [List.getElem?_toArray, List.getElem?_cons_zero, List.getElem?_cons_succ]; rfl
        obtain ⟨va3, wa3, ra3, ta3⟩ := T2.out.putL A1 l1 n1 c1 S1.out Hn1.out (by simp only [List.length_nil, Nat.zero_add]; omega)
        refine step_app10 (.tmp 56) (.tmp 58) rfl (by kernel_rfl) ra3 ?_
        refine hK.out _ _ ta3.x (fun h => ?_)
        have T2 := Lib.hid ta3
        clear ra3 ta3
        clear hK K
        (try simp only [Act.put, List.setIfInBounds_toArray, List.set_cons_zero, List.set_cons_succ])
        refine wpAnyH_ready (rs := [6]) (by kernel_rfl) (by simp) ?_
        refine AllReadyH.cons (o := ?_) ?_ (fun K hK => ?_) AllReadyH.nil
        rotate_left
        · simp only [List.getElem?_toArray, List.getElem?_cons_zero, List.getElem?_cons_succ]; rfl
        obtain ⟨va6, wa6, ra6, ta6⟩ := T2.out.putL A2 l2 n2 c2 S2.out Hn2.out (by simp only [List.nil_append]; omega)
        refine step_app10 (.tmp 59) (.tmp 61) rfl (by kernel_rfl) ra6 ?_
        refine hK.out _ _ ta6.x (fun h => ?_)
        have T2 := Lib.hid ta6
        clear ra6 ta6
        clear hK K
        (try simp only [Act.put, List.setIfInBounds_toArray, List.set_cons_zero, List.set_cons_succ])
        refine wpAnyH_ready (rs := [10]) (by kernel_rfl) (by simp) ?_
        refine AllReadyH.cons (o := ?_) ?_ (fun K hK => ?_) AllReadyH.nil
        rotate_left
        · simp only [List.getElem?_toArray, List.getElem?_cons_zero, List.getElem?_cons_succ]; rfl
        obtain ⟨va10, wa10, ra10, ta10⟩ := T2.out.putM B1 m1 q1 d1 R1.out Hq1.out (by simp only [List.length_nil, Nat.zero_add]; omega)
        refine step_app10 (.tmp 63) (.tmp 65) rfl (by kernel_rfl) ra10 ?_
        refine hK.out _ _ ta10.x (fun h => ?_)
        have T2 := Lib.hid ta10
        clear ra10 ta10
        clear hK K
        (try simp only [Act.put, List.setIfInBounds_toArray, List.set_cons_zero, List.set_cons_succ])
        refine wpAnyH_ready (rs := [13]) (by kernel_rfl) (by simp) ?_
        refine AllReadyH.cons (o := ?_) ?_ (fun K hK => ?_) AllReadyH.nil
        rotate_left
        · simp only [List.getElem?_toArray, List.getElem?_cons_zero, List.getElem?_cons_succ]; rfl
        obtain ⟨va13, wa13, ra13, ta13⟩ := T2.out.putM B2 m2 q2 d2 R2.out Hq2.out (by simp only [List.nil_append]; omega)
        refine step_app10 (.tmp 66) (.tmp 68) rfl (by kernel_rfl) ra13 ?_
        refine hK.out _ _ ta13.x (fun h => ?_)
        have T2 := Lib.hid ta13
        clear ra13 ta13
        clear hK K
        (try simp only [Act.put, List.setIfInBounds_toArray, List.set_cons_zero, List.set_cons_succ])
        obtain ⟨Al, cl, Am, cm, e1, e2⟩ := T2.out.shape nL qL HnL.out HqL.out
        subst e1 e2
        refine wpAnyH_take (i := 14) (oi := ?_) (v := ?_) ?_ (by kernel_rfl) (by kernel_rfl) (by kernel_rfl) ?_ ?_ h ?_
        rotate_left 2
        · simp only [List.getElem?_toArray, List.getElem?_cons_zero, List.getElem?_cons_succ]; rfl
        · exact fun _ _ _ h => h
        · refine Or.inl ⟨by rfl, ?_⟩
          intro w hSw
          (try dsimp only at hSw)
          go_simp
          (try with_reducible rfl)
        (try simp only [Act.put, List.setIfInBounds_toArray, List.set_cons_zero, List.set_cons_succ])
        obtain ⟨Al, cl, Am, cm, e1, e2, _, _, _, _, hx9, hb9, hs9⟩ := T2.out.done HIN.out nL qL HnL.out HqL.out
        cases e1
        cases e2
        refine wpAnyH_ready (rs := [16]) (by kernel_rfl) (by simp) ?_
        refine AllReadyH.cons (o := ?_) ?_ (fun K hK => ?_) AllReadyH.nil
        rotate_left
        · simp only [List.getElem?_toArray, List.getElem?_cons_zero, List.getElem?_cons_succ]; rfl
        refine step_store10 27 _ _ rfl _ #[_, _] rfl rfl (T2.out.box _ rfl).1.there (by kernel_rfl) (by simp [Value.oneCell']) (by kernel_rfl) ?_
        refine hK.out _ _ hx9 (fun h => ?_)
        clear hK K
        (try simp only [Act.put])
        refine wpAnyH_done (by kernel_rfl) ?_ _
        refine NoPanic.normal ?_
        go_wp2_with fail
        go_meet
        exact FIN.out _ _ _ _ _ _ hx9 hb9 hs9
      refine AllReadyH.cons (o := ?_) ?_ (fun K hK => ?_) AllReadyH.nil
      rotate_left
      · simp only [List.getElem?_toArray, List.getElem?_cons_zero, List.getElem?_cons_succ]; rfl
      go_simp
      refine hK.out _ _ (T0.out.x.alloc _) (fun h => ?_)
      have T2 := Lib.hid T0.out.var
      generalize wd.alloc (.cells #[.slice none 0 0, .slice none 0 0] 27) = x35 at T2 h ⊢
      clear hK K
      skip
      (try simp only [Act.put, List.setIfInBounds_toArray, List.set_cons_zero, List.set_cons_succ])
      refine wpAnyH_ready (rs := [0, 7]) (by kernel_rfl) (by simp) ?_
      refine AllReadyH.cons (o := ?_) ?_ (fun K hK => ?_) ?_
      rotate_left
      · simp only [List.getElem?_toArray, List.getElem?_cons_zero]; rfl
      · go_simp
        refine hK.out _ _ (T2.out.x.alloc _) (fun h => ?_)
        have T2 := Lib.hid T2.out.litL
        generalize x35.alloc (.cells #[] 42) = x36 at T2 h ⊢
        clear hK K
        (try simp only [Act.put, List.setIfInBounds_toArray, List.set_cons_zero, List.set_cons_succ])
        refine wpAnyH_ready (rs := [3, 7]) (by kernel_rfl) (by simp) ?_
        refine AllReadyH.cons (o := ?_) ?_ (fun K hK => ?_) ?_
        rotate_left
        · simp only [List.getElem?_toArray, List.getElem?_cons_zero, List.getElem?_cons_succ]; rfl
        · obtain ⟨va3, wa3, ra3, ta3⟩ := T2.out.putL A1 l1 n1 c1 S1.out Hn1.out (by simp only [List.length_nil, Nat.zero_add]; omega)
          refine step_app10 (.tmp 56) (.tmp 58) rfl (by kernel_rfl) ra3 ?_
          refine hK.out _ _ ta3.x (fun h => ?_)
          have T2 := Lib.hid ta3
          clear ra3 ta3
          clear hK K
          (try simp only [Act.put, List.setIfInBounds_toArray, List.set_cons_zero, List.set_cons_succ])
          refine wpAnyH_ready (rs := [6, 7]) (by kernel_rfl) (by simp) ?_
          refine AllReadyH.cons (o := ?_) ?_ (fun K hK => ?_) ?_
          rotate_left
          · simp only [List.getElem?_toArray, List.getElem?_cons_zero, List.getElem?_cons_succ]; rfl
          · obtain ⟨va6, wa6, ra6, ta6⟩ := T2.out.putL A2 l2 n2 c2 S2.out Hn2.out (by simp only [List.nil_append]; omega)
            refine step_app10 (.tmp 59) (.tmp 61) rfl (by kernel_rfl) ra6 ?_
            refine hK.out _ _ ta6.x (fun h => ?_)
            have T2 := Lib.hid ta6
            clear ra6 ta6
            clear hK K
            (try simp only [Act.put, List.setIfInBounds_toArray, List.set_cons_zero, List.set_cons_succ])
            refine wpAnyH_ready (rs := [7]) (by kernel_rfl) (by simp) ?_
            refine AllReadyH.cons (o := ?_) ?_ (fun K hK => ?_) AllReadyH.nil
            rotate_left
            · simp only [List.getElem?_toArray, List.getElem?_cons_zero, List.getElem?_cons_succ]; rfl
            go_simp
            refine hK.out _ _ (T2.out.x.alloc _) (fun h => ?_)
            have T2 := Lib.hid T2.out.litM
            generalize wa6.alloc (.cells #[] 45) = x37 at T2 h ⊢
            clear hK K
            (try simp only [Act.put, List.setIfInBounds_toArray, List.set_cons_zero, List.set_cons_succ])
            refine wpAnyH_ready (rs := [10]) (by kernel_rfl) (by simp) ?_
            refine AllReadyH.cons (o := ?_) ?_ (fun K hK => ?_) AllReadyH.nil
            rotate_left
            · simp only [List.getElem?_toArray, List.getElem?_cons_zero, List.getElem?_cons_succ]; rfl
            obtain ⟨va10, wa10, ra10, ta10⟩ := T2.out.putM B1 m1 q1 d1 R1.out Hq1.out (by simp only [List.length_nil, Nat.zero_add]; omega)
            refine step_app10 (.tmp 63) (.tmp 65) rfl (by kernel_rfl) ra10 ?_
            refine hK.out _ _ ta10.x (fun h => ?_)
            have T2 := Lib.hid ta10
            clear ra10 ta10
            clear hK K
            (try simp only [Act.put, List.setIfInBounds_toArray, List.set_cons_zero, List.set_cons_succ])
            refine wpAnyH_ready (rs := [13]) (by kernel_rfl) (by simp) ?_
            refine AllReadyH.cons (o := ?_) ?_ (fun K hK => ?_) AllReadyH.nil
            rotate_left
            · simp only [List.getElem?_toArray, List.getElem?_cons_zero, List.getElem?_cons_succ]; rfl
            obtain ⟨va13, wa13, ra13, ta13⟩ := T2.out.putM B2 m2 q2 d2 R2.out Hq2.out (by simp only [List.nil_append]; omega)
            refine step_app10 (.tmp 66) (.tmp 68) rfl (by kernel_rfl) ra13 ?_
            refine hK.out _ _ ta13.x (fun h => ?_)
            have T2 := Lib.hid ta13
            clear ra13 ta13
            clear hK K
            (try simp only [Act.put, List.setIfInBounds_toArray, List.set_cons_zero, List.set_cons_succ])
            obtain ⟨Al, cl, Am, cm, e1, e2⟩ := T2.out.shape nL qL HnL.out HqL.out
            subst e1 e2
            refine wpAnyH_take (i := 14) (oi := ?_) (v := ?_) ?_ (by kernel_rfl) (by kernel_rfl) (by kernel_rfl) ?_ ?_ h ?_
            rotate_left 2
            · simp only [List.getElem?_toArray, List.getElem?_cons_zero, List.getElem?_cons_succ]; rfl
            · exact fun _ _ _ h => h
            · refine Or.inl ⟨by rfl, ?_⟩
              intro w hSw
              (try dsimp only at hSw)
              go_simp
              (try with_reducible rfl)
            (try simp only [Act.put, List.setIfInBounds_toArray, List.set_cons_zero, List.set_cons_succ])
            obtain ⟨Al, cl, Am, cm, e1, e2, _, _, _, _, hx9, hb9, hs9⟩ := T2.out.done HIN.out nL qL HnL.out HqL.out
            cases e1
            cases e2
            refine wpAnyH_ready (rs := [16]) (by kernel_rfl) (by simp) ?_
            refine AllReadyH.cons (o := ?_) ?_ (fun K hK => ?_) AllReadyH.nil
            rotate_left
            · simp only [List.getElem?_toArray, List.getElem?_cons_zero, List.getElem?_cons_succ]; rfl
            refine step_store10 27 _ _ rfl _ #[_, _] rfl rfl (T2.out.box _ rfl).1.there (by kernel_rfl) (by simp [Value.oneCell']) (by kernel_rfl) ?_
            refine hK.out _ _ hx9 (fun h => ?_)
            clear hK K
            (try simp only [Act.put])
            refine wpAnyH_done (by kernel_rfl) ?_ _
            refine NoPanic.normal ?_
            go_wp2_with fail
            go_meet
            exact FIN.out _ _ _ _ _ _ hx9 hb9 hs9
          refine AllReadyH.cons (o := ?_) ?_ (fun K hK => ?_) AllReadyH.nil
          rotate_left
          · simp only [List.getElem?_toArray, List.getElem?_cons_zero, List.getElem?_cons_succ]; rfl
          go_simp
          refine hK.out _ _ (T2.out.x.alloc _) (fun h => ?_)
          have T2 := Lib.hid T2.out.litM
          generalize wa3.alloc (.cells #[] 45) = x38 at T2 h ⊢
          clear hK K
          (try simp only [Act.put, List.setIfInBounds_toArray, List.set_cons_zero, List.set_cons_succ])
          refine wpAnyH_ready (rs := [6]) (by kernel_rfl) (by simp) ?_
          refine AllReadyH.cons (o := ?_) ?_ (fun K hK => ?_) AllReadyH.nil
          rotate_left
          · simp only [List.getElem?_toArray, List.getElem?_cons_zero, List.getElem?_cons_succ]; rfl
          obtain ⟨va6, wa6, ra6, ta6⟩ := T2.out.putL A2 l2 n2 c2 S2.out Hn2.out (by simp only [List.nil_append]; omega)
          refine step_app10 (.tmp 59) (.tmp 61) rfl (by kernel_rfl) ra6 ?_
          refine hK.out _ _ ta6.x (fun h => ?_)
          have T2 := Lib.hid ta6
          clear ra6 ta6
          clear hK K
          (try simp only [Act.put, List.setIfInBounds_toArray, List.set_cons_zero, List.set_cons_succ])
          refine wpAnyH_ready (rs := [10]) (by kernel_rfl) (by simp) ?_
          refine AllReadyH.cons (o := ?_) ?_ (fun K hK => ?_) AllReadyH.nil
          rotate_left
          · simp only [List.getElem?_toArray, List.getElem?_cons_zero, List.getElem?_cons_succ]; rfl
          obtain ⟨va10, wa10, ra10, ta10⟩ := T2.out.putM B1 m1 q1 d1 R1.out Hq1.out (by simp only [List.length_nil, Nat.zero_add]; omega)
          refine step_app10 (.tmp 63) (.tmp 65) rfl (by kernel_rfl) ra10 ?_
          refine hK.out _ _ ta10.x (fun h => ?_)
          have T2 := Lib.hid ta10
          clear ra10 ta10
          clear hK K
          (try simp only [Act.put, List.setIfInBounds_toArray, List.set_cons_zero, List.set_cons_succ])
          refine wpAnyH_ready (rs := [13]) (by kernel_rfl) (by simp) ?_
          refine AllReadyH.cons (o := ?_) ?_ (fun K hK => ?_) AllReadyH.nil
          rotate_left
          · simp only [List.getElem?_toArray, List.getElem?_cons_zero, List.getElem?_cons_succ]; rfl
          obtain ⟨va13, wa13, ra13, ta13⟩ := T2.out.putM B2 m2 q2 d2 R2.out Hq2.out (by simp only [List.nil_append]; omega)
          refine step_app10 (.tmp 66) (.tmp 68) rfl (by kernel_rfl) ra13 ?_
          refine hK.out _ _ ta13.x (fun h => ?_)
          have T2 := Lib.hid ta13
          clear ra13 ta13
          clear hK K
          (try simp only [Act.put, List.setIfInBounds_toArray, List.set_cons_zero, List.set_cons_succ])
          obtain ⟨Al, cl, Am, cm, e1, e2⟩ := T2.out.shape nL qL HnL.out HqL.out
          subst e1 e2
          refine wpAnyH_take (i := 14) (oi := ?_) (v := ?_) ?_ (by kernel_rfl) (by kernel_rfl) (by kernel_rfl) ?_ ?_ h ?_
          rotate_left 2
          · simp only [List.getElem?_toArray, List.getElem?_cons_zero, List.getElem?_cons_succ]; rfl
          · exact fun _ _ _ h => h
          · refine Or.inl ⟨by rfl, ?_⟩
            intro w hSw
            (try dsimp only at hSw)
            go_simp
            (try with_reducible rfl)
          (try simp only [Act.put, List.setIfInBounds_toArray, List.set_cons_zero, List.set_cons_succ])
          obtain ⟨Al, cl, Am, cm, e1, e2, _, _, _, _, hx9, hb9, hs9⟩ := T2.out.done HIN.out nL qL HnL.out HqL.out
          cases e1
          cases e2
          refine wpAnyH_ready (rs := [16]) (by kernel_rfl) (by simp) ?_
          refine AllReadyH.cons (o := ?_) ?_ (fun K hK => ?_) AllReadyH.nil
          rotate_left
          · simp only [List.getElem?_toArray, List.getElem?_cons_zero, List.getElem?_cons_succ]; rfl
          refine step_store10 27 _ _ rfl _ #[_, _] rfl rfl (T2.out.box _ rfl).1.there (by kernel_rfl) (by simp [Value.oneCell']) (by kernel_rfl) ?_
          refine hK.out _ _ hx9 (fun h => ?_)
          clear hK K
          (try simp only [Act.put])
          refine wpAnyH_done (by kernel_rfl) ?_ _
          refine NoPanic.normal ?_
          go_wp2_with fail
          go_meet
          exact FIN.out _ _ _ _ _ _ hx9 hb9 hs9
        refine AllReadyH.cons (o := ?_) ?_ (fun K hK => ?_) AllReadyH.nil
        rotate_left
        · simp only [List.getElem?_toArray, List.getElem?_cons_zero, List.getElem?_cons_succ]; rfl
        go_simp
        refine hK.out _ _ (T2.out.x.alloc _) (fun h => ?_)
        have T2 := Lib.hid T2.out.litM
        generalize x36.alloc (.cells #[] 45) = x39 at T2 h ⊢
        clear hK K
        (try simp only [Act.put, List.setIfInBounds_toArray, List.set_cons_zero, List.set_cons_succ])
        refine wpAnyH_ready (rs := [3]) (by kernel_rfl) (by simp) ?_
        refine AllReadyH.cons (o := ?_) ?_ (fun K hK => ?_) AllReadyH.nil
        rotate_left
        · simp only [List.getElem?_toArray, List.getElem?_cons_zero, List.getElem?_cons_succ]; rfl
        obtain ⟨va3, wa3, ra3, ta3⟩ := T2.out.putL A1 l1 n1 c1 S1.out Hn1.out (by simp only [List.length_nil, Nat.zero_add]; omega)
        refine step_app10 (.tmp 56) (.tmp 58) rfl (by kernel_rfl) ra3 ?_
        refine hK.out _ _ ta3.x (fun h => ?_)
        have T2 := Lib.hid ta3
        clear ra3 ta3
        clear hK K
        (try simp only [Act.put, List.setIfInBounds_toArray, List.set_cons_zero, List.set_cons_succ])
        refine wpAnyH_ready (rs := [6]) (by kernel_rfl) (by simp) ?_
        refine AllReadyH.cons (o := ?_) ?_ (fun K hK => ?_) AllReadyH.nil
        rotate_left
        · simp only [List.getElem?_toArray, List.getElem?_cons_zero, List.getElem?_cons_succ]; rfl
        obtain ⟨va6, wa6, ra6, ta6⟩ := T2.out.putL A2 l2 n2 c2 S2.out Hn2.out (by simp only [List.nil_append]; omega)
        refine step_app10 (.tmp 59) (.tmp 61) rfl (by kernel_rfl) ra6 ?_
        refine hK.out _ _ ta6.x (fun h => ?_)
        have T2 := Lib.hid ta6
        clear ra6 ta6
        clear hK K
        (try simp only [Act.put, List.setIfInBounds_toArray, List.set_cons_zero, List.set_cons_succ])
        refine wpAnyH_ready (rs := [10]) (by kernel_rfl) (by simp) ?_
        refine AllReadyH.cons (o := ?_) ?_ (fun K hK => ?_) AllReadyH.nil
        rotate_left
        · simp only [List.getElem?_toArray, List.getElem?_cons_zero, List.getElem?_cons_succ]; rfl
        obtain ⟨va10, wa10, ra10, ta10⟩ := T2.out.putM B1 m1 q1 d1 R1.out Hq1.out (by simp only [List.length_nil, Nat.zero_add]; omega)
        refine step_app10 (.tmp 63) (.tmp 65) rfl (by kernel_rfl) ra10 ?_
        refine hK.out _ _ ta10.x (fun h => ?_)
        have T2 := Lib.hid ta10
        clear ra10 ta10
        clear hK K
        (try simp only [Act.put, List.setIfInBounds_toArray, List.set_cons_zero, List.set_cons_succ])
        refine wpAnyH_ready (rs := [13]) (by kernel_rfl) (by simp) ?_
        refine AllReadyH.cons (o := ?_) ?_ (fun K hK => ?_) AllReadyH.nil
        rotate_left
        · simp only [List.getElem?_toArray, List.getElem?_cons_zero, List.getElem?_cons_succ]; rfl
        obtain ⟨va13, wa13, ra13, ta13⟩ := T2.out.putM B2 m2 q2 d2 R2.out Hq2.out (by simp only [List.nil_append]; omega)
        refine step_app10 (.tmp 66) (.tmp 68) rfl (by kernel_rfl) ra13 ?_
        refine hK.out _ _ ta13.x (fun h => ?_)
        have T2 := Lib.hid ta13
        clear ra13 ta13
        clear hK K
        (try simp only [Act.put, List.setIfInBounds_toArray, List.set_cons_zero, List.set_cons_succ])
        obtain ⟨Al, cl, Am, cm, e1, e2⟩ := T2.out.shape nL qL HnL.out HqL.out
        subst e1 e2
        refine wpAnyH_take (i := 14) (oi := ?_) (v := ?_) ?_ (by kernel_rfl) (by kernel_rfl) (by kernel_rfl) ?_ ?_ h ?_
        rotate_left 2
        · simp only [List.getElem?_toArray, List.getElem?_cons_zero, List.getElem?_cons_succ]; rfl
        · exact fun _ _ _ h => h
        · refine Or.inl ⟨by rfl, ?_⟩
          intro w hSw
          (try dsimp only at hSw)
          go_simp
          (try with_reducible rfl)
        (try simp only [Act.put, List.setIfInBounds_toArray, List.set_cons_zero, List.set_cons_succ])
        obtain ⟨Al, cl, Am, cm, e1, e2, _, _, _, _, hx9, hb9, hs9⟩ := T2.out.done HIN.out nL qL HnL.out HqL.out
        cases e1
        cases e2
        refine wpAnyH_ready (rs := [16]) (by kernel_rfl) (by simp) ?_
        refine AllReadyH.cons (o := ?_) ?_ (fun K hK => ?_) AllReadyH.nil
        rotate_left
        · simp only [List.getElem?_toArray, List.getElem?_cons_zero, List.getElem?_cons_succ]; rfl
        refine step_store10 27 _ _ rfl _ #[_, _] rfl rfl (T2.out.box _ rfl).1.there (by kernel_rfl) (by simp [Value.oneCell']) (by kernel_rfl) ?_
        refine hK.out _ _ hx9 (fun h => ?_)
        clear hK K
        (try simp only [Act.put])
        refine wpAnyH_done (by kernel_rfl) ?_ _
        refine NoPanic.normal ?_
        go_wp2_with fail
        go_meet
        exact FIN.out _ _ _ _ _ _ hx9 hb9 hs9
      refine AllReadyH.cons (o := ?_) ?_ (fun K hK => ?_) AllReadyH.nil
      rotate_left
      · simp only [List.getElem?_toArray, List.getElem?_cons_zero, List.getElem?_cons_succ]; rfl
      go_simp
      refine hK.out _ _ (T2.out.x.alloc _) (fun h => ?_)
      have T2 := Lib.hid T2.out.litM
      generalize x35.alloc (.cells #[] 45) = x40 at T2 h ⊢
      clear hK K
      (try simp only [Act.put, List.setIfInBounds_toArray, List.set_cons_zero, List.set_cons_succ])
      refine wpAnyH_ready (rs := [0]) (by kernel_rfl) (by simp) ?_
      refine AllReadyH.cons (o := ?_) ?_ (fun K hK => ?_) AllReadyH.nil
      rotate_left
      · simp only [List.getElem?_toArray, List.getElem?_cons_zero]; rfl
      go_simp
      refine hK.out _ _ (T2.out.x.alloc _) (fun h => ?_)
      have T2 := Lib.hid T2.out.litL
      generalize x40.alloc (.cells #[] 42) = x41 at T2 h ⊢
      clear hK K
      (try simp only [Act.put, List.setIfInBounds_toArray, List.set_cons_zero, List.set_cons_succ])
      refine wpAnyH_ready (rs := [3]) (by kernel_rfl) (by simp) ?_
      refine AllReadyH.cons (o := ?_) ?_ (fun K hK => ?_) AllReadyH.nil
      rotate_left
      · simp only [List.getElem?_toArray, List.getElem?_cons_zero, List.getElem?_cons_succ]; rfl
      obtain ⟨va3, wa3, ra3, ta3⟩ := T2.out.putL A1 l1 n1 c1 S1.out Hn1.out (by simp only [List.length_nil, Nat.zero_add]; omega)
      refine step_app10 (.tmp 56) (.tmp 58) rfl (by kernel_rfl) ra3 ?_
      refine hK.out _ _ ta3.x (fun h => ?_)
      have T2 := Lib.hid ta3
      clear ra3 ta3
      clear hK K
      (try simp only [Act.put, List.setIfInBounds_toArray, List.set_cons_zero, List.set_cons_succ])
      refine wpAnyH_ready (rs := [6]) (by kernel_rfl) (by simp) ?_
      refine AllReadyH.cons (o := ?_) ?_ (fun K hK => ?_) AllReadyH.nil
      rotate_left
      · simp only [List.getElem?_toArray, List.getElem?_cons_zero, List.getElem?_cons_succ]; rfl
      obtain ⟨va6, wa6, ra6, ta6⟩ := T2.out.putL A2 l2 n2 c2 S2.out Hn2.out (by simp only [List.nil_append]; omega)
      refine step_app10 (.tmp 59) (.tmp 61) rfl (by kernel_rfl) ra6 ?_
      refine hK.out _ _ ta6.x (fun h => ?_)
      have T2 := Lib.hid ta6
      clear ra6 ta6
      clear hK K
      (try simp only [Act.put, List.setIfInBounds_toArray, List.set_cons_zero, List.set_cons_succ])
      refine wpAnyH_ready (rs := [10]) (by kernel_rfl) (by simp) ?_
      refine AllReadyH.cons (o := ?_) ?_ (fun K hK => ?_) AllReadyH.nil
      rotate_left
      · simp only [List.getElem?_toArray, List.getElem?_cons_zero, List.getElem?_cons_succ]; rfl
      obtain ⟨va10, wa10, ra10, ta10⟩ := T2.out.putM B1 m1 q1 d1 R1.out Hq1.out (by simp only [List.length_nil, Nat.zero_add]; omega)
      refine step_app10 (.tmp 63) (.tmp 65) rfl (by kernel_rfl) ra10 ?_
      refine hK.out _ _ ta10.x (fun h => ?_)
      have T2 := Lib.hid ta10
      clear ra10 ta10
      clear hK K
      (try simp only [Act.put, List.setIfInBounds_toArray, List.set_cons_zero, List.set_cons_succ])
      refine wpAnyH_ready (rs := [13]) (by kernel_rfl) (by simp) ?_
      refine AllReadyH.cons (o := ?_) ?_ (fun K hK => ?_) AllReadyH.nil
      rotate_left
      · simp only [List.getElem?_toArray, List.getElem?_cons_zero, List.getElem?_cons_succ]; rfl
      obtain ⟨va13, wa13, ra13, ta13⟩ := T2.out.putM B2 m2 q2 d2 R2.out Hq2.out (by simp only [List.nil_append]; omega)
      refine step_app10 (.tmp 66) (.tmp 68) rfl (by kernel_rfl) ra13 ?_
      refine hK.out _ _ ta13.x (fun h => ?_)
      have T2 := Lib.hid ta13
      clear ra13 ta13
      clear hK K
      (try simp only [Act.put, List.setIfInBounds_toArray, List.set_cons_zero, List.set_cons_succ])
      obtain ⟨Al, cl, Am, cm, e1, e2⟩ := T2.out.shape nL qL HnL.out HqL.out
      subst e1 e2
      refine wpAnyH_take (i := 14) (oi := ?_) (v := ?_) ?_ (by kernel_rfl) (by kernel_rfl) (by kernel_rfl) ?_ ?_ h ?_
      rotate_left 2
      · simp only [List.getElem?_toArray, List.getElem?_cons_zero, List.getElem?_cons_succ]; rfl
      · exact fun _ _ _ h => h
      · refine Or.inl ⟨by rfl, ?_⟩
        intro w hSw
        (try dsimp only at hSw)
        go_simp
        (try with_reducible rfl)
      (try simp only [Act.put, List.setIfInBounds_toArray, List.set_cons_zero, List.set_cons_succ])
      obtain ⟨Al, cl, Am, cm, e1, e2, _, _, _, _, hx9, hb9, hs9⟩ := T2.out.done HIN.out nL qL HnL.out HqL.out
      cases e1
      cases e2
      refine wpAnyH_ready (rs := [16]) (by kernel_rfl) (by simp) ?_
      refine AllReadyH.cons (o := ?_) ?_ (fun K hK => ?_) AllReadyH.nil
      rotate_left
      · simp only [List.getElem?_toArray, List.getElem?_cons_zero, List.getElem?_cons_succ]; rfl
      refine step_store10 27 _ _ rfl _ #[_, _] rfl rfl (T2.out.box _ rfl).1.there (by kernel_rfl) (by simp [Value.oneCell']) (by kernel_rfl) ?_
      refine hK.out _ _ hx9 (fun h => ?_)
      clear hK K
      (try simp only [Act.put])
      refine wpAnyH_done (by kernel_rfl) ?_ _
      refine NoPanic.normal ?_
      go_wp2_with fail
      go_meet
      exact FIN.out _ _ _ _ _ _ hx9 hb9 hs9
    case rest =>
      obtain ⟨B12, Al, cl, Am, cm, rfl, hx, hb, hs⟩ := hcut
      have q0 : wc.cell? ⟨b10, 0, none⟩ = some (.slice A3 n3 c3) := (k10.ext hx.out).cell 0
      have q1 : wc.cell? ⟨b10, 1, none⟩ = some (.slice B3 q3 d3) := (k10.ext hx.out).cell 1
      have r0 : wc.cell? ⟨B12, 0, none⟩ = some (.slice Al nL cl) := hb.out.cell 0
      have r1 : wc.cell? ⟨B12, 1, none⟩ = some (.slice Am qL cm) := hb.out.cell 1
      have eR : rd ⟨l1 ++ l2, m1 ++ m2⟩ = ((parseD a).1 ++ (parseD b).1, (parseD a).2 ++ (parseD b).2) := by
        have e1 := HD1.out
        have e2 := HD2.out
        rw [← e1, ← e2]
        simp [rd]
      have SM := Lib.hid (same_all (E := ⟨l1 ++ l2, m1 ++ m2⟩) (Q := ⟨Al, cl, Am, cm⟩) (G3.out.ext hx.out) hs.out)
      have OKL := G1.out.ok
      have OKM := G2.out.ok
      have CK := Lib.hid (fun w' (x : Ext wc w') => check_any ⟨l1 ++ l2, m1 ++ m2⟩ ⟨Al, cl, Am, cm⟩ (fun x hx => by
          rcases List.mem_append.1 hx with hx | hx
          · exact OKL x (List.mem_append.2 (.inl hx))
          · exact OKM x (List.mem_append.2 (.inl hx))) (fun x hx => by
          rcases List.mem_append.1 hx with hx | hx
          · exact OKL x (List.mem_append.2 (.inr hx))
          · exact OKM x (List.mem_append.2 (.inr hx))) w' (hs.out.ext x) (by rw [List.length_append]; omega) (by rw [List.length_append]; omega))
      unfold patsV at SM CK
      dsimp only at SM CK
      rw [eR] at SM CK
      rw [HD3.out] at SM
      rw [← Hn3.out, ← Hq3.out, ← HnL.out, ← HqL.out] at SM
      rw [← HnL.out, ← HqL.out] at CK
      clear OKL OKM eR FIN HIN
      rcases HCK.out with ⟨hp, rfl, hq⟩ | ⟨hp, rfl⟩
      · rw [hq, decide_eq_true rfl] at SM
        clear hp hq HCK CK
        go_wp2_with fail
        refine SM.out.mono ?_; rintro e w9 ⟨rfl, x9⟩
        go_wp2_with fail
        go_ret
        exact ⟨rfl, (X8.out.trans hx.out).trans x9⟩
      · rw [hp] at CK
        obtain ⟨s, hs'⟩ : ∃ s, decide (parseD (a ++ 10 :: b) = ((parseD a).1 ++ (parseD b).1, (parseD a).2 ++ (parseD b).2)) = s := ⟨_, rfl⟩
        rw [hs'] at SM
        clear hp hs' HCK
        go_wp2_with fail
        refine SM.out.mono ?_; rintro e w9 ⟨rfl, x9⟩
        have r0 := x9.at r0
        have r1 := x9.at r1
        go_wp2_with fail
        refine (CK.out _ x9).mono ?_; rintro e w10 ⟨rfl, x10⟩
        go_wp2_with fail
        go_ret
        exact ⟨rfl, ((X8.out.trans hx.out).trans x9).trans x10⟩

set_option maxRecDepth 100000 in
set_option maxHeartbeats 4000000 in
theorem walk (A0 : Option Addr) (a : List UInt8) (c0 : Nat) (_ : a.length ≤ c0) (_ : c0 ≤ maxLen) (A1 : Option Addr) (b : List UInt8) (c1 : Nat) (_ : b.length ≤ c1) (_ : c1 ≤ maxLen) (w : World) (h0 : SeenB w A0 a) (h1 : SeenB w A1 b) (hT : Tabs w) :
    Calls Tryd.prog 6 #[.slice A0 a.length c0, .slice A1 b.length c1] w (Ret w (.bool true)) := by
  by_cases ha : (a.length : Int) ≤ 2000
  · by_cases hb : (b.length : Int) ≤ 2000
    · exact core A0 a c0 A1 b c1 w h0 h1 hT ha hb
    · have AW := Lib.hid (awake_any w hT)
      clear h0 h1 hT
      generalize a.length = n at *
      generalize b.length = q at *
      go_enter Tryd.func6, Tryd.ntmps6
      go_wp2_with fail
      refine AW.out.mono ?_; rintro e V ⟨rfl, x1⟩
      go_wp2_with fail
      go_ret
      exact ⟨rfl, x1⟩
  · have AW := Lib.hid (awake_any w hT)
    clear h0 h1 hT
    generalize a.length = n at *
    generalize b.length = q at *
    go_enter Tryd.func6, Tryd.ntmps6
    go_wp2_with fail
    refine AW.out.mono ?_; rintro e V ⟨rfl, x1⟩
    go_wp2_with fail
    go_ret
    exact ⟨rfl, x1⟩

set_option maxRecDepth 100000 in
theorem lifted (os : Os) (started : os.Started) (H : Type) (enc : TypeId × Value → H) :
    ReturnsInHanded {} Tryd.checked os 6 .any (fun w args => (Rows.liangPartsSpec.pre enc Tryd.prog Tryd.f6 [] false w args ∧ laidMetH Tryd.prog doorLaid w) ∧ sizedMet enc Tryd.prog Tryd.f6 (OpenSpec.ofChange Rows.liangPartsSpec) false w args)
      (Rows.liangPartsSpec.post enc Tryd.prog Tryd.f6 false true false false) := by
  refine law_liftD started (by kernel_rfl) Tryd.func6 rfl rfl Tryd.underlying4 (by kernel_rfl) ?_
    (ChangeSpec.witness_shaped (enc := enc) (C := Tryd.checked) (os := os) (X := fun w _ => laidMetH Tryd.prog doorLaid w) false (World.laidAll Tryd.prog os doorLaid) #[.slice none 0 0, .slice none 0 0] 8 (World.laidAll_os _ _ _)
      (World.shaped_of_ZipB (by kernel_rfl) (by kernel_rfl)) (by kernel_rfl) (by kernel_rfl) (by kernel_rfl) (laidStart os _)) ?_
  · intro H ds h
    match ds, h with
    | [_, _], _ => rfl
  · intro W base args ds p hval hA hlt hT
    rw [Tryd.params6] at hA hval
    obtain ⟨v0, vs0, d0, ds0, p0, q0, hargs, rfl, rfl, h0, r0⟩ := trodAll_cons hA
    obtain ⟨v1, vs1, d1, ds1, p1, q1, rfl, rfl, rfl, h1, r1⟩ := trodAll_cons r0
    obtain ⟨rfl, rfl, rfl⟩ := trodAll_nil r1
    obtain rfl : args = #[v0, v1] := by cases args; simp_all
    obtain ⟨A0, l0, c0, rfl, hc0, hm0, hs0⟩ := seen_bytes Tryd.underlying22 Tryd.underlying5 (by kernel_rfl) (hval 0 22 v0 rfl rfl) h0
    obtain ⟨A1, l1, c1, rfl, hc1, hm1, hs1⟩ := seen_bytes Tryd.underlying22 Tryd.underlying5 (by kernel_rfl) (hval 1 22 v1 rfl rfl) h1
    exact walk A0 l0 c0 hc0 hm0 A1 l1 c1 hc1 hm1 W hs0 hs1 hT

theorem bare : Rows.LiangPartsSaid :=
  OpenClaim.holds_of_wide 6 Tryd.f6 rfl rfl rfl rfl rfl rfl rfl ⟨rfl, rfl, rfl, rfl, rfl⟩ rfl rfl rfl rfl rfl (by kernel_rfl) Tryd.func6 (by kernel_rfl)
    (of_decide_eq_true (by kernel_rfl)) (by unfold Func.isWrapper; first | (rw [if_pos (by decide +kernel)]; kernel_rfl) | (rw [if_neg (by decide +kernel)]; exact ⟨rfl, rfl⟩))
    (fun os started H enc _ => lifted os started H enc)
theorem holds : Rows.LiangPartsCardSaid :=
  Claim7.holds_tied_plain_at .later [] [.data, .pinned] true Rows.liangPartsCard.stood.harness false bare (fun _ h => by cases h) (by kernel_rfl) (fun _ h => by cases h) liangParts_row_tie rfl ⟨rfl, rfl⟩ (by kernel_rfl) rfl
    (fun f fn hf hfn => by
      obtain rfl : f = 6 := Option.some.inj ((show Tryd.prog.funcNamed "compositor/compositorlaw10.LiangParts" = some 6 by kernel_rfl).symm.trans hf) |>.symm
      obtain rfl : fn = Tryd.f6 := (Option.some.inj (Tryd.func6.symm.trans hfn)).symm
      exact ⟨by kernel_rfl, standsIn (ts := [22, 22]) (by kernel_rfl) (by rw [Tryd.params6])⟩)
    (by kernel_rfl)
end LiangParts
end Go.Proofs.YtijhabhnhglhgaaDoor

