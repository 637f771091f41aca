/- TextJoins: the words of two texts, one behind the other, are those of both, and the text of the first ones is what the text of all begins with: for every input. Written by gen13/joins.py. -/
import Derived.Test.YtbiklbomacjihaaDoorJoin13
import Derived.Lib.QuietBelow
namespace Go.Proofs.YtbiklbomacjihaaDoor
open Go.ChangeShapes Go.WideShapes Go.ChangeAt Go.RowKit Go.Deep
namespace TextJoins
open L13

set_option maxRecDepth 100000 in
set_option maxHeartbeats 16000000 in
theorem core (A : Option Addr) (s : List UInt8) (n c : Nat) (hn : n = s.length) (hc : n ≤ c) (hc1 : c ≤ maxLen) (B : Option Addr) (t : List UInt8) (q d : Nat) (hq : q = t.length) (hd : q ≤ d) (hd1 : d ≤ maxLen) (z : Int) (hz0 : 0 ≤ z) (hz1 : z ≤ 255) (w : World) (hs : SeenB w A s) (ht : SeenB w B t) (hT : Tabs w) (hn2 : n ≤ 2000) (hq2 : q ≤ 2000) :
    Calls Tryd.prog 8 #[.slice A n c, .slice B q d, .int .u8 z] w (Ret w (.bool true)) := by
  have P1 := Lib.hid (fun w' (x : Ext w w') => read_all A s n c w' (hs.ext x) hn (by omega) ⟨hc, hc1⟩ (hT.ext x))
  have P2 := Lib.hid (fun w' (x : Ext w w') => read_all B t q d w' (ht.ext x) hq (by omega) ⟨hd, hd1⟩ (hT.ext x))
  have R1 := Lib.hid (readA_cases s)
  have R2 := Lib.hid (readA_cases t)
  have L1 := Lib.hid (readA_len s)
  have L2 := Lib.hid (readA_len t)
  have RJ := Lib.hid (fun (h1 : (readA s).2 = 0) (h2 : (readA t).2 = 0) => readA_join h1 h2)
  have AW := Lib.hid (awake_any w hT)
  have HSS := Lib.hid (fun w' (x : Ext w w') => hs.ext x)
  have HTT := Lib.hid (fun w' (x : Ext w w') => ht.ext x)
  have HT := Lib.hid hT
  have HN := Lib.hid hn
  have HQ := Lib.hid hq
  have hn64 : (n : Int) ≤ 2000 := by omega
  have hq64 : (q : Int) ≤ 2000 := by omega
  clear hs ht hT hn hq hc hc1 hd hd1
  unfold ReadG at P1 P2
  obtain ⟨r, hr⟩ : ∃ r, r = readA s := ⟨_, rfl⟩
  obtain ⟨u, hu⟩ : ∃ u, u = readA t := ⟨_, rfl⟩
  rw [← hr] at P1 R1 L1 RJ
  rw [← hu] at P2 R2 L2 RJ
  clear hr hu
  obtain ⟨r1, r2⟩ := r
  obtain ⟨u1, u2⟩ := u
  dsimp only at P1 P2 R1 R2 L1 L2 RJ
  go_enter Tryd.func8, Tryd.ntmps8
  go_wp2_with fail
  refine AW.out.mono ?_; rintro e w1 ⟨rfl, x1⟩
  have X1 := Lib.hid x1
  clear x1 AW
  go_wp2_with fail
  refine (P1.out _ X1.out).mono ?_; rintro e w2 ⟨x2, A2, wl, c2, rfl, hwl, g2⟩
  have X2 := Lib.hid (X1.out.trans x2)
  have G2 := Lib.hid g2
  have HWL := Lib.hid hwl
  have N2 : wl.length ≤ 100 := by have := L1.out.1; rw [← hwl, List.length_map] at this; exact this
  clear x2 g2 hwl P1 X1
  obtain ⟨y2, hy2⟩ : ∃ y2, y2 = wl.length := ⟨_, rfl⟩
  have HY2 := Lib.hid hy2
  rw [← hy2] at N2 ⊢
  clear hy2
  go_wp2_with fail
  refine (P2.out _ X2.out).mono ?_; rintro e w3 ⟨x3, A3, wm, c3, rfl, hwm, g3⟩
  have X3 := Lib.hid (X2.out.trans x3)
  have G2 := Lib.hid (G2.out.ext x3)
  have G3 := Lib.hid g3
  have HWM := Lib.hid hwm
  have N3 : wm.length ≤ 100 := by have := L2.out.1; rw [← hwm, List.length_map] at this; exact this
  clear x3 g3 hwm P2 X2
  obtain ⟨y3, hy3⟩ : ∃ y3, y3 = wm.length := ⟨_, rfl⟩
  have HY3 := Lib.hid hy3
  rw [← hy3] at N3 ⊢
  clear hy3
  -- the two texts, one behind the other
  obtain ⟨WL, hWL⟩ : ∃ WL, WL = w3.alloc (.cells #[] 5) := ⟨_, rfl⟩
  have o4 : OwnB 5 w3 WL (.slice (some ⟨w3.heap.size, 0, none⟩) 0 0) [] := by rw [hWL]; exact OwnB.lit 5 w3 w3 [] #[] 0 rfl rfl (by simp) (Ext.refl _)
  obtain ⟨v5, w5, r5, o5⟩ := run_bytes13 o4 A n c s (HSS.out _ (X3.out.trans o4.2)) HN.out (by have := HN.out; simp only [List.length_nil]; omega) 22
  obtain ⟨v6, w6, r6, o6⟩ := run_bytes13 (o5.over ((Ext.refl w5).alloc (.cells #[.int .u8 32] 5))) (some ⟨w5.heap.size, 0, none⟩) 1 1 [32] ((Blk.lit w5 w5.heap.size 5 #[.int .u8 32] rfl).seen rfl) rfl (by have := HN.out; simp only [List.length_append, List.length_cons, List.length_nil]; omega) 22
  obtain ⟨v7, w7, r7, o7⟩ := run_bytes13 o6 B q d t (HTT.out _ (X3.out.trans o6.2)) HQ.out (by have := HN.out; have := HQ.out; simp only [List.length_append, List.length_cons, List.length_nil]; omega) 22
  have ej : (([] ++ s) ++ [32]) ++ t = s ++ 32 :: t := by simp
  rw [ej] at o7
  obtain ⟨A7, c7, rfl, k7, m7, s7⟩ := OwnB.look o7
  have X7 := Lib.hid (X3.out.trans o7.2)
  have E37 := Lib.hid o7.2
  have P7 := Lib.hid (read_all A7 (s ++ 32 :: t) (s ++ 32 :: t).length c7 w7 s7 rfl (by have := HN.out; have := HQ.out; simp only [List.length_append, List.length_cons]; omega) ⟨k7, m7⟩ (HT.out.ext X7.out))
  unfold ReadG at P7
  have L7 := Lib.hid (readA_len (s ++ 32 :: t))
  clear o4 o5 o6 o7 k7 m7 s7 ej
  generalize (s ++ 32 :: t).length = z7 at *
  obtain ⟨j, hj⟩ : ∃ j, j = readA (s ++ 32 :: t) := ⟨_, rfl⟩
  rw [← hj] at P7 RJ L7
  clear hj
  obtain ⟨j1, j2⟩ := j
  dsimp only at P7 L7 RJ
  subst hWL
  go_wp2_with (first | (at_builtin; first | refine wpList_ran rfl _ _ rfl r5 ?_ | refine wpList_ran rfl _ _ rfl r6 ?_ | refine wpList_ran rfl _ _ rfl r7 ?_) | fail)
  refine P7.out.mono ?_; rintro e w8 ⟨x8, A8, wo, c8, rfl, hwo, g8⟩
  have X8 := Lib.hid (X7.out.trans x8)
  have G2 := Lib.hid (G2.out.ext (E37.out.trans x8))
  have G3 := Lib.hid (G3.out.ext (E37.out.trans x8))
  have G8 := Lib.hid g8
  have HWO := Lib.hid hwo
  have N8 : wo.length ≤ 100 := by have := L7.out.1; rw [← hwo, List.length_map] at this; exact this
  clear x8 g8 hwo P7 X7 E37 r5 r6 r7
  obtain ⟨y8, hy8⟩ : ∃ y8, y8 = wo.length := ⟨_, rfl⟩
  have HY8 := Lib.hid hy8
  rw [← hy8] at N8 ⊢
  clear hy8
  have a2 : (y2 : Int) ≤ 100 := by omega
  have a3 : (y3 : Int) ≤ 100 := by omega
  rcases R1.out with ⟨h1, h1c⟩ | ⟨h1, h1e⟩
  · subst h1
    rcases R2.out with ⟨h2, h2c⟩ | ⟨h2, h2e⟩
    · subst h2
      have RJ2 := RJ.out rfl rfl
      have HB := Lib.hid (show (wl ++ wm).map tw = r1 ++ u1 by rw [List.map_append, HWL.out, HWM.out])
      obtain ⟨WC, hWC⟩ : ∃ WC, WC = w8.alloc (.cells #[] 36) := ⟨_, rfl⟩
      have oc : OwnC w8 WC (.slice (some ⟨w8.heap.size, 0, none⟩) 0 0) [] := by rw [hWC]; exact OwnC.lit w8
      obtain ⟨v9, w9, r9, o9⟩ := oc.put A2 wl y2 c2 (G2.out.sn.ext oc.2) HY2.out (by have := HY2.out; simp only [List.length_nil]; omega) 24
      obtain ⟨v10, w10, r10, o10⟩ := o9.put A3 wm y3 c3 (G3.out.sn.ext o9.2) HY3.out (by have := HY2.out; have := HY3.out; simp only [List.nil_append]; omega) 24
      rw [List.nil_append] at o10
      obtain ⟨A10, c10, rfl, k10, m10, s10⟩ := o10.look (fun x hx => (List.mem_append.1 hx).elim (fun h => G2.out.sn.inner x h) (fun h => G3.out.sn.inner x h))
      have OK10 := Lib.hid (show ∀ x ∈ wl ++ wm, x.Ok from fun x hx => (List.mem_append.1 hx).elim (fun h => G2.out.ok x h) (fun h => G3.out.ok x h))
      have S10 := Lib.hid s10
      have X10 := Lib.hid (X8.out.trans o10.2)
      have E10 := Lib.hid o10.2
      obtain ⟨N, hN⟩ : ∃ N, N = (wl ++ wm).length := ⟨_, rfl⟩
      have HNN := Lib.hid hN
      have C10 := Lib.hid (fun w' (x : Ext w10 w') => check_any A10 (wl ++ wm) N c10 w' (S10.out.ext x) HNN.out OK10.out)
      rw [HB.out] at C10
      have N1 : 1 ≤ N := by
        have e1 := HWL.out
        have e2 := (check_parts h1c).1
        rw [← e1, List.length_map] at e2
        rw [hN, List.length_append]; omega
      have N2 : N ≤ 200 := by rw [hN, List.length_append]; have := HY2.out; have := HY3.out; omega
      rw [← hN] at k10 r10
      clear oc o9 o10 s10 hN h1c h2c
      subst hWC
      have b1 : (N : Int) ≤ 200 := by omega
      have b2 : 1 ≤ (N : Int) := by omega
      cases hcb : checkB (r1 ++ u1) with
      | false =>
        rw [hcb, if_neg (by decide)] at RJ2
        rw [hcb] at C10
        simp only [Prod.mk.injEq] at RJ2
        obtain ⟨rfl, rfl⟩ := RJ2
        clear hcb
        go_wp2_with (first | (at_builtin; first | refine wpList_ran rfl _ _ rfl r9 ?_ | refine wpList_ran rfl _ _ rfl r10 ?_) | fail)
        clear r9 r10
        refine (C10.out _ (Ext.refl _)).mono ?_; rintro e w11 ⟨rfl, x11⟩
        go_wp2_with fail
        go_ret
        exact ⟨rfl, X10.out.trans x11⟩
      | true =>
        rw [hcb, if_pos rfl] at RJ2
        rw [hcb] at C10
        simp only [Prod.mk.injEq] at RJ2
        obtain ⟨rfl, rfl⟩ := RJ2
        obtain ⟨zz, rfl⟩ := Int.eq_ofNat_of_zero_le hz0
        obtain ⟨k, hk⟩ : ∃ k, k = zz % N := ⟨_, rfl⟩
        have hkN : k < N := by rw [hk]; exact Nat.mod_lt _ (by omega)
        have hmod : Int.tmod (zz : Int) (N : Int) = (k : Int) := by rw [hk]; exact (Int.ofNat_tmod zz N).symm
        have hmod' : (zz : Int) % (N : Int) = (k : Int) := by rw [hk]; omega
        have hmax : max (N : Int) 1 = (N : Int) := by omega
        have hk1 : (k : Int) < (N : Int) := by omega
        clear hk
        go_wp2_with (first | (at_builtin; first | refine wpList_ran rfl _ _ rfl r9 ?_ | refine wpList_ran rfl _ _ rfl r10 ?_) | fail)
        clear r9 r10 hmod hmod' hmax
        have CT := check_take hcb (k := 1 + k) (by omega)
        have TK := textL_take (r1 ++ u1) (1 + k)
        have HB1 : ((wl ++ wm).take (1 + k)).map tw = (r1 ++ u1).take (1 + k) := by rw [List.map_take, HB.out]
        have P11 := Lib.hid (write_all A10 ((wl ++ wm).take (1 + k)) (1 + k) c10 w10 (SeenC.take S10.out _) (by rw [List.length_take, ← HNN.out]; omega) (fun x hx => OK10.out x (List.mem_of_mem_take hx)))
        have P12 := Lib.hid (fun w' (x : Ext w10 w') => write_all A8 wo y8 c8 w' (G8.out.ext (E10.out.trans x)).sn HY8.out (G8.out.ext (E10.out.trans x)).ok)
        have YM : (textL (r1 ++ u1)).length ≤ 20000 := by
          have CP := check_parts hcb
          have h1 := textL_most CP.2.2.1
          have h2 := CP.2.1
          omega
        unfold WriteG textA at P11 P12
        rw [HB1, CT, if_pos rfl] at P11
        rw [HWO.out, hcb, if_pos rfl] at P12
        clear CT HB1 hcb
        dsimp only at P11 P12
        obtain ⟨X, hX⟩ : ∃ X, X = textL ((r1 ++ u1).take (1 + k)) := ⟨_, rfl⟩
        obtain ⟨Y, hY⟩ : ∃ Y, Y = textL (r1 ++ u1) := ⟨_, rfl⟩
        rw [← hX] at P11 TK
        rw [← hY] at P12 TK YM
        clear hX hY
        refine P11.out.mono ?_; rintro e w11 ⟨x11, A11, c11, rfl, k11, m11, s11⟩
        have X11 := Lib.hid x11
        have S11 := Lib.hid s11
        have YX1 := TK.1
        have YX2 := Lib.hid TK.2
        obtain ⟨x, hx⟩ : ∃ x, x = X.length := ⟨_, rfl⟩
        obtain ⟨y, hy⟩ : ∃ y, y = Y.length := ⟨_, rfl⟩
        have HX := Lib.hid hx
        rw [← hx] at k11 YX1 YX2 ⊢
        rw [← hy] at P12 YX1 YM
        clear x11 s11 TK P11 hx hy
        have z1 : (x : Int) ≤ (y : Int) := by omega
        have z2 : (y : Int) ≤ 20000 := by omega
        go_wp2_with fail
        refine (P12.out _ X11.out).mono ?_; rintro e w12 ⟨x12, A12, c12, rfl, k12, m12, s12⟩
        have X12 := Lib.hid (X11.out.trans x12)
        have s11 := S11.out.ext x12
        have sx := s12.take x
        rw [YX2.out] at sx
        have z3 : (y : Int) ≤ (c12 : Int) := by omega
        have CK := Lib.hid (fun dd os => C10.out (Sort.grow (redrawn w12 dd) os) (X12.out.trans (below_regrown _ _ _)))
        have SM := Lib.hid (fun dd os => rsame_any A8 A10 wo (wl ++ wm) y8 N c8 c10 (Sort.grow (redrawn w12 dd) os) (G8.out.ext (E10.out.trans (X12.out.trans (below_regrown _ _ _)))).sn (S10.out.ext (X12.out.trans (below_regrown _ _ _))) HY8.out HNN.out (by omega) (word_in (wl := wo) (by rw [HWO.out]; exact L7.out.2)))
        rw [HWO.out, HB.out, decide_eq_true rfl] at SM
        have cv1 := fun dd os => SeenB.str (P := Tryd.prog) (SeenB.ext sx (below_regrown w12 dd os)) 22 9 5 c12 x Tryd.underlying22 Tryd.underlying5 Tryd.underlying9 HX.out
        have cv2 := fun dd os => SeenB.str (P := Tryd.prog) (SeenB.ext s11 (below_regrown w12 dd os)) 22 9 5 c11 x Tryd.underlying22 Tryd.underlying5 Tryd.underlying9 HX.out
        generalize (⟨X.toArray⟩ : ByteArray) = S at *
        clear x12 P12 s11 s12 sx S11 X11 k11 m11 k12 m12 YX2 S10 C10 G2 G3 G8 HX HWO HB L7 E10 OK10 HNN HY8
        go_wp2_with fail
        refine wp_region_quiet_below (by kernel_rfl) (by kernel_rfl) ?_
        repeat (go_big_quiet_step (first | (with_reducible exact rg13 (CK.out _ _)) | (with_reducible exact rg13 (SM.out _ _))))
        refine wpQuiet_nil ?_
        intro _ hw'
        obtain ⟨⟨dq, osq⟩, hw''⟩ := hw'
        subst hw''
        have X13 := Lib.hid (X10.out.trans (X12.out.trans (below_regrown w12 dq osq)))
        clear cv1 cv2 CK SM X12 X10
        go_wp2_with fail
        go_ret
        exact ⟨rfl, X13.out⟩
    · subst h2 h2e
      have z3 : y3 = 0 := by
        have := HWM.out
        rw [List.map_eq_nil_iff] at this
        rw [HY3.out, this]; rfl
      subst z3
      go_wp2_with fail
      go_ret
      exact ⟨rfl, X8.out⟩
  · subst h1 h1e
    have z2 : y2 = 0 := by
      have := HWL.out
      rw [List.map_eq_nil_iff] at this
      rw [HY2.out, this]; rfl
    subst z2
    go_wp2_with fail
    go_ret
    exact ⟨rfl, X8.out⟩
set_option maxRecDepth 100000 in
set_option maxHeartbeats 4000000 in
theorem walk (A0 : Option Addr) (l : List UInt8) (c0 : Nat) (hc0 : l.length ≤ c0) (hm0 : c0 ≤ maxLen) (A1 : Option Addr) (t : List UInt8) (c1 : Nat) (hc1 : t.length ≤ c1) (hm1 : c1 ≤ maxLen) (z : Int) (hz : 0 ≤ z ∧ z ≤ 255) (w : World) (h0 : SeenB w A0 l) (h1 : SeenB w A1 t) (hT : Tabs w) :
    Calls Tryd.prog 8 #[.slice A0 l.length c0, .slice A1 t.length c1, .int .u8 z] w (Ret w (.bool true)) := by
  have AW := Lib.hid (awake_any w hT)
  by_cases hl : l.length ≤ 2000
  · by_cases ht : t.length ≤ 2000
    · exact core A0 l l.length c0 rfl hc0 hm0 A1 t t.length c1 rfl hc1 hm1 z hz.1 hz.2 w h0 h1 hT hl ht
    · have hl : (l.length : Int) ≤ 2000 := by omega
      have ht : (2000 : Int) < (t.length : Int) := by omega
      clear h0 h1 hT hc0 hc1 hz
      generalize l.length = n at *
      generalize t.length = m at *
      go_enter Tryd.func8, Tryd.ntmps8
      go_wp2_with fail
      refine AW.out.mono ?_; rintro e V ⟨rfl, x1⟩
      go_wp2_with fail
      go_ret
      exact ⟨rfl, x1⟩
  · have hl : (2000 : Int) < (l.length : Int) := by omega
    clear h0 h1 hT hc0 hc1 hz
    generalize l.length = n at *
    generalize t.length = m at *
    go_enter Tryd.func8, Tryd.ntmps8
    go_wp2_with fail
    refine AW.out.mono ?_; rintro e V ⟨rfl, x1⟩
    go_wp2_with fail
    go_ret
    exact ⟨rfl, x1⟩

set_option maxRecDepth 100000 in
theorem lifted (os : Os) (started : os.Started) (H : Type) (enc : TypeId × Value → H) :
    ReturnsInHanded {} Tryd.checked os 8 .any (fun w args => (Rows.textJoinsSpec.pre enc Tryd.prog Tryd.f8 [] false w args ∧ laidMetH Tryd.prog doorLaid w) ∧ sizedMet enc Tryd.prog Tryd.f8 (OpenSpec.ofChange Rows.textJoinsSpec) false w args)
      (Rows.textJoinsSpec.post enc Tryd.prog Tryd.f8 false true false false) := by
  refine law_liftD started (by kernel_rfl) Tryd.func8 rfl rfl Tryd.underlying4 (by kernel_rfl) ?_
    (ChangeSpec.witness_shaped (enc := enc) (C := Tryd.checked) (os := os) (X := fun w _ => laidMetH Tryd.prog doorLaid w) false (World.laidAll Tryd.prog os doorLaid) #[.slice none 0 0, .slice none 0 0, .int .u8 0] 8 (World.laidAll_os _ _ _)
      (World.shaped_of_ZipB (by kernel_rfl) (by kernel_rfl)) (by kernel_rfl) (by kernel_rfl) (by kernel_rfl) (laidStart os _)) ?_
  · intro H ds h
    match ds, h with
    | [_, _, _], _ => rfl
  · intro W base args ds p hval hA hlt hT
    rw [Tryd.params8] at hA hval
    obtain ⟨v0, vs0, d0, ds0, p0, q0, hargs, rfl, rfl, h0, r0⟩ := trodAll_cons hA
    obtain ⟨v1, vs1, d1, ds1, p1, q1, rfl, rfl, rfl, h1, r1⟩ := trodAll_cons r0
    obtain ⟨v2, vs2, d2, ds2, p2, q2, rfl, rfl, rfl, h2, r2⟩ := trodAll_cons r1
    obtain ⟨rfl, rfl, rfl⟩ := trodAll_nil r2
    obtain rfl : args = #[v0, v1, v2] := by cases args; simp_all
    obtain ⟨A0, l0, c0, rfl, hc0, hm0, hs0⟩ := seen_bytes Tryd.underlying22 Tryd.underlying5 (by kernel_rfl) (hval 0 22 v0 rfl rfl) h0
    obtain ⟨A1, l1, c1, rfl, hc1, hm1, hs1⟩ := seen_bytes Tryd.underlying22 Tryd.underlying5 (by kernel_rfl) (hval 1 22 v1 rfl rfl) h1
    obtain ⟨a2, rfl, rfl, rfl, wf2⟩ := open_int Tryd.underlying5 (hval 2 5 v2 rfl rfl) h2
    exact walk A0 l0 c0 hc0 hm0 A1 l1 c1 hc1 hm1 a2 (bounds_u8 wf2) W hs0 hs1 hT

theorem bare : Rows.TextJoinsSaid :=
  OpenClaim.holds_of_wide 8 Tryd.f8 rfl rfl rfl rfl rfl rfl rfl ⟨rfl, rfl, rfl, rfl, rfl⟩ rfl rfl rfl rfl rfl (by kernel_rfl) Tryd.func8 (by kernel_rfl)
    (of_decide_eq_true (by kernel_rfl)) (by unfold Func.isWrapper; first | (rw [if_pos (by decide +kernel)]; kernel_rfl) | (rw [if_neg (by decide +kernel)]; exact ⟨rfl, rfl⟩))
    (fun os started H enc _ => lifted os started H enc)
theorem holds : Rows.TextJoinsCardSaid :=
  Claim7.holds_tied_plain_at .later [] [.data, .pinned] true Rows.textJoinsCard.stood.harness false bare (fun _ h => by cases h) (by kernel_rfl) (fun _ h => by cases h) textJoins_row_tie rfl ⟨rfl, rfl⟩ (by kernel_rfl) rfl
    (fun f fn hf hfn => by
      obtain rfl : f = 8 := Option.some.inj ((show Tryd.prog.funcNamed "compositor/compositorlaw13.TextJoins" = some 8 by kernel_rfl).symm.trans hf) |>.symm
      obtain rfl : fn = Tryd.f8 := (Option.some.inj (Tryd.func8.symm.trans hfn)).symm
      exact ⟨by kernel_rfl, standsIn (ts := [22, 22, 5]) (by kernel_rfl) (by rw [Tryd.params8])⟩)
    (by kernel_rfl)
end TextJoins
end Go.Proofs.YtbiklbomacjihaaDoor

