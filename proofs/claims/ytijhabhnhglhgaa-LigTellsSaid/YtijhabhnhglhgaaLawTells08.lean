/- LigTells: whether any font's program may be, the glyphs of any codes, and the codes of which any are made, are what the document says, or its error (at most three hundred of each; a hundred codes each): for every input. -/
import Derived.Test.YtijhabhnhglhgaaRExpand08
import Derived.Test.YtijhabhnhglhgaaRSet08
import Derived.Test.YtijhabhnhglhgaaAwake08
import Derived.Test.YtijhabhnhglhgaaLigMath08
import Derived.Test.YtijhabhnhglhgaaMid09
namespace Go.Proofs.Ytijhabhnhglhgaa
open Go.ChangeShapes Go.WideShapes Go.ChangeAt Go.RowKit Go.Lib
namespace LigTells
open L07 L08

theorem getD_bounds {l : List Int} (h : ∀ n ∈ l, (Lit.int .i64 n).wf = true) (j : Nat) : -9223372036854775808 ≤ l.getD j 0 ∧ l.getD j 0 ≤ 9223372036854775807 := by
  by_cases hj : j < l.length
  · rw [List.getD, List.getElem?_eq_getElem hj]
    exact bounds_i64 (h _ (List.getElem_mem hj))
  · rw [List.getD, List.getElem?_eq_none (by omega)]
    simp
theorem setR_length (D : FontD) (l : List Int) : (setR D l).1.length ≤ l.length := by
  unfold setR
  split
  · split
    · cases l with
      | nil => simp [glyD]
      | cons a r =>
        have h1 := glyL_length D r a
        simp only [glyD, List.length_cons]
        omega
    · simp
  · simp
theorem expL_length (m : MapN) : ∀ l : List Int, (expL m l).length ≤ 301 * l.length
  | [] => by simp [expL]
  | a :: r => by
    have h1 := expL_length m r
    have h2 := exp1_length m 300 a
    have e : expL m (a :: r) = exp1 m 300 a ++ expL m r := rfl
    rw [e, List.length_append, List.length_cons]
    omega
theorem expandR_length (D : FontD) (l : List Int) : (expandR D l).1.length ≤ 301 * l.length := by
  unfold expandR
  split
  · simp
  · exact expL_length _ l

set_option maxRecDepth 100000 in
set_option maxHeartbeats 16000000 in
theorem core (D : FontD) (P : FontP) (A B2 : Option Addr) (n m c d : Nat) (hn : (n : Int) ≤ 9223372036854775807) (hm : (m : Int) ≤ 9223372036854775807) (g : List (Int × Int)) (x : List Int) (er ex : Int) (ck : Bool) (w : World)
    (K1 : n ≤ 100 → ∀ w', Ext w w' → Calls Try.prog 11 #[.agg #[.int .i64 D.sum, .int .i64 D.design, .int .i64 D.first, .slice P.xc D.nc P.zc, .slice P.xw D.nw P.zw, .slice P.xh D.nh P.zh, .slice P.xd D.nd P.zd, .slice P.xi D.ni P.zi, .slice P.xs D.ns P.zs, .slice P.xk D.nk P.zk, .slice P.xp D.np P.zp], .slice A n c] w' (GlyQ w' (g, er)))
    (K2 : n ≤ 100 → ∀ w', Ext w w' → Calls Try.prog 12 #[.agg #[.int .i64 D.sum, .int .i64 D.design, .int .i64 D.first, .slice P.xc D.nc P.zc, .slice P.xw D.nw P.zw, .slice P.xh D.nh P.zh, .slice P.xd D.nd P.zd, .slice P.xi D.ni P.zi, .slice P.xs D.ns P.zs, .slice P.xk D.nk P.zk, .slice P.xp D.np P.zp], .slice A n c] w' (GlyQ w' (g, er)))
    (K3 : m ≤ 100 → ∀ w', Ext w w' → Calls Try.prog 13 #[.agg #[.int .i64 D.sum, .int .i64 D.design, .int .i64 D.first, .slice P.xc D.nc P.zc, .slice P.xw D.nw P.zw, .slice P.xh D.nh P.zh, .slice P.xd D.nd P.zd, .slice P.xi D.ni P.zi, .slice P.xs D.ns P.zs, .slice P.xk D.nk P.zk, .slice P.xp D.np P.zp], .slice B2 m d] w' (IntsQ w' (x, ex)))
    (K4 : m ≤ 100 → ∀ w', Ext w w' → Calls Try.prog 14 #[.agg #[.int .i64 D.sum, .int .i64 D.design, .int .i64 D.first, .slice P.xc D.nc P.zc, .slice P.xw D.nw P.zw, .slice P.xh D.nh P.zh, .slice P.xd D.nd P.zd, .slice P.xi D.ni P.zi, .slice P.xs D.ns P.zs, .slice P.xk D.nk P.zk, .slice P.xp D.np P.zp], .slice B2 m d] w' (IntsQ w' (x, ex)))
    (K5 : ∀ w', Ext w w' → Calls Try.prog 17 #[.agg #[.int .i64 D.sum, .int .i64 D.design, .int .i64 D.first, .slice P.xc D.nc P.zc, .slice P.xw D.nw P.zw, .slice P.xh D.nh P.zh, .slice P.xd D.nd P.zd, .slice P.xi D.ni P.zi, .slice P.xs D.ns P.zs, .slice P.xk D.nk P.zk, .slice P.xp D.np P.zp]] w' (Ret w' (.bool ck)))
    (K6 : ∀ w', Ext w w' → Calls Try.prog 18 #[.agg #[.int .i64 D.sum, .int .i64 D.design, .int .i64 D.first, .slice P.xc D.nc P.zc, .slice P.xw D.nw P.zw, .slice P.xh D.nh P.zh, .slice P.xd D.nd P.zd, .slice P.xi D.ni P.zi, .slice P.xs D.ns P.zs, .slice P.xk D.nk P.zk, .slice P.xp D.np P.zp]] w' (Ret w' (.bool ck)))
    (hg : n ≤ 100 → g.length ≤ 1000000) (hx : m ≤ 100 → x.length ≤ 1000000) :
    Calls Try.prog 4 #[.agg #[.int .i64 D.sum, .int .i64 D.design, .int .i64 D.first, .slice P.xc D.nc P.zc, .slice P.xw D.nw P.zw, .slice P.xh D.nh P.zh, .slice P.xd D.nd P.zd, .slice P.xi D.ni P.zi, .slice P.xs D.ns P.zs, .slice P.xk D.nk P.zk, .slice P.xp D.np P.zp], .slice A n c, .slice B2 m d] w (Ret w (.bool true)) := by
  obtain ⟨V, hV⟩ : ∃ V, V = w.alloc (.cells #[.int .i64 D.sum, .int .i64 D.design, .int .i64 D.first, .slice P.xc D.nc P.zc, .slice P.xw D.nw P.zw, .slice P.xh D.nh P.zh, .slice P.xd D.nd P.zd, .slice P.xi D.ni P.zi, .slice P.xs D.ns P.zs, .slice P.xk D.nk P.zk, .slice P.xp D.np P.zp] 28) := ⟨_, rfl⟩
  have W0 : Ext w V := by rw [hV]; exact (Ext.refl _).alloc _
  have kF : Blk V w.heap.size 28 [.int .i64 D.sum, .int .i64 D.design, .int .i64 D.first, .slice P.xc D.nc P.zc, .slice P.xw D.nw P.zw, .slice P.xh D.nh P.zh, .slice P.xd D.nd P.zd, .slice P.xi D.ni P.zi, .slice P.xs D.ns P.zs, .slice P.xk D.nk P.zk, .slice P.xp D.np P.zp] := by rw [hV]; exact Blk.lit _ _ _ _ rfl
  have K1 := Lib.hid (fun h w' (x : Ext V w') => K1 h w' (W0.trans x))
  have K2 := Lib.hid (fun h w' (x : Ext V w') => K2 h w' (W0.trans x))
  have K3 := Lib.hid (fun h w' (x : Ext V w') => K3 h w' (W0.trans x))
  have K4 := Lib.hid (fun h w' (x : Ext V w') => K4 h w' (W0.trans x))
  have K5 := Lib.hid (fun w' (x : Ext V w') => K5 w' (W0.trans x))
  have K6 := Lib.hid (fun w' (x : Ext V w') => K6 w' (W0.trans x))
  have KF := Lib.hid (fun w' => show Calls Try.prog 10 #[.agg #[.int .i64 D.sum, .int .i64 D.design, .int .i64 D.first, .slice P.xc D.nc P.zc, .slice P.xw D.nw P.zw, .slice P.xh D.nh P.zh, .slice P.xd D.nd P.zd, .slice P.xi D.ni P.zi, .slice P.xs D.ns P.zs, .slice P.xk D.nk P.zk, .slice P.xp D.np P.zp]] w' (Ret w' (.bool (fewB D))) from few_any D P w')
  have HGL := Lib.hid hg
  have HXL := Lib.hid hx
  clear hg hx
  go_enter Try.func4, Try.ntmps4
  go_upto_region 1 with (fail)
  rw [← hV]
  clear hV
  generalize w.heap.size = B at *
  have HG := Lib.hid kF
  have HW := Lib.hid W0
  clear kF W0
  go_wp2_with fail
  refine (awake_any _).mono ?_; rintro e w1 ⟨rfl, x1⟩
  have X1 := Lib.hid x1
  have HG1 := Lib.hid (HG.out.ext x1)
  clear x1
  go_wp2_with (first | (refine wpList_load_mid rfl 28 _ rfl B 0 rfl [.int .i64 D.sum, .int .i64 D.design, .int .i64 D.first, .slice P.xc D.nc P.zc, .slice P.xw D.nw P.zw, .slice P.xh D.nh P.zh, .slice P.xd D.nd P.zd, .slice P.xi D.ni P.zi, .slice P.xs D.ns P.zs, .slice P.xk D.nk P.zk, .slice P.xp D.np P.zp] _ HG1.out.range Try.underlying28 rfl (by kernel_rfl) ?_) | fail)
  refine (KF.out _).mono ?_; rintro e w2 ⟨rfl, x2⟩
  have X2 := Lib.hid (X1.out.trans x2)
  have HG2 := Lib.hid (HG1.out.ext x2)
  clear x2
  cases fewB D with
  | false =>
    go_wp2_with fail
    go_ret
    exact ⟨rfl, HW.out.trans X2.out⟩
  | true =>
  by_cases hn1 : 100 < (n : Int)
  · go_wp2_with fail
    go_ret
    exact ⟨rfl, HW.out.trans X2.out⟩
  by_cases hm1 : 100 < (m : Int)
  · go_wp2_with fail
    go_ret
    exact ⟨rfl, HW.out.trans X2.out⟩
  have hn2 : n ≤ 100 := by omega
  have hm2 : m ≤ 100 := by omega
  go_wp2_with (first | (refine wpList_load_mid rfl 28 _ rfl B 0 rfl [.int .i64 D.sum, .int .i64 D.design, .int .i64 D.first, .slice P.xc D.nc P.zc, .slice P.xw D.nw P.zw, .slice P.xh D.nh P.zh, .slice P.xd D.nd P.zd, .slice P.xi D.ni P.zi, .slice P.xs D.ns P.zs, .slice P.xk D.nk P.zk, .slice P.xp D.np P.zp] _ HG2.out.range Try.underlying28 rfl (by kernel_rfl) ?_) | fail)
  refine (K1.out hn2 _ X2.out).mono ?_; rintro e w3 ⟨x3, A3, c3, rfl, h3, h3', s3⟩
  have X3 := Lib.hid (X2.out.trans x3)
  have HG3 := Lib.hid (HG2.out.ext x3)
  have S3 := Lib.hid s3
  clear x3 s3
  go_wp2_with (first | (refine wpList_load_mid rfl 28 _ rfl B 0 rfl [.int .i64 D.sum, .int .i64 D.design, .int .i64 D.first, .slice P.xc D.nc P.zc, .slice P.xw D.nw P.zw, .slice P.xh D.nh P.zh, .slice P.xd D.nd P.zd, .slice P.xi D.ni P.zi, .slice P.xs D.ns P.zs, .slice P.xk D.nk P.zk, .slice P.xp D.np P.zp] _ HG3.out.range Try.underlying28 rfl (by kernel_rfl) ?_) | fail)
  refine (K2.out hn2 _ X3.out).mono ?_; rintro e w4 ⟨x4, A4, c4, rfl, h4, h4', s4⟩
  have X4 := Lib.hid (X3.out.trans x4)
  have HG4 := Lib.hid (HG3.out.ext x4)
  have S3 := Lib.hid (S3.out.ext x4)
  have S4 := Lib.hid s4
  clear x4 s4
  go_wp2_with (first | (refine wpList_load_mid rfl 28 _ rfl B 0 rfl [.int .i64 D.sum, .int .i64 D.design, .int .i64 D.first, .slice P.xc D.nc P.zc, .slice P.xw D.nw P.zw, .slice P.xh D.nh P.zh, .slice P.xd D.nd P.zd, .slice P.xi D.ni P.zi, .slice P.xs D.ns P.zs, .slice P.xk D.nk P.zk, .slice P.xp D.np P.zp] _ HG4.out.range Try.underlying28 rfl (by kernel_rfl) ?_) | fail)
  refine (K3.out hm2 _ X4.out).mono ?_; rintro e w5 ⟨x5, A5, c5, rfl, h5, h5', s5⟩
  have X5 := Lib.hid (X4.out.trans x5)
  have HG5 := Lib.hid (HG4.out.ext x5)
  have S3 := Lib.hid (S3.out.ext x5)
  have S4 := Lib.hid (S4.out.ext x5)
  have S5 := Lib.hid s5
  clear x5 s5
  go_wp2_with (first | (refine wpList_load_mid rfl 28 _ rfl B 0 rfl [.int .i64 D.sum, .int .i64 D.design, .int .i64 D.first, .slice P.xc D.nc P.zc, .slice P.xw D.nw P.zw, .slice P.xh D.nh P.zh, .slice P.xd D.nd P.zd, .slice P.xi D.ni P.zi, .slice P.xs D.ns P.zs, .slice P.xk D.nk P.zk, .slice P.xp D.np P.zp] _ HG5.out.range Try.underlying28 rfl (by kernel_rfl) ?_) | fail)
  refine (K4.out hm2 _ X5.out).mono ?_; rintro e w6 ⟨x6, A6, c6, rfl, h6, h6', s6⟩
  have X6 := Lib.hid (X5.out.trans x6)
  have HG6 := Lib.hid (HG5.out.ext x6)
  have S3 := Lib.hid (S3.out.ext x6)
  have S4 := Lib.hid (S4.out.ext x6)
  have S5 := Lib.hid (S5.out.ext x6)
  have S6 := Lib.hid s6
  clear x6 s6
  have hxl : x.length ≤ 9223372036854775806 := Nat.le_trans (HXL.out hm2) (by omega)
  have SA := Lib.hid (gsame_any A3 A4 g g c3 c4 w6 S3.out S4.out (HGL.out hn2))
  rw [show sameG g g = true from decide_eq_true rfl] at SA
  have SB := Lib.hid (fun w' (y : Ext w6 w') => L04.same_any A5 A6 x.length x.length c5 c6 (fun j => x.getD j 0) (fun j => x.getD j 0) w' (S5.out.ext y) (S6.out.ext y) hxl)
  rw [show L04.sameB x.length x.length (fun j => x.getD j 0) (fun j => x.getD j 0) = true from decide_eq_true ⟨rfl, fun _ _ => rfl⟩] at SB
  try dsimp only
  generalize g.length = gl at *
  generalize x.length = xl at *
  clear S3 S4 S5 S6 h3 h3' h4 h4' h5 h5' h6 h6' hxl
  go_wp2_with fail
  refine SA.out.mono ?_; rintro e w7 ⟨rfl, x7⟩
  have X7 := Lib.hid (X6.out.trans x7)
  have HG7 := Lib.hid (HG6.out.ext x7)
  go_wp2_with fail
  refine (SB.out _ x7).mono ?_; rintro e w8 ⟨rfl, x8⟩
  have X8 := Lib.hid (X7.out.trans x8)
  have HG8 := Lib.hid (HG7.out.ext x8)
  clear x7 x8
  have D5 := fun d os => K5.out (Sort.grow (redrawn w8 d) os) (X8.out.trans (below_regrown _ _ _))
  have D6 := fun d os => K6.out (Sort.grow (redrawn w8 d) os) (X8.out.trans (below_regrown _ _ _))
  have RG := Lib.hid (range_regrown HG8.out)
  have SOME := Lib.hid (some_regrown w8)
  cases ck
  all_goals
    go_wp2_with fail
    refine wp_region_quiet_below (by kernel_rfl) (by kernel_rfl) ?_
    repeat (first | (go_big_quiet_want; refine quiet_load 28 B rfl _ RG.out SOME.out Try.underlying28 rfl (by kernel_rfl) ?_; go_big_quiet_op; go_big_quiet_on) | go_big_quiet_step (first | (with_reducible exact rg (D5 _ _)) | (with_reducible exact rg (D6 _ _))))
    refine wpQuiet_nil ?_
    intro _ hw'
    obtain ⟨⟨dq, osq⟩, hw''⟩ := hw'
    subst hw''
    have z5 : Ext w8 (Sort.grow (redrawn w8 dq) osq) := below_regrown _ _ _
    clear D5 D6
    go_wp2_with fail
    go_ret
    exact ⟨rfl, (HW.out.trans X8.out).trans z5⟩

set_option maxRecDepth 100000 in
set_option maxHeartbeats 4000000 in
theorem walk (D : FontD) (P : FontP) (ok : FontOk D P) (A : Option Addr) (l : List Int) (c : Nat) (hc : l.length ≤ c) (hm : c ≤ maxLen) (hw : ∀ n ∈ l, (Lit.int .i64 n).wf = true) (A2 : Option Addr) (l2 : List Int) (c2 : Nat) (hc2 : l2.length ≤ c2) (hm2 : c2 ≤ maxLen) (hw2 : ∀ n ∈ l2, (Lit.int .i64 n).wf = true) (w : World) (sn : SeenFont w D P)
    (hs : Seen w.heap.size w A (l.map (.int .i64))) (hs2 : Seen w.heap.size w A2 (l2.map (.int .i64))) :
    Calls Try.prog 4 #[fontV D P, .slice A l.length c, .slice A2 l2.length c2] w (Ret w (.bool true)) := by
  have hl := hs.fn
  have hl2 := hs2.fn
  have hb := getD_bounds hw
  have hb2 := getD_bounds hw2
  refine core D P A A2 l.length l2.length c c2 (by unfold maxLen at hm; omega) (by unfold maxLen at hm2; omega) (setR D l).1 (expandR D l2).1 (setR D l).2 (expandR D l2).2 (ligB D) w
    (fun h w' x => lset_any D P A l c w' ok (sn.ext x) (hl.ext x) (by omega) hc hm) (fun h w' x => rset_any D P A l c w' ok (sn.ext x) (hl.ext x) hb (by omega))
    (fun h w' x => lexpand_any D P A2 l2 c2 w' ok (sn.ext x) (hl2.ext x) hb2 (by omega)) (fun h w' x => rexpand_any D P A2 l2 c2 w' ok (sn.ext x) (hl2.ext x) (by omega))
    (fun w' x => lcheck_any D P w' ok (sn.ext x)) (fun w' x => rcheck_any D P w' ok (sn.ext x)) (fun h => Nat.le_trans (setR_length D l) (by omega)) (fun h => Nat.le_trans (expandR_length D l2) (by omega))

set_option maxRecDepth 100000 in
theorem lifted (os : Os) (started : os.Started) (H : Type) (enc : TypeId × Value → H) :
    ReturnsInHanded {} Try.checked os 4 .any (Rows.ligTellsSpec.pre6 enc Try.prog Try.f4 [] false) (Rows.ligTellsSpec.post enc Try.prog Try.f4 false true false false) := by
  refine law_lift (C := Try.checked) own started (by kernel_rfl) Try.func4 laidOut rfl rfl Try.underlying4 (by kernel_rfl) ?_
    (ChangeSpec.witness6 (enc := enc) (C := Try.checked) false ⟨#[], #[.agg #[.int .i64 0, .int .i64 0, .int .i64 0, .slice none 0 0, .slice none 0 0, .slice none 0 0, .slice none 0 0, .slice none 0 0, .slice none 0 0, .slice none 0 0, .slice none 0 0], .slice none 0 0, .slice none 0 0], []⟩ 8 (by kernel_rfl) (by kernel_rfl) (by kernel_rfl) (by kernel_rfl)) ?_
  · intro H ds h
    match ds, h with
    | [_, _, _], _ => rfl
  · intro W base args ds p hval hA hlt hwt hsh
    rw [Try.params4] at hA hval
    obtain ⟨v0, vs0, d0, ds0, p0, q0, hargs, rfl, rfl, h0, r0⟩ := trodAll_cons hA
    obtain ⟨v1, vs1, d1, ds1, p1, q1, rfl, rfl, rfl, h1, r1⟩ := trodAll_cons r0
    obtain ⟨v2, vs2, d2, ds2, p2, q2, rfl, rfl, rfl, h2, r2⟩ := trodAll_cons r1
    obtain ⟨rfl, rfl, rfl⟩ := trodAll_nil r2
    obtain rfl : args = #[v0, v1, v2] := by cases args; simp_all
    obtain ⟨D0, P0, rfl, ok0, hs0⟩ := arg_font (hval 0 28 v0 rfl rfl) h0
    obtain ⟨A1, l1, c1, rfl, hc1, hm1, wf1, hs1⟩ := seen_ints Try.underlying25 Try.underlying3 (by kernel_rfl) (hval 1 25 v1 rfl rfl) h1
    obtain ⟨A2, l2, c2, rfl, hc2, hm2, wf2, hs2⟩ := seen_ints Try.underlying25 Try.underlying3 (by kernel_rfl) (hval 2 25 v2 rfl rfl) h2
    exact walk D0 P0 ok0 A1 l1 c1 hc1 hm1 wf1 A2 l2 c2 hc2 hm2 wf2 W hs0 hs1 hs2

theorem holds : Rows.LigTellsSaid :=
  OpenClaim.holds_of_wide 4 Try.f4 rfl rfl rfl rfl rfl rfl rfl ⟨rfl, rfl, rfl, rfl, rfl⟩ rfl rfl rfl rfl rfl (by kernel_rfl) Try.func4 (by kernel_rfl)
    (of_decide_eq_true (by kernel_rfl)) (by unfold Func.isWrapper; first | (rw [if_pos (by decide +kernel)]; kernel_rfl) | (rw [if_neg (by decide +kernel)]; exact ⟨rfl, rfl⟩))
    (fun os started H enc _ => lifted os started H enc)
end LigTells
end Go.Proofs.Ytijhabhnhglhgaa

