/- LiangCuts: patterns that may be may be without the last ones, and the text of these is what the text of all begins with: for every input. -/
import Derived.Test.YtijhabhnhglhgaaDoorAwakeB10
import Derived.Lib.QuietBelow
namespace Go.Proofs.YtijhabhnhglhgaaDoor
open Go.ChangeShapes Go.WideShapes Go.ChangeAt Go.RowKit Go.Deep
namespace LiangCuts
open L10

theorem fewp_is {D : PatsD} {P : PatsP} {w : World} {b : Bool} (sn : SeenPats w D P) (h : fewD D = b) : Calls Tryd.prog 13 #[patsV D P] w (Ret w (.bool b)) := by
  have := fewp_any D P w sn
  rwa [h] at this
theorem cut_map (A : Option Addr) (c : Nat) : (if c = 0 then A else A.map (·.add 0)) = A := by
  cases A <;> simp [Addr.add_zero']
/-- Patterns alone, a first part of them. -/
theorem take_seen {w : World} {A : Option Addr} {l : List WP} (h : SeenW w A l) (k : Nat) : SeenW w A (l.take k) := fun i x hx => by
  refine h i x ?_
  have hi := (List.getElem?_eq_some_iff.1 hx).1
  simp only [List.length_take] at hi
  rwa [List.getElem?_take_of_lt (by omega)] at hx
theorem linesP_split (l : List TN) (k : Nat) : linesP l = linesP (l.take k) ++ linesP (l.drop k) := by
  unfold linesP
  rw [← List.flatMap_append, List.take_append_drop]
theorem rd_one (l : List WP) : writeL (rd ⟨l, []⟩) = linesP (l.map tn) := by
  simp [writeL, rd, linesE]
/-- What the calls answer. -/
structure Cuts (A : Option Addr) (n k c : Nat) (V : World) (a b : List UInt8) : Prop where
  len : a.length ≤ b.length
  wa : ∀ w', Ext V w' → Calls Tryd.prog 14 #[.agg #[.slice A k c, .slice none 0 0]] w' fun e w1 => Ext w' w1 ∧ ∃ A c, e = .returned (.tuple #[.slice A a.length c, .int .i64 0]) ∧ SeenB w1 A a
  wb : ∀ w', Ext V w' → Calls Tryd.prog 14 #[.agg #[.slice A n c, .slice none 0 0]] w' fun e w1 => Ext w' w1 ∧ ∃ A c, e = .returned (.tuple #[.slice A b.length c, .int .i64 0]) ∧ b.length ≤ c ∧ SeenB w1 A b ∧ SeenB w1 A a
  ck : ∀ w', Ext V w' → Calls Tryd.prog 16 #[.agg #[.slice A k c, .slice none 0 0]] w' (Ret w' (.bool true))
theorem cuts (D : PatsD) (P : PatsP) (ok : PatsOk D P) (V : World) (sn : SeenPats V D P) (hb : patsB (rd D) = true) (k : Nat) (hk : k ≤ D.l.length) : ∃ a b, Cuts P.x D.l.length k P.c V a b := by
  obtain ⟨l, m⟩ := D
  obtain ⟨A, c, B, d⟩ := P
  obtain ⟨h1, h2, h3⟩ := patsB_parts hb
  dsimp only at *
  have g1 : patsB (rd ⟨l, []⟩) = true := by
    simp only [patsB_rd, Bool.and_eq_true, decide_eq_true_eq, List.all_eq_true]
    exact ⟨by simp; omega, h2, by simp⟩
  have g2 : patsB (rd ⟨l.take k, []⟩) = true := by
    simp only [patsB_rd, Bool.and_eq_true, decide_eq_true_eq, List.all_eq_true]
    exact ⟨by simp; omega, fun x hx => h2 x (List.mem_of_mem_take hx), by simp⟩
  have c1 := ok.l.1
  have c2 := ok.l.2
  dsimp only at c1 c2
  have lt : (l.take k).length = k := by rw [List.length_take]; omega
  have G1 : L10.Good V ⟨l, []⟩ ⟨A, c, none, 0⟩ := ⟨⟨sn.l, SeenW.nil⟩, fun x hx => ok.li x (by simpa using hx), g1, ok.l, by simp⟩
  have G2 : L10.Good V ⟨l.take k, []⟩ ⟨A, c, none, 0⟩ := ⟨⟨take_seen sn.l k, SeenW.nil⟩, fun x hx => ok.li x (List.mem_of_mem_take (by simpa using hx)), g2, ⟨by show (l.take k).length ≤ c; omega, c2⟩, by simp⟩
  have hs : linesP (l.map tn) = linesP ((l.take k).map tn) ++ linesP ((l.drop k).map tn) := by
    rw [linesP_split (l.map tn) k, List.map_take, List.map_drop]
  refine ⟨linesP ((l.take k).map tn), linesP (l.map tn), by rw [hs]; simp, fun w' x => ?_, fun w' x => ?_, fun w' x => ?_⟩
  · have W := write_all (G2.ext x)
    unfold patsV at W
    rw [rd_one, lt] at W
    refine W.mono ?_
    rintro e w1 ⟨y, A, c, rfl, _, _, s⟩
    exact ⟨y, A, c, rfl, s⟩
  · have W := write_all (G1.ext x)
    unfold patsV at W
    rw [rd_one] at W
    refine W.mono ?_
    rintro e w1 ⟨y, A, c, rfl, hl, _, s⟩
    exact ⟨y, A, c, rfl, hl, s, by
      have s : SeenB w1 A (linesP (l.map tn)) := s
      rw [hs] at s
      exact s.head⟩
  · have W := check_all (G2.ext x)
    unfold patsV at W
    rw [lt] at W
    exact W

set_option maxRecDepth 100000 in
set_option maxHeartbeats 16000000 in
theorem core (A : Option Addr) (n c : Nat) (B : Option Addr) (q d : Nat) (z : Int) (hz : 0 ≤ z ∧ z ≤ 65535) (w : World) (hn : (n : Int) ≤ 310) (hnc : (n : Int) ≤ c) (k : Nat) (hk : z.tmod (n + 1) = k) (hkn : (k : Int) ≤ n) (hT : Tabs w)
    (a b : List UInt8) (V : World) (hV : V = w.alloc (.cells #[.slice A n c, .slice B q d] 27)) (hh : Cuts A n k c V a b)
    (hf : ∀ w', Ext V w' → Calls Tryd.prog 13 #[.agg #[.slice A n c, .slice B q d]] w' (Ret w' (.bool true)))
    (hc : ∀ w', Ext V w' → Calls Tryd.prog 16 #[.agg #[.slice A n c, .slice B q d]] w' (Ret w' (.bool true))) :
    Calls Tryd.prog 8 #[.agg #[.slice A n c, .slice B q d], .int .u16 z] w (Ret w (.bool true)) := by
  have W0 : Ext w V := by rw [hV]; exact (Ext.refl _).alloc _
  have kB : Blk V w.heap.size 27 [.slice A n c, .slice B q d] := by rw [hV]; exact Blk.lit _ _ _ _ rfl
  obtain ⟨hl, hwa, hwb, hck⟩ := hh
  have HF := Lib.hid hf
  have HC := Lib.hid hc
  have HWA := Lib.hid hwa
  have HWB := Lib.hid hwb
  have HCK := Lib.hid hck
  have AW := Lib.hid (awake_any V (hT.ext W0))
  clear hf hc hwa hwb hck hT
  obtain ⟨z0, z1⟩ := hz
  go_enter Tryd.func8, Tryd.ntmps8
  go_upto_region 1 with (fail)
  rw [← hV]
  clear hV
  generalize w.heap.size = Bx at *
  have HX := Lib.hid W0
  clear W0
  go_wp2_with fail
  refine AW.out.mono ?_; rintro e w1 ⟨rfl, x1⟩
  have q0 : w1.cell? ⟨Bx, 0, none⟩ = some (.slice A n c) := (kB.ext x1).cell 0
  have q1 : w1.cell? ⟨Bx, 1, none⟩ = some (.slice B q d) := (kB.ext x1).cell 1
  have Z1 := Lib.hid x1
  clear x1 AW
  go_wp2_with fail
  refine (HF.out _ Z1.out).mono ?_; rintro e w2 ⟨rfl, x2⟩
  have q0 := x2.at q0
  have q1 := x2.at q1
  have Z2 := Lib.hid (Z1.out.trans x2)
  clear x2 HF Z1
  go_wp2_with fail
  refine (HC.out _ Z2.out).mono ?_; rintro e w3 ⟨rfl, x3⟩
  have q0 := x3.at q0
  have q1 := x3.at q1
  have Z3 := Lib.hid (Z2.out.trans x3)
  clear x3 HC Z2
  have lb : Bx < w3.heap.size := (kB.ext Z3.out).lt
  go_wp2_with fail
  have k7 : Blk (w3.alloc (.cells #[.slice A k c, .slice none 0 0] 27)) w3.heap.size 27 [.slice A k c, .slice none 0 0] := Blk.lit _ _ _ _ rfl
  refine (HWA.out _ (Z3.out.trans ((Ext.refl w3).alloc _))).mono ?_; rintro e w4 ⟨x4, A8, c8, rfl, s8⟩
  have x34 : Ext w3 w4 := ((Ext.refl _).alloc _).trans x4
  have q0 := x34.at q0
  have q1 := x34.at q1
  have r0 : w4.cell? ⟨w3.heap.size, 0, none⟩ = some (.slice A k c) := (k7.ext x4).cell 0
  have r1 : w4.cell? ⟨w3.heap.size, 1, none⟩ = some (.slice none 0 0) := (k7.ext x4).cell 1
  have Z4 := Lib.hid (Z3.out.trans x34)
  generalize w3.heap.size = By at *
  clear x34 x4 HWA Z3 k7 lb
  go_wp2_with fail
  refine (HWB.out _ Z4.out).mono ?_; rintro e w5 ⟨x5, A10, c10, rfl, h10, s10, sa⟩
  have r0 := x5.at r0
  have r1 := x5.at r1
  have s8 := s8.ext x5
  have Z5 := Lib.hid (Z4.out.trans x5)
  have CK := Lib.hid (fun dd os => HCK.out (Sort.grow (redrawn w5 dd) os) (Z5.out.trans (below_regrown _ _ _)))
  have cv1 := fun dd os => SeenB.str (P := Tryd.prog) (SeenB.ext s8 (below_regrown w5 dd os)) 22 9 5 c8 a.length Tryd.underlying22 Tryd.underlying5 Tryd.underlying9 rfl
  have cv2 := fun dd os => SeenB.str (P := Tryd.prog) (SeenB.ext sa (below_regrown w5 dd os)) 22 9 5 c10 a.length Tryd.underlying22 Tryd.underlying5 Tryd.underlying9 rfl
  have g0 := cell_regrown r0
  have g1 := cell_regrown r1
  have hab : (a.length : Int) ≤ b.length := by omega
  have hbc : (b.length : Int) ≤ c10 := by omega
  generalize (⟨a.toArray⟩ : ByteArray) = S at *
  generalize a.length = na at *
  generalize b.length = nb at *
  clear x5 HWB Z4 HCK s8 s10 sa hl
  go_wp2_with fail
  refine wp_region_quiet_below (by kernel_rfl) (by kernel_rfl) ?_
  repeat (go_big_quiet_step (with_reducible exact rg10 (CK.out _ _)))
  refine wpQuiet_nil ?_
  intro _ hw'
  obtain ⟨⟨dq, osq⟩, hw''⟩ := hw'
  subst hw''
  have Z6 : Ext V (Sort.grow (redrawn w5 dq) osq) := Z5.out.trans (below_regrown _ _ _)
  clear g0 g1 cv1 cv2 CK
  go_wp2_with fail
  go_ret
  exact ⟨rfl, HX.out.trans Z6⟩

set_option maxRecDepth 100000 in
set_option maxHeartbeats 16000000 in
theorem walk (D : PatsD) (P : PatsP) (ok : PatsOk D P) (z : Int) (hz : 0 ≤ z ∧ z ≤ 65535) (w : World) (sn : SeenPats w D P) (hT : Tabs w) :
    Calls Tryd.prog 8 #[patsV D P, .int .u16 z] w (Ret w (.bool true)) := by
  obtain ⟨V, hV⟩ : ∃ V, V = w.alloc (.cells #[.slice P.x D.l.length P.c, .slice P.y D.m.length P.d] 27) := ⟨_, rfl⟩
  have W0 : Ext w V := by rw [hV]; exact (Ext.refl _).alloc _
  have AW := Lib.hid (awake_any V (hT.ext W0))
  have kB : Blk V w.heap.size 27 [.slice P.x D.l.length P.c, .slice P.y D.m.length P.d] := by rw [hV]; exact Blk.lit _ _ _ _ rfl
  obtain ⟨b, hf⟩ : ∃ b, fewD D = b := ⟨_, rfl⟩
  have FEW := Lib.hid (fun w' (x : Ext V w') => fewp_is ((sn.ext W0).ext x) hf)
  have S0 := Lib.hid sn
  have OK := Lib.hid ok
  cases b with
  | true =>
    obtain ⟨f1, f2, f3⟩ := few_len hf
    have CK := Lib.hid (fun w' (x : Ext V w') => check_any D P ok.li ok.mi w' ((sn.ext W0).ext x) (by omega) (by omega))
    obtain ⟨b2, hb⟩ : ∃ b, patsB (rd D) = b := ⟨_, rfl⟩
    rw [hb] at CK
    cases b2 with
    | true =>
      have hr : z.tmod (D.l.length + 1) = ((z.tmod (D.l.length + 1)).toNat : Int) ∧ ((z.tmod (D.l.length + 1)).toNat : Int) ≤ D.l.length := by
        have h1 : z.tmod ((D.l.length : Int) + 1) = z % ((D.l.length : Int) + 1) := Int.tmod_eq_emod_of_nonneg hz.1
        have h2 := Int.emod_nonneg z (show (D.l.length : Int) + 1 ≠ 0 by omega)
        have h3 := Int.emod_lt_of_pos z (show 0 < (D.l.length : Int) + 1 by omega)
        omega
      obtain ⟨a, b, hcuts⟩ := cuts D P ok V (sn.ext W0) hb (z.tmod (D.l.length + 1)).toNat (by omega)
      have c1 := ok.l.1
      have c2 := ok.l.2
      unfold maxLen at c2
      exact core P.x D.l.length P.c P.y D.m.length P.d z hz w (by omega) (by omega) _ hr.1 hr.2 hT a b V hV hcuts FEW.out CK.out
    | false =>
      unfold patsV at FEW CK ⊢
      clear sn ok hf f1 f2 f3 hb hT
      generalize D.l.length = n at *
      generalize D.m.length = q at *
      obtain ⟨A, c, B, d⟩ := P
      dsimp only at *
      go_enter Tryd.func8, Tryd.ntmps8
      go_upto_region 1 with (fail)
      rw [← hV]
      clear hV
      generalize w.heap.size = Bx at *
      go_wp2_with fail
      refine AW.out.mono ?_; rintro e w1 ⟨rfl, x1⟩
      have q0 : w1.cell? ⟨Bx, 0, none⟩ = some (.slice A n c) := (kB.ext x1).cell 0
      have q1 : w1.cell? ⟨Bx, 1, none⟩ = some (.slice B q d) := (kB.ext x1).cell 1
      go_wp2_with fail
      refine (FEW.out _ x1).mono ?_; rintro e w2 ⟨rfl, x2⟩
      have q0 := x2.at q0
      have q1 := x2.at q1
      go_wp2_with fail
      refine (CK.out _ (x1.trans x2)).mono ?_; rintro e w3 ⟨rfl, x3⟩
      go_wp2_with fail
      go_ret
      exact ⟨rfl, ((W0.trans x1).trans x2).trans x3⟩
  | false =>
    unfold patsV at FEW ⊢
    clear sn ok hf hT
    generalize D.l.length = n at *
    generalize D.m.length = q at *
    obtain ⟨A, c, B, d⟩ := P
    dsimp only at *
    go_enter Tryd.func8, Tryd.ntmps8
    go_upto_region 1 with (fail)
    rw [← hV]
    clear hV
    generalize w.heap.size = Bx at *
    go_wp2_with fail
    refine AW.out.mono ?_; rintro e w1 ⟨rfl, x1⟩
    have q0 : w1.cell? ⟨Bx, 0, none⟩ = some (.slice A n c) := (kB.ext x1).cell 0
    have q1 : w1.cell? ⟨Bx, 1, none⟩ = some (.slice B q d) := (kB.ext x1).cell 1
    go_wp2_with fail
    refine (FEW.out _ x1).mono ?_; rintro e w2 ⟨rfl, x2⟩
    have q0 := x2.at q0
    have q1 := x2.at q1
    go_wp2_with fail
    go_ret
    exact ⟨rfl, (W0.trans x1).trans x2⟩

set_option maxRecDepth 100000 in
theorem lifted (os : Os) (started : os.Started) (H : Type) (enc : TypeId × Value → H) :
    ReturnsInHanded {} Tryd.checked os 8 .any (fun w args => (Rows.liangCutsSpec.pre enc Tryd.prog Tryd.f8 [] false w args ∧ laidMetH Tryd.prog doorLaid w) ∧ sizedMet enc Tryd.prog Tryd.f8 (OpenSpec.ofChange Rows.liangCutsSpec) false w args)
      (Rows.liangCutsSpec.post enc Tryd.prog Tryd.f8 false true false false) := by
  refine law_liftD started (by kernel_rfl) Tryd.func8 rfl rfl Tryd.underlying4 (by kernel_rfl) ?_
    (ChangeSpec.witness_shaped (enc := enc) (C := Tryd.checked) (os := os) (X := fun w _ => laidMetH Tryd.prog doorLaid w) false (World.laidAll Tryd.prog os doorLaid) #[.agg #[.slice none 0 0, .slice none 0 0], .int .u16 0] 8 (World.laidAll_os _ _ _)
      (World.shaped_of_ZipB (by kernel_rfl) (by kernel_rfl)) (by kernel_rfl) (by kernel_rfl) (by kernel_rfl) (laidStart os _)) ?_
  · intro H ds h
    match ds, h with
    | [_, _], _ => rfl
  · intro W base args ds p hval hA hlt hT
    rw [Tryd.params8] at hA hval
    obtain ⟨v0, vs0, d0, ds0, p0, q0, hargs, rfl, rfl, h0, r0⟩ := trodAll_cons hA
    obtain ⟨v1, vs1, d1, ds1, p1, q1, rfl, rfl, rfl, h1, r1⟩ := trodAll_cons r0
    obtain ⟨rfl, rfl, rfl⟩ := trodAll_nil r1
    obtain rfl : args = #[v0, v1] := by cases args; simp_all
    obtain ⟨D0, P0, rfl, ok0, hs0⟩ := arg_pats (hval 0 27 v0 rfl rfl) h0
    obtain ⟨a1, rfl, rfl, rfl, wf1⟩ := open_int Tryd.underlying38 (hval 1 38 v1 rfl rfl) h1
    exact walk D0 P0 ok0 a1 (bounds_u16 wf1) W hs0 hT

theorem bare : Rows.LiangCutsSaid :=
  OpenClaim.holds_of_wide 8 Tryd.f8 rfl rfl rfl rfl rfl rfl rfl ⟨rfl, rfl, rfl, rfl, rfl⟩ rfl rfl rfl rfl rfl (by kernel_rfl) Tryd.func8 (by kernel_rfl)
    (of_decide_eq_true (by kernel_rfl)) (by unfold Func.isWrapper; first | (rw [if_pos (by decide +kernel)]; kernel_rfl) | (rw [if_neg (by decide +kernel)]; exact ⟨rfl, rfl⟩))
    (fun os started H enc _ => lifted os started H enc)
theorem holds : Rows.LiangCutsCardSaid :=
  Claim7.holds_tied_plain_at .later [] [.data, .pinned] true Rows.liangCutsCard.stood.harness false bare (fun _ h => by cases h) (by kernel_rfl) (fun _ h => by cases h) liangCuts_row_tie rfl ⟨rfl, rfl⟩ (by kernel_rfl) rfl
    (fun f fn hf hfn => by
      obtain rfl : f = 8 := Option.some.inj ((show Tryd.prog.funcNamed "compositor/compositorlaw10.LiangCuts" = some 8 by kernel_rfl).symm.trans hf) |>.symm
      obtain rfl : fn = Tryd.f8 := (Option.some.inj (Tryd.func8.symm.trans hfn)).symm
      exact ⟨by kernel_rfl, standsIn (ts := [27, 38]) (by kernel_rfl) (by rw [Tryd.params8])⟩)
    (by kernel_rfl)
end LiangCuts
end Go.Proofs.YtijhabhnhglhgaaDoor

