/- LiangWrites: whether any patterns may be, and a text of them, are what the document says, or its error: for every input. -/
import Derived.Test.YtijhabhnhglhgaaDoorAwakeB10
import Derived.Test.YtijhabhnhglhgaaDoorDocF10
import Derived.Lib.QuietBelow
namespace Go.Proofs.YtijhabhnhglhgaaDoor
open Go.ChangeShapes Go.WideShapes Go.ChangeAt Go.RowKit Go.Deep
namespace LiangWrites
open L10

theorem fewp_is {D : PatsD} {P : PatsP} {w : World} {b : Bool} (sn : SeenPats w D P) (h : fewD D = b) : Calls Tryd.prog 13 #[patsV D P] w (Ret w (.bool b)) := by
  have := fewp_any D P w sn
  rwa [h] at this

set_option maxRecDepth 100000 in
set_option maxHeartbeats 16000000 in
theorem core (A : Option Addr) (n c : Nat) (B : Option Addr) (q d : Nat) (w : World) (hT : Tabs w) (L : List UInt8) (E : Int) (b : Bool)
    (V : World) (hV : V = w.alloc (.cells #[.slice A n c, .slice B q d] 27))
    (hf : ∀ w', Ext V w' → Calls Tryd.prog 13 #[.agg #[.slice A n c, .slice B q d]] w' (Ret w' (.bool true)))
    (hwa : ∀ w', Ext V w' → Calls Tryd.prog 14 #[.agg #[.slice A n c, .slice B q d]] w' (WrQ w' (L, E)))
    (hwb : ∀ w', Ext V w' → Calls Tryd.prog 15 #[.agg #[.slice A n c, .slice B q d]] w' (WrQ w' (L, E)))
    (hca : ∀ w', Ext V w' → Calls Tryd.prog 16 #[.agg #[.slice A n c, .slice B q d]] w' (Ret w' (.bool b)))
    (hcb : ∀ w', Ext V w' → Calls Tryd.prog 17 #[.agg #[.slice A n c, .slice B q d]] w' (Ret w' (.bool b))) :
    Calls Tryd.prog 4 #[.agg #[.slice A n c, .slice B q d]] w (Ret w (.bool true)) := by
  have W0 : Ext w V := by rw [hV]; exact (Ext.refl _).alloc _
  have kB : Blk V w.heap.size 27 [.slice A n c, .slice B q d] := by rw [hV]; exact Blk.lit _ _ _ _ rfl
  have HF := Lib.hid hf
  have HWA := Lib.hid hwa
  have HWB := Lib.hid hwb
  have HCA := Lib.hid hca
  have HCB := Lib.hid hcb
  have AW := Lib.hid (awake_any V (hT.ext W0))
  clear hf hwa hwb hca hcb hT
  go_enter Tryd.func4, Tryd.ntmps4
  go_upto_region 1 with (fail)
  rw [← hV]
  clear hV
  generalize w.heap.size = Bx at *
  have HX := Lib.hid W0
  clear W0
  go_wp2_with fail
  refine AW.out.mono ?_; rintro e w1 ⟨rfl, x1⟩
  have q0 : w1.cell? ⟨Bx, 0, none⟩ = some (.slice A n c) := (kB.ext x1).cell 0
  have q1 : w1.cell? ⟨Bx, 1, none⟩ = some (.slice B q d) := (kB.ext x1).cell 1
  have Z1 := Lib.hid x1
  clear x1 AW
  go_wp2_with fail
  refine (HF.out _ Z1.out).mono ?_; rintro e w2 ⟨rfl, x2⟩
  have q0 := x2.at q0
  have q1 := x2.at q1
  have Z2 := Lib.hid (Z1.out.trans x2)
  clear x2 HF Z1
  go_wp2_with fail
  refine (HWA.out _ Z2.out).mono ?_; rintro e w3 ⟨x3, A3, c3, rfl, h3, m3, s3⟩
  have q0 := x3.at q0
  have q1 := x3.at q1
  have Z3 := Lib.hid (Z2.out.trans x3)
  dsimp only at h3 s3 ⊢
  clear x3 HWA Z2
  go_wp2_with fail
  refine (HWB.out _ Z3.out).mono ?_; rintro e w4 ⟨x4, A4, c4, rfl, h4, m4, s4⟩
  have q0 := x4.at q0
  have q1 := x4.at q1
  have s3 := s3.ext x4
  have Z4 := Lib.hid (Z3.out.trans x4)
  dsimp only at h4 s4 ⊢
  have CA := Lib.hid (fun dd os => HCA.out (Sort.grow (redrawn w4 dd) os) (Z4.out.trans (below_regrown _ _ _)))
  have CB := Lib.hid (fun dd os => HCB.out (Sort.grow (redrawn w4 dd) os) (Z4.out.trans (below_regrown _ _ _)))
  have cv1 := fun dd os => SeenB.str (P := Tryd.prog) (SeenB.ext s3 (below_regrown w4 dd os)) 22 9 5 c3 L.length Tryd.underlying22 Tryd.underlying5 Tryd.underlying9 rfl
  have cv2 := fun dd os => SeenB.str (P := Tryd.prog) (SeenB.ext s4 (below_regrown w4 dd os)) 22 9 5 c4 L.length Tryd.underlying22 Tryd.underlying5 Tryd.underlying9 rfl
  have g0 := cell_regrown q0
  have g1 := cell_regrown q1
  generalize (⟨L.toArray⟩ : ByteArray) = S at *
  generalize L.length = na at *
  clear x4 HWB Z3 HCA HCB s3 s4 h3 h4 m3 m4 q0 q1 kB
  go_wp2_with fail
  refine wp_region_quiet_below (by kernel_rfl) (by kernel_rfl) ?_
  repeat (go_big_quiet_step (first | (with_reducible exact rg10 (CA.out _ _)) | (with_reducible exact rg10 (CB.out _ _))))
  refine wpQuiet_nil ?_
  intro _ hw'
  obtain ⟨⟨dq, osq⟩, hw''⟩ := hw'
  subst hw''
  have Z6 : Ext V (Sort.grow (redrawn w4 dq) osq) := Z4.out.trans (below_regrown _ _ _)
  clear g0 g1 cv1 cv2 CA CB
  go_wp2_with fail
  go_ret
  exact ⟨rfl, HX.out.trans Z6⟩

set_option maxRecDepth 100000 in
set_option maxHeartbeats 16000000 in
theorem walk (D : PatsD) (P : PatsP) (ok : PatsOk D P) (w : World) (sn : SeenPats w D P) (hT : Tabs w) :
    Calls Tryd.prog 4 #[patsV D P] w (Ret w (.bool true)) := by
  obtain ⟨V, hV⟩ : ∃ V, V = w.alloc (.cells #[.slice P.x D.l.length P.c, .slice P.y D.m.length P.d] 27) := ⟨_, rfl⟩
  have W0 : Ext w V := by rw [hV]; exact (Ext.refl _).alloc _
  obtain ⟨b, hf⟩ : ∃ b, fewD D = b := ⟨_, rfl⟩
  have FEW := Lib.hid (fun w' (x : Ext V w') => fewp_is ((sn.ext W0).ext x) hf)
  cases b with
  | true =>
    obtain ⟨f1, f2, f3⟩ := few_len hf
    have f4 : ∀ x ∈ D.l ++ D.m, x.s.size ≤ 1000000 ∧ x.ns.length ≤ 1000000 := fun x hx => by have := f3 x hx; omega
    exact core P.x D.l.length P.c P.y D.m.length P.d w hT (writeR (rd D)).1 (writeR (rd D)).2 (patsB (rd D)) V hV FEW.out
      (fun w' x => write_any D P ok.li ok.mi w' ((sn.ext W0).ext x) (by omega) (by omega))
      (fun w' x => rwrite_any D P ok.li ok.mi f4 w' ((sn.ext W0).ext x) (by omega) (by omega))
      (fun w' x => check_any D P ok.li ok.mi w' ((sn.ext W0).ext x) (by omega) (by omega))
      (fun w' x => rcheck_any D P ok.li ok.mi f4 w' ((sn.ext W0).ext x) (by omega) (by omega))
  | false =>
    have AW := Lib.hid (awake_any V (hT.ext W0))
    have kB : Blk V w.heap.size 27 [.slice P.x D.l.length P.c, .slice P.y D.m.length P.d] := by rw [hV]; exact Blk.lit _ _ _ _ rfl
    unfold patsV at FEW ⊢
    clear sn ok hf hT
    generalize D.l.length = n at *
    generalize D.m.length = q at *
    obtain ⟨A, c, B, d⟩ := P
    dsimp only at *
    go_enter Tryd.func4, Tryd.ntmps4
    go_upto_region 1 with (fail)
    rw [← hV]
    clear hV
    generalize w.heap.size = Bx at *
    go_wp2_with fail
    refine AW.out.mono ?_; rintro e w1 ⟨rfl, x1⟩
    have q0 : w1.cell? ⟨Bx, 0, none⟩ = some (.slice A n c) := (kB.ext x1).cell 0
    have q1 : w1.cell? ⟨Bx, 1, none⟩ = some (.slice B q d) := (kB.ext x1).cell 1
    go_wp2_with fail
    refine (FEW.out _ x1).mono ?_; rintro e w2 ⟨rfl, x2⟩
    go_wp2_with fail
    go_ret
    exact ⟨rfl, (W0.trans x1).trans x2⟩

set_option maxRecDepth 100000 in
theorem lifted (os : Os) (started : os.Started) (H : Type) (enc : TypeId × Value → H) :
    ReturnsInHanded {} Tryd.checked os 4 .any (fun w args => (Rows.liangWritesSpec.pre enc Tryd.prog Tryd.f4 [] false w args ∧ laidMetH Tryd.prog doorLaid w) ∧ sizedMet enc Tryd.prog Tryd.f4 (OpenSpec.ofChange Rows.liangWritesSpec) false w args)
      (Rows.liangWritesSpec.post enc Tryd.prog Tryd.f4 false true false false) := by
  refine law_liftD started (by kernel_rfl) Tryd.func4 rfl rfl Tryd.underlying4 (by kernel_rfl) ?_
    (ChangeSpec.witness_shaped (enc := enc) (C := Tryd.checked) (os := os) (X := fun w _ => laidMetH Tryd.prog doorLaid w) false (World.laidAll Tryd.prog os doorLaid) #[.agg #[.slice none 0 0, .slice none 0 0]] 8 (World.laidAll_os _ _ _)
      (World.shaped_of_ZipB (by kernel_rfl) (by kernel_rfl)) (by kernel_rfl) (by kernel_rfl) (by kernel_rfl) (laidStart os _)) ?_
  · intro H ds h
    match ds, h with
    | [_], _ => rfl
  · intro W base args ds p hval hA hlt hT
    rw [Tryd.params4] at hA hval
    obtain ⟨v0, vs0, d0, ds0, p0, q0, hargs, rfl, rfl, h0, r0⟩ := trodAll_cons hA
    obtain ⟨rfl, rfl, rfl⟩ := trodAll_nil r0
    obtain rfl : args = #[v0] := by cases args; simp_all
    obtain ⟨D0, P0, rfl, ok0, hs0⟩ := arg_pats (hval 0 27 v0 rfl rfl) h0
    exact walk D0 P0 ok0 W hs0 hT

theorem bare : Rows.LiangWritesSaid :=
  OpenClaim.holds_of_wide 4 Tryd.f4 rfl rfl rfl rfl rfl rfl rfl ⟨rfl, rfl, rfl, rfl, rfl⟩ rfl rfl rfl rfl rfl (by kernel_rfl) Tryd.func4 (by kernel_rfl)
    (of_decide_eq_true (by kernel_rfl)) (by unfold Func.isWrapper; first | (rw [if_pos (by decide +kernel)]; kernel_rfl) | (rw [if_neg (by decide +kernel)]; exact ⟨rfl, rfl⟩))
    (fun os started H enc _ => lifted os started H enc)
theorem holds : Rows.LiangWritesCardSaid :=
  Claim7.holds_tied_plain_at .later [] [.data, .pinned] true Rows.liangWritesCard.stood.harness false bare (fun _ h => by cases h) (by kernel_rfl) (fun _ h => by cases h) liangWrites_row_tie rfl ⟨rfl, rfl⟩ (by kernel_rfl) rfl
    (fun f fn hf hfn => by
      obtain rfl : f = 4 := Option.some.inj ((show Tryd.prog.funcNamed "compositor/compositorlaw10.LiangWrites" = some 4 by kernel_rfl).symm.trans hf) |>.symm
      obtain rfl : fn = Tryd.f4 := (Option.some.inj (Tryd.func4.symm.trans hfn)).symm
      exact ⟨by kernel_rfl, standsIn (ts := [27]) (by kernel_rfl) (by rw [Tryd.params4])⟩)
    (by kernel_rfl)
end LiangWrites
end Go.Proofs.YtijhabhnhglhgaaDoor

