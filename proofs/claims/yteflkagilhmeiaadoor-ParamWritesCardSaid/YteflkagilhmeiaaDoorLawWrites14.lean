/- ParamWrites: whether any layout may be, and a text of it, are what the document says: for every layout (of at most a hundred lines, as the statement says). -/
import Derived.Test.YteflkagilhmeiaaDoorRefC14
namespace Go.Proofs.YteflkagilhmeiaaDoor
open Go.ChangeShapes Go.WideShapes Go.ChangeAt Go.RowKit Go.Deep
namespace ParamWrites
open L14

set_option maxRecDepth 100000 in
theorem big (L : LayD) (A : Option Addr) (c : Nat) (w : World) (hT : Home w) (h : 100 < L.n) :
    Calls Tryd.prog 3 #[.agg (layC L A c).toArray] w (Ret w (.bool true)) := by
  obtain ⟨WA, hWA⟩ : ∃ WA, WA = w.alloc (.cells (layC L A c).toArray 24) := ⟨_, rfl⟩
  have x0 : Ext w WA := by rw [hWA]; exact (Ext.refl _).alloc _
  have K0 := Lib.hid (show Blk WA w.heap.size 24 (layC L A c) by rw [hWA]; exact Blk.lit _ _ _ _ rfl)
  have X := Lib.hid x0
  have AW := Lib.hid (awake_any WA (hT.ext x0))
  have h1 : (100 : Int) < (L.n : Int) := by omega
  clear hT x0
  go_enter Tryd.func3, Tryd.ntmps3
  go_upto_region 1 with (fail)
  rw [← hWA]
  clear hWA
  generalize w.heap.size = b0 at *
  go_wp2_with fail
  refine AW.out.mono ?_
  rintro e w1 ⟨rfl, x1⟩
  have X := Lib.hid (X.out.trans x1)
  have a4 : w1.cell? ⟨b0, 4, none⟩ = some (.slice A L.n c) := (K0.out.ext x1).cell 4
  clear x1 AW
  go_wp2_with fail
  go_ret
  exact ⟨rfl, X.out⟩

set_option maxRecDepth 100000 in
set_option maxHeartbeats 4000000 in
theorem core (L : LayD) (A : Option Addr) (c : Nat) (ok : LayOk L c) (w : World) (sn : SeenP w A L.n L.sh) (hT : Home w) (hl : L.n ≤ 100) :
    Calls Tryd.prog 3 #[.agg (layC L A c).toArray] w (Ret w (.bool true)) := by
  obtain ⟨WA, hWA⟩ : ∃ WA, WA = w.alloc (.cells (layC L A c).toArray 24) := ⟨_, rfl⟩
  have x0 : Ext w WA := by rw [hWA]; exact (Ext.refl _).alloc _
  have K0 := Lib.hid (show Blk WA w.heap.size 24 (layC L A c) by rw [hWA]; exact Blk.lit _ _ _ _ rfl)
  have X := Lib.hid x0
  have SN := Lib.hid (sn.ext x0)
  have HT := Lib.hid (hT.ext x0)
  have AW := Lib.hid (awake_any WA HT.out)
  have OK := Lib.hid ok
  have hl64 : ¬ (100 : Int) < (L.n : Int) := by omega
  clear sn hT x0 ok
  go_enter Tryd.func3, Tryd.ntmps3
  go_upto_region 1 with (fail)
  rw [← hWA]
  clear hWA
  generalize w.heap.size = b0 at *
  go_wp2_with fail
  refine AW.out.mono ?_
  rintro e w1 ⟨rfl, x1⟩
  clear AW
  have SN := Lib.hid (SN.out.ext x1)
  have HT := Lib.hid (HT.out.ext x1)
  have K0 := Lib.hid (K0.out.ext x1)
  have X := Lib.hid (X.out.trans x1)
  clear x1
  have a4 : w1.cell? ⟨b0, 4, none⟩ = some (.slice A L.n c) := K0.out.cell 4
  have CW := Lib.hid (write_uni L A c w1 OK.out SN.out HT.out)
  go_upto_region 4 with (fail)
  clear a4
  go_wp2_with (first | (refine wpList_getW (by kernel_rfl) _ rfl b0 rfl K0.out ?_) | fail)
  refine CW.out.mono ?_
  rintro e w2 ⟨x2, A2, n2, c2, rfl, h2, hc2, hm2, s2⟩
  clear CW
  have S2 := Lib.hid s2
  have SN := Lib.hid (SN.out.ext x2)
  have HT := Lib.hid (HT.out.ext x2)
  have K0 := Lib.hid (K0.out.ext x2)
  have X := Lib.hid (X.out.trans x2)
  have H2 := Lib.hid h2
  have CR := Lib.hid (rwrite_any L A c w2 OK.out SN.out)
  clear x2 s2 h2 hc2 hm2
  go_wp2_with (first | (refine wpList_getW (by kernel_rfl) _ rfl b0 rfl K0.out ?_) | fail)
  refine CR.out.mono ?_
  rintro e w3 ⟨x3, A3, n3, c3, rfl, h3, s3⟩
  clear CR
  have S2 := S2.out.ext x3
  have SN := Lib.hid (SN.out.ext x3)
  have HT := Lib.hid (HT.out.ext x3)
  have K0 := Lib.hid (K0.out.ext x3)
  have X := Lib.hid (X.out.trans x3)
  have CA := Lib.hid (fun dd os => check_uni L A c (Sort.grow (redrawn w3 dd) os) OK.out (SN.out.ext (below_regrown _ _ _)) (HT.out.ext (below_regrown _ _ _)))
  have CB := Lib.hid (fun dd os => rcheck_any L A c (Sort.grow (redrawn w3 dd) os) OK.out (SN.out.ext (below_regrown _ _ _)))
  have RG := Lib.hid (range_regrown K0.out)
  have SOME := Lib.hid (some_regrown w3)
  rw [← h3] at H2
  have e2 := H2.out
  obtain rfl := e2
  have cv1 := fun dd os => SeenB.str (P := Tryd.prog) (SeenB.ext S2 (below_regrown w3 dd os)) 26 9 5 c2 n2 Tryd.underlying26 Tryd.underlying5 Tryd.underlying9 h3
  have cv2 := fun dd os => SeenB.str (P := Tryd.prog) (SeenB.ext s3 (below_regrown w3 dd os)) 26 9 5 c3 n2 Tryd.underlying26 Tryd.underlying5 Tryd.underlying9 h3
  generalize (⟨(tW L).toArray⟩ : ByteArray) = S at *
  generalize zW L = z at *
  generalize mayL L = m at *
  clear x3 S2 s3 h3 H2
  go_wp2_with fail
  refine wp_region_quiet_below (by kernel_rfl) (by kernel_rfl) ?_
  repeat (first | (go_big_quiet_want; refine quiet_load 24 b0 rfl _ RG.out SOME.out Tryd.underlying24 rfl (by kernel_rfl) ?_; go_big_quiet_op; go_big_quiet_on) | go_big_quiet_step (first | (with_reducible exact rg14 (CA.out _ _)) | (with_reducible exact rg14 (CB.out _ _))))
  refine wpQuiet_nil ?_
  intro _ hw'
  obtain ⟨⟨dq, osq⟩, hw''⟩ := hw'
  subst hw''
  have Z6 : Ext w (Sort.grow (redrawn w3 dq) osq) := X.out.trans (below_regrown _ _ _)
  clear cv1 cv2 CA CB
  go_wp2_with fail
  go_ret
  exact ⟨rfl, Z6⟩

theorem walk (D : LayD) (A : Option Addr) (c : Nat) (ok : LayOk D c) (w : World) (sn : SeenP w A D.n D.sh) (hT : Home w) :
    Calls Tryd.prog 3 #[layV D A c] w (Ret w (.bool true)) := by
  by_cases h : D.n ≤ 100
  · exact core D A c ok w sn hT h
  · exact big D A c w hT (by omega)

set_option maxRecDepth 100000 in
theorem lifted (os : Os) (started : os.Started) (H : Type) (enc : TypeId × Value → H) :
    ReturnsInHanded {} Tryd.checked os 3 .any (fun w args => (Rows.paramWritesSpec.pre enc Tryd.prog Tryd.f3 [] false w args ∧ laidMetH Tryd.prog doorLaid w) ∧ sizedMet enc Tryd.prog Tryd.f3 (OpenSpec.ofChange Rows.paramWritesSpec) false w args)
      (Rows.paramWritesSpec.post enc Tryd.prog Tryd.f3 false true false false) := by
  refine law_liftH started (by kernel_rfl) Tryd.func3 rfl rfl Tryd.underlying4 (by kernel_rfl) ?_
    (ChangeSpec.witness_shaped (enc := enc) (C := Tryd.checked) (os := os) (X := fun w _ => laidMetH Tryd.prog doorLaid w) false (World.laidAll Tryd.prog os doorLaid) #[.agg #[.int .i64 0, .int .i64 0, .int .i64 0, .int .i64 0, .slice none 0 0, .int .i64 0, .int .i64 0, .int .i64 0, .int .i64 0, .int .i64 0, .int .i64 0, .int .i64 0, .int .i64 0, .int .i64 0, .int .i64 0, .int .i64 0, .int .i64 0, .int .i64 0, .int .i64 0, .int .i64 0, .int .i64 0]] 8 (World.laidAll_os _ _ _)
      (World.shaped_of_ZipB (by kernel_rfl) (by kernel_rfl)) (by kernel_rfl) (by kernel_rfl) (by kernel_rfl) (laidStart os _)) ?_
  · intro H ds h
    match ds, h with
    | [_], _ => rfl
  · intro W base args ds p hval hA hlt hT
    rw [Tryd.params3] at hA hval
    obtain ⟨v0, vs0, d0, ds0, p0, q0, hargs, rfl, rfl, h0, r0⟩ := trodAll_cons hA
    obtain ⟨rfl, rfl, rfl⟩ := trodAll_nil r0
    obtain rfl : args = #[v0] := by cases args; simp_all
    obtain ⟨D0, A0, c0, rfl, ok0, hs0⟩ := arg_layout (hval 0 24 v0 rfl rfl) h0
    exact walk D0 A0 c0 ok0 W hs0 hT

theorem bare : Rows.ParamWritesSaid :=
  OpenClaim.holds_of_wide 3 Tryd.f3 rfl rfl rfl rfl rfl rfl rfl ⟨rfl, rfl, rfl, rfl, rfl⟩ rfl rfl rfl rfl rfl (by kernel_rfl) Tryd.func3 (by kernel_rfl)
    (of_decide_eq_true (by kernel_rfl)) (by unfold Func.isWrapper; first | (rw [if_pos (by decide +kernel)]; kernel_rfl) | (rw [if_neg (by decide +kernel)]; exact ⟨rfl, rfl⟩))
    (fun os started H enc _ => lifted os started H enc)
theorem holds : Rows.ParamWritesCardSaid :=
  Claim7.holds_tied_plain_at .later [] [.data, .data, .data, .data, .sentinel, .sentinel, .data, .pinned] true Rows.paramWritesCard.stood.harness true bare (fun _ h => by cases h) (by kernel_rfl) (fun _ h => by cases h) paramWrites_row_tie rfl ⟨rfl, rfl⟩ (by kernel_rfl) rfl
    (fun f fn hf hfn => by
      obtain rfl : f = 3 := Option.some.inj ((show Tryd.prog.funcNamed "compositor/compositorlaw14.ParamWrites" = some 3 by kernel_rfl).symm.trans hf) |>.symm
      obtain rfl : fn = Tryd.f3 := (Option.some.inj (Tryd.func3.symm.trans hfn)).symm
      exact ⟨by kernel_rfl, standsIn (ts := [24]) (by kernel_rfl) (by rw [Tryd.params3])⟩)
    (by kernel_rfl)
end ParamWrites
end Go.Proofs.YteflkagilhmeiaaDoor

