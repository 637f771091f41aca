/- TfmReads: the font that any bytes are is what the document says, or its error (at most six thousand bytes): the law over the document's Read. -/
import Derived.Test.YtggedodfkjdegaaAwake07
import Derived.Test.YtggedodfkjdegaaRefSameC07
import Derived.Test.YtggedodfkjdegaaInj07
import Derived.Test.YtggedodfkjdegaaRefReadC07
import Derived.OpenShut
import Derived.Deep.DeepCutAuto
namespace Go.Proofs.Ytggedodfkjdegaa
open Go.ChangeShapes Go.WideShapes Go.ChangeAt Go.RowKit Go.Deep
namespace TfmReads
open L06 L07

/-- What both answer. -/
def Told (l : List UInt8) (z : Int) (D : FontD) : Prop := (z = 0 ∧ checkB D = true ∧ writeB D = l) ∨ (z = 70 ∧ D = noD ∧ ¬ FontOf l)
theorem Told.same {l : List UInt8} {z u : Int} {D E : FontD} (h : Told l z D) (k : Told l u E) : sameFontB D E = true ∧ z = u := by
  rcases h with ⟨rfl, h1, h2⟩ | ⟨rfl, rfl, h1⟩ <;> rcases k with ⟨rfl, k1, k2⟩ | ⟨rfl, rfl, k1⟩
  · exact ⟨write_inj h1 k1 (h2.trans k2.symm), rfl⟩
  · exact absurd ⟨D, h1, h2⟩ k1
  · exact absurd ⟨E, k1, k2⟩ h1
  · exact ⟨rfl, rfl⟩
theorem Told.few {l : List UInt8} {z : Int} {D : FontD} (h : Told l z D) : fewB D = true := by
  rcases h with ⟨_, h1, _⟩ | ⟨_, rfl, _⟩
  · have I := check_in h1
    have i1 := I.nw; have i2 := I.nh; have i3 := I.nd; have i4 := I.ni; have i5 := I.nk; have i6 := I.np; have i7 := I.ns; have i8 := I.nc; have i9 := I.first
    unfold fewB
    exact decide_eq_true (by omega)
  · rfl
/-- The answer, in one form. -/
def RdQ (w : World) (l : List UInt8) (e : Ending) (w' : World) : Prop := ∃ z D P, e = .returned (.tuple #[fontV D P, .int .i64 z]) ∧ SeenFont w' D P ∧ Ext w w' ∧ Told l z D
theorem of_readB {w w' : World} {l : List UInt8} {e : Ending} (h : ReadB w l e w') : RdQ w l e w' := by
  rcases h with ⟨D, P, rfl, _, sn, x, h1, h2⟩ | ⟨rfl, h1, x⟩
  · exact ⟨0, D, P, rfl, sn, x, .inl ⟨rfl, h1, h2⟩⟩
  · exact ⟨70, noD, noP, rfl, no_seen _, x, .inr ⟨rfl, rfl, h1⟩⟩
theorem of_readC {w w' : World} {l : List UInt8} {e : Ending} (h : ReadC w l e w') : RdQ w l e w' := of_readB h

set_option maxRecDepth 100000 in
set_option maxHeartbeats 16000000 in
theorem core (A0 : Option Addr) (l : List UInt8) (c : Nat) (w : World) (hn : (l.length : Int) ≤ 6000)
    (h1 : ∀ w', Ext w w' → Calls Try.prog 5 #[.slice A0 l.length c] w' (RdQ w' l)) (h2 : ∀ w', Ext w w' → Calls Try.prog 6 #[.slice A0 l.length c] w' (RdQ w' l)) :
    Calls Try.prog 3 #[.slice A0 l.length c] w (Ret w (.bool true)) := by
  have H1 := Lib.hid h1
  have H2 := Lib.hid h2
  clear h1 h2
  generalize l.length = n at *
  unfold RdQ fontV at *
  go_enter Try.func3, Try.ntmps3
  go_wp2_with fail
  refine (awake_any _).mono ?_; rintro e w1 ⟨rfl, x1⟩
  go_wp2_with fail
  refine (H1.out _ x1).mono ?_; rintro e w2 ⟨z, D, P, rfl, sn, x2, T1⟩
  obtain ⟨W3, hW3⟩ : ∃ W3, W3 = w2.alloc (.cells #[.int .i64 D.sum, .int .i64 D.design, .int .i64 D.first, .slice P.xc D.nc P.zc, .slice P.xw D.nw P.zw, .slice P.xh D.nh P.zh, .slice P.xd D.nd P.zd, .slice P.xi D.ni P.zi, .slice P.xs D.ns P.zs, .slice P.xk D.nk P.zk, .slice P.xp D.np P.zp] 28) := ⟨_, rfl⟩
  have x3 : Ext w2 W3 := by rw [hW3]; exact (Ext.refl _).alloc _
  have k3 : Blk W3 w2.heap.size 28 [.int .i64 D.sum, .int .i64 D.design, .int .i64 D.first, .slice P.xc D.nc P.zc, .slice P.xw D.nw P.zw, .slice P.xh D.nh P.zh, .slice P.xd D.nd P.zd, .slice P.xi D.ni P.zi, .slice P.xs D.ns P.zs, .slice P.xk D.nk P.zk, .slice P.xp D.np P.zp] := by rw [hW3]; exact Blk.lit _ _ _ _ rfl
  go_upto_region 5 with (fail)
  rw [← hW3]
  clear hW3
  generalize w2.heap.size = B3 at *
  have X3 := Lib.hid ((x1.trans x2).trans x3)
  have SN := Lib.hid (sn.ext x3)
  have K3 := Lib.hid k3
  have TT := Lib.hid T1
  clear x1 x2 x3 sn k3 T1 H1
  go_wp2_with fail
  refine (H2.out _ X3.out).mono ?_; rintro e w4 ⟨u, E, Q, rfl, sn4, x4, T2⟩
  obtain ⟨W5, hW5⟩ : ∃ W5, W5 = w4.alloc (.cells #[.int .i64 E.sum, .int .i64 E.design, .int .i64 E.first, .slice Q.xc E.nc Q.zc, .slice Q.xw E.nw Q.zw, .slice Q.xh E.nh Q.zh, .slice Q.xd E.nd Q.zd, .slice Q.xi E.ni Q.zi, .slice Q.xs E.ns Q.zs, .slice Q.xk E.nk Q.zk, .slice Q.xp E.np Q.zp] 28) := ⟨_, rfl⟩
  have x5 : Ext w4 W5 := by rw [hW5]; exact (Ext.refl _).alloc _
  have k5 : Blk W5 w4.heap.size 28 [.int .i64 E.sum, .int .i64 E.design, .int .i64 E.first, .slice Q.xc E.nc Q.zc, .slice Q.xw E.nw Q.zw, .slice Q.xh E.nh Q.zh, .slice Q.xd E.nd Q.zd, .slice Q.xi E.ni Q.zi, .slice Q.xs E.ns Q.zs, .slice Q.xk E.nk Q.zk, .slice Q.xp E.np Q.zp] := by rw [hW5]; exact Blk.lit _ _ _ _ rfl
  go_upto_region 6 with (fail)
  rw [← hW5]
  clear hW5
  generalize w4.heap.size = B5 at *
  obtain ⟨hs, rfl⟩ := TT.out.same T2
  have SM := same_any D E P Q W5 TT.out.few (SN.out.ext (x4.trans x5)) (sn4.ext x5)
  rw [hs] at SM
  unfold fontV at SM
  have SM := Lib.hid SM
  have k35 := K3.out.ext (x4.trans x5)
  have X5 := Lib.hid ((X3.out.trans x4).trans x5)
  clear x4 x5 sn4 T2 X3 SN K3 TT hs H2
  have q0 : W5.cell? ⟨B3, 0, none⟩ = some (.int .i64 D.sum) := k35.cell 0
  have q1 : W5.cell? ⟨B3, 1, none⟩ = some (.int .i64 D.design) := k35.cell 1
  have q2 : W5.cell? ⟨B3, 2, none⟩ = some (.int .i64 D.first) := k35.cell 2
  have q3 : W5.cell? ⟨B3, 3, none⟩ = some (.slice P.xc D.nc P.zc) := k35.cell 3
  have q4 : W5.cell? ⟨B3, 4, none⟩ = some (.slice P.xw D.nw P.zw) := k35.cell 4
  have q5 : W5.cell? ⟨B3, 5, none⟩ = some (.slice P.xh D.nh P.zh) := k35.cell 5
  have q6 : W5.cell? ⟨B3, 6, none⟩ = some (.slice P.xd D.nd P.zd) := k35.cell 6
  have q7 : W5.cell? ⟨B3, 7, none⟩ = some (.slice P.xi D.ni P.zi) := k35.cell 7
  have q8 : W5.cell? ⟨B3, 8, none⟩ = some (.slice P.xs D.ns P.zs) := k35.cell 8
  have q9 : W5.cell? ⟨B3, 9, none⟩ = some (.slice P.xk D.nk P.zk) := k35.cell 9
  have q10 : W5.cell? ⟨B3, 10, none⟩ = some (.slice P.xp D.np P.zp) := k35.cell 10
  have r0 : W5.cell? ⟨B5, 0, none⟩ = some (.int .i64 E.sum) := k5.cell 0
  have r1 : W5.cell? ⟨B5, 1, none⟩ = some (.int .i64 E.design) := k5.cell 1
  have r2 : W5.cell? ⟨B5, 2, none⟩ = some (.int .i64 E.first) := k5.cell 2
  have r3 : W5.cell? ⟨B5, 3, none⟩ = some (.slice Q.xc E.nc Q.zc) := k5.cell 3
  have r4 : W5.cell? ⟨B5, 4, none⟩ = some (.slice Q.xw E.nw Q.zw) := k5.cell 4
  have r5 : W5.cell? ⟨B5, 5, none⟩ = some (.slice Q.xh E.nh Q.zh) := k5.cell 5
  have r6 : W5.cell? ⟨B5, 6, none⟩ = some (.slice Q.xd E.nd Q.zd) := k5.cell 6
  have r7 : W5.cell? ⟨B5, 7, none⟩ = some (.slice Q.xi E.ni Q.zi) := k5.cell 7
  have r8 : W5.cell? ⟨B5, 8, none⟩ = some (.slice Q.xs E.ns Q.zs) := k5.cell 8
  have r9 : W5.cell? ⟨B5, 9, none⟩ = some (.slice Q.xk E.nk Q.zk) := k5.cell 9
  have r10 : W5.cell? ⟨B5, 10, none⟩ = some (.slice Q.xp E.np Q.zp) := k5.cell 10
  go_wp2_with fail
  refine SM.out.mono ?_; rintro e w6 ⟨rfl, x6⟩
  go_wp2_with fail
  go_ret
  exact ⟨rfl, X5.out.trans x6⟩

set_option maxRecDepth 100000 in
set_option maxHeartbeats 4000000 in
theorem walk (A0 : Option Addr) (l : List UInt8) (c : Nat) (hc : l.length ≤ c) (hm : c ≤ maxLen) (w : World) (hb : SeenB w A0 l) :
    Calls Try.prog 3 #[.slice A0 l.length c] w (Ret w (.bool true)) := by
  by_cases hl : (l.length : Int) ≤ 6000
  · have hm' : c ≤ 9223372036854775807 := hm
    exact core A0 l c w hl (fun w' x => (tread_any A0 l c w' (hb.ext x) hc (by omega)).mono fun e w'' h => of_readB h) (fun w' x => (rread_any A0 l c w' (hb.ext x) hc hm' (by omega)).mono fun e w'' h => of_readC h)
  · clear hb hc hm
    generalize l.length = n at *
    go_enter Try.func3, Try.ntmps3
    go_wp2_with fail
    refine (awake_any _).mono ?_; rintro e V ⟨rfl, x1⟩
    go_wp2_with fail
    go_ret
    exact ⟨rfl, x1⟩

set_option maxRecDepth 100000 in
theorem lifted (os : Os) (started : os.Started) (H : Type) (enc : TypeId × Value → H) :
    ReturnsInHanded {} Try.checked os 3 .any (Rows.tfmReadsSpec.pre6 enc Try.prog Try.f3 [] false) (Rows.tfmReadsSpec.post enc Try.prog Try.f3 false true false false) := by
  refine law_lift (C := Try.checked) own started (by kernel_rfl) Try.func3 laidOut rfl rfl Try.underlying4 (by kernel_rfl) ?_
    (ChangeSpec.witness6 (enc := enc) (C := Try.checked) false ⟨#[], #[.slice none 0 0], []⟩ 8 (by kernel_rfl) (by kernel_rfl) (by kernel_rfl) (by kernel_rfl)) ?_
  · intro H ds h
    match ds, h with
    | [_], _ => rfl
  · intro W base args ds p hval hA hlt hwt hsh
    rw [Try.params3] at hA hval
    obtain ⟨v0, vs0, d0, ds0, p0, q0, hargs, rfl, rfl, h0, r0⟩ := trodAll_cons hA
    obtain ⟨rfl, rfl, rfl⟩ := trodAll_nil r0
    obtain rfl : args = #[v0] := by cases args; simp_all
    obtain ⟨A0, l0, c0, rfl, hc0, hm0, hs0⟩ := seen_bytes Try.underlying22 Try.underlying5 (by kernel_rfl) (hval 0 22 v0 rfl rfl) h0
    exact walk A0 l0 c0 hc0 hm0 W hs0

theorem holds : Rows.TfmReadsSaid :=
  OpenClaim.holds_of_wide 3 Try.f3 rfl rfl rfl rfl rfl rfl rfl ⟨rfl, rfl, rfl, rfl, rfl⟩ rfl rfl rfl rfl rfl (by kernel_rfl) Try.func3 (by kernel_rfl)
    (of_decide_eq_true (by kernel_rfl)) (by unfold Func.isWrapper; first | (rw [if_pos (by decide +kernel)]; kernel_rfl) | (rw [if_neg (by decide +kernel)]; exact ⟨rfl, rfl⟩))
    (fun os started H enc _ => lifted os started H enc)
end TfmReads
end Go.Proofs.Ytggedodfkjdegaa

