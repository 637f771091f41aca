/- LiangParses: the patterns of any text are what the document says, or its error: for every input. -/
import Derived.Test.YtijhabhnhglhgaaDoorAwakeB10
import Derived.Test.YtijhabhnhglhgaaDoorDocK10
namespace Go.Proofs.YtijhabhnhglhgaaDoor
open Go.ChangeShapes Go.WideShapes Go.ChangeAt Go.RowKit Go.Deep
namespace LiangParses
open L10

theorem parseQ_A {w w' : World} {t : List UInt8} {e : Ending} (h : ParseQ w (parseV t) e w') : ParseA w t e w' := by
  obtain ⟨hx, (⟨D, P, rfl, sn, l1, l2, m1, m2, hin, h⟩ | ⟨rfl, h⟩)⟩ := h
  · obtain ⟨e1, e2⟩ := parseE_zero h
    have hd : rd D = parseD t := e2.symm
    have hb : patsB (rd D) = true := (parseV_ok h).1
    refine ⟨hx, D, P, by rw [e1], hd, sn, fun x hx' => ?_, hb, ⟨l1, l2⟩, ⟨m1, m2⟩⟩
    obtain ⟨r1, r2⟩ := hin x hx'
    obtain ⟨_, h1, h2⟩ := patsB_parts hb
    have e3 : x.s.data.toList = (tn x).1 := rfl
    have e4 := list_len x.s
    have hm : 1000000 ≤ maxLen := by decide
    rcases List.mem_append.1 hx' with hx' | hx'
    · have g1 := (pat_len (h1 x hx')).2
      exact ⟨r1, r2, by rw [← e4, e3]; omega, fun n hn => by have := (pat_vals (h1 x hx')).2 n hn; omega⟩
    · obtain ⟨g1, g2, g3⟩ := exc_parts (h2 x hx')
      have g4 : (tn x).1.length ≤ 40 := by
        simp only [plainB, Bool.and_eq_true, decide_eq_true_eq] at g1; omega
      exact ⟨r1, r2, by rw [← e4, e3]; omega, fun n hn => by have := rises_mem _ _ g3 n hn; omega⟩
  · obtain ⟨e1, e2⟩ := parseE_no h
    exact ⟨hx, ⟨[], []⟩, ⟨none, 0, none, 0⟩, by rw [e1]; rfl, e2.symm, ⟨SeenW.nil, SeenW.nil⟩, fun x hx' => by simp at hx', rfl, by simp, by simp⟩

set_option maxRecDepth 100000 in
set_option maxHeartbeats 16000000 in
theorem core (A : Option Addr) (t : List UInt8) (c : Nat) (w : World) (hs : SeenB w A t) (hT : Tabs w) (ht : (t.length : Int) ≤ 5000) :
    Calls Tryd.prog 3 #[.slice A t.length c] w (Ret w (.bool true)) := by
  have P1 := Lib.hid (fun w' (x : Ext w w') => parse_all A t c w' (hs.ext x) (by omega) (hT.ext x))
  have P2 := Lib.hid (fun w' (x : Ext w w') => (rparse_any A t c w' (hs.ext x) (by omega)).mono fun e w'' h => parseQ_A h)
  have AW := Lib.hid (awake_any w hT)
  clear hs hT
  generalize parseE t = E at *
  generalize t.length = n at *
  go_enter Tryd.func3, Tryd.ntmps3
  go_wp2_with fail
  refine AW.out.mono ?_; rintro e w1 ⟨rfl, x1⟩
  have X1 := Lib.hid x1
  clear x1 AW
  go_wp2_with fail
  refine (P1.out _ X1.out).mono ?_; rintro e w2 ⟨x2, ⟨l, m⟩, ⟨a, ca, b, cb⟩, rfl, hd, gd⟩
  dsimp only [patsV]
  obtain ⟨W3, hW3⟩ : ∃ W3, W3 = w2.alloc (.cells #[.slice a l.length ca, .slice b m.length cb] 27) := ⟨_, rfl⟩
  have x3 : Ext w2 W3 := by rw [hW3]; exact (Ext.refl _).alloc _
  have k3 : Blk W3 w2.heap.size 27 [.slice a l.length ca, .slice b m.length cb] := by rw [hW3]; exact Blk.lit _ _ _ _ rfl
  go_upto_region 5 with (fail)
  rw [← hW3]
  clear hW3
  generalize w2.heap.size = B3 at *
  have X3 := Lib.hid ((X1.out.trans x2).trans x3)
  have GD := Lib.hid (gd.ext x3)
  have K3 := Lib.hid k3
  have HD := Lib.hid hd
  clear x2 x3 k3 gd hd P1 X1
  go_wp2_with fail
  refine (P2.out _ X3.out).mono ?_; rintro e w4 ⟨x4, ⟨l', m'⟩, ⟨a', ca', b', cb'⟩, rfl, hd', gd'⟩
  dsimp only [patsV]
  obtain ⟨W5, hW5⟩ : ∃ W5, W5 = w4.alloc (.cells #[.slice a' l'.length ca', .slice b' m'.length cb'] 27) := ⟨_, rfl⟩
  have x5 : Ext w4 W5 := by rw [hW5]; exact (Ext.refl _).alloc _
  have k5 : Blk W5 w4.heap.size 27 [.slice a' l'.length ca', .slice b' m'.length cb'] := by rw [hW5]; exact Blk.lit _ _ _ _ rfl
  go_upto_region 6 with (fail)
  rw [← hW5]
  clear hW5
  generalize w4.heap.size = B5 at *
  have SM := same_all (GD.out.ext (x4.trans x5)) (gd'.ext x5).sn
  rw [HD.out, hd', decide_eq_true rfl] at SM
  have SM := Lib.hid SM
  unfold patsV at SM
  dsimp only at SM
  have q0 : W5.cell? ⟨B3, 0, none⟩ = some (.slice a l.length ca) := (K3.out.ext (x4.trans x5)).cell 0
  have q1 : W5.cell? ⟨B3, 1, none⟩ = some (.slice b m.length cb) := (K3.out.ext (x4.trans x5)).cell 1
  have r0 : W5.cell? ⟨B5, 0, none⟩ = some (.slice a' l'.length ca') := k5.cell 0
  have r1 : W5.cell? ⟨B5, 1, none⟩ = some (.slice b' m'.length cb') := k5.cell 1
  have X5 := Lib.hid ((X3.out.trans x4).trans x5)
  clear x4 x5 k5 gd' hd' P2 X3 GD HD K3
  generalize l.length = n1 at *
  generalize m.length = n2 at *
  generalize l'.length = n3 at *
  generalize m'.length = n4 at *
  go_wp2_with fail
  refine SM.out.mono ?_; rintro e w6 ⟨rfl, x6⟩
  go_wp2_with fail
  go_ret
  exact ⟨rfl, X5.out.trans x6⟩

set_option maxRecDepth 100000 in
set_option maxHeartbeats 4000000 in
theorem walk (A0 : Option Addr) (l : List UInt8) (c0 : Nat) (_ : l.length ≤ c0) (_ : c0 ≤ maxLen) (w : World) (h0 : SeenB w A0 l) (hT : Tabs w) :
    Calls Tryd.prog 3 #[.slice A0 l.length c0] w (Ret w (.bool true)) := by
  have AW := Lib.hid (awake_any w hT)
  by_cases hl : (l.length : Int) ≤ 5000
  · exact core A0 l c0 w h0 hT hl
  · clear h0 hT
    generalize l.length = n at *
    go_enter Tryd.func3, Tryd.ntmps3
    go_wp2_with fail
    refine AW.out.mono ?_; rintro e V ⟨rfl, x1⟩
    go_wp2_with fail
    go_ret
    exact ⟨rfl, x1⟩

set_option maxRecDepth 100000 in
theorem lifted (os : Os) (started : os.Started) (H : Type) (enc : TypeId × Value → H) :
    ReturnsInHanded {} Tryd.checked os 3 .any (fun w args => (Rows.liangParsesSpec.pre enc Tryd.prog Tryd.f3 [] false w args ∧ laidMetH Tryd.prog doorLaid w) ∧ sizedMet enc Tryd.prog Tryd.f3 (OpenSpec.ofChange Rows.liangParsesSpec) false w args)
      (Rows.liangParsesSpec.post enc Tryd.prog Tryd.f3 false true false false) := by
  refine law_liftD started (by kernel_rfl) Tryd.func3 rfl rfl Tryd.underlying4 (by kernel_rfl) ?_
    (ChangeSpec.witness_shaped (enc := enc) (C := Tryd.checked) (os := os) (X := fun w _ => laidMetH Tryd.prog doorLaid w) false (World.laidAll Tryd.prog os doorLaid) #[.slice none 0 0] 8 (World.laidAll_os _ _ _)
      (World.shaped_of_ZipB (by kernel_rfl) (by kernel_rfl)) (by kernel_rfl) (by kernel_rfl) (by kernel_rfl) (laidStart os _)) ?_
  · intro H ds h
    match ds, h with
    | [_], _ => rfl
  · intro W base args ds p hval hA hlt hT
    rw [Tryd.params3] at hA hval
    obtain ⟨v0, vs0, d0, ds0, p0, q0, hargs, rfl, rfl, h0, r0⟩ := trodAll_cons hA
    obtain ⟨rfl, rfl, rfl⟩ := trodAll_nil r0
    obtain rfl : args = #[v0] := by cases args; simp_all
    obtain ⟨A0, l0, c0, rfl, hc0, hm0, hs0⟩ := seen_bytes Tryd.underlying22 Tryd.underlying5 (by kernel_rfl) (hval 0 22 v0 rfl rfl) h0
    exact walk A0 l0 c0 hc0 hm0 W hs0 hT

theorem bare : Rows.LiangParsesSaid :=
  OpenClaim.holds_of_wide 3 Tryd.f3 rfl rfl rfl rfl rfl rfl rfl ⟨rfl, rfl, rfl, rfl, rfl⟩ rfl rfl rfl rfl rfl (by kernel_rfl) Tryd.func3 (by kernel_rfl)
    (of_decide_eq_true (by kernel_rfl)) (by unfold Func.isWrapper; first | (rw [if_pos (by decide +kernel)]; kernel_rfl) | (rw [if_neg (by decide +kernel)]; exact ⟨rfl, rfl⟩))
    (fun os started H enc _ => lifted os started H enc)
theorem holds : Rows.LiangParsesCardSaid :=
  Claim7.holds_tied_plain_at .later [] [.data, .pinned] true Rows.liangParsesCard.stood.harness false bare (fun _ h => by cases h) (by kernel_rfl) (fun _ h => by cases h) liangParses_row_tie rfl ⟨rfl, rfl⟩ (by kernel_rfl) rfl
    (fun f fn hf hfn => by
      obtain rfl : f = 3 := Option.some.inj ((show Tryd.prog.funcNamed "compositor/compositorlaw10.LiangParses" = some 3 by kernel_rfl).symm.trans hf) |>.symm
      obtain rfl : fn = Tryd.f3 := (Option.some.inj (Tryd.func3.symm.trans hfn)).symm
      exact ⟨by kernel_rfl, standsIn (ts := [22]) (by kernel_rfl) (by rw [Tryd.params3])⟩)
    (by kernel_rfl)
end LiangParses
end Go.Proofs.YtijhabhnhglhgaaDoor

