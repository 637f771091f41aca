/- LiangBack: patterns are read as they were written, and what was read may be, and is read again as it was: for every input. -/
import Derived.Test.YtijhabhnhglhgaaDoorAwakeB10
namespace Go.Proofs.YtijhabhnhglhgaaDoor
open Go.ChangeShapes Go.WideShapes Go.ChangeAt Go.RowKit Go.Deep
namespace LiangBack
open L10

theorem fewp_no {D : PatsD} {P : PatsP} {w : World} (sn : SeenPats w D P) (h : fewD D = false) : Calls Tryd.prog 13 #[patsV D P] w (Ret w (.bool false)) := by
  have := fewp_any D P w sn
  rwa [h] at this
theorem fewp_yes {D : PatsD} {P : PatsP} {w : World} (sn : SeenPats w D P) (h : fewD D = true) : Calls Tryd.prog 13 #[patsV D P] w (Ret w (.bool true)) := by
  have := fewp_any D P w sn
  rwa [h] at this

/-- The first half's calls: what is written, and read. -/
structure Half (D : PatsD) (P : PatsP) (V : World) (ck : Bool) (e7 : Int) (t6 : List UInt8) : Prop where
  few : ∀ w', Ext V w' → Calls Tryd.prog 13 #[patsV D P] w' (Ret w' (.bool true))
  wr : ∀ w', Ext V w' → Calls Tryd.prog 14 #[patsV D P] w' fun e w1 => Ext w' w1 ∧ ∃ A c, e = .returned (.tuple #[.slice A t6.length c, .int .i64 e7]) ∧ SeenB w1 A t6
  pa : ∀ w' A c, Ext V w' → SeenB w' A t6 → Calls Tryd.prog 10 #[.slice A t6.length c] w' fun e w1 => Ext w' w1 ∧ ∃ a n ca b q cb, e = .returned (.tuple #[.agg #[.slice a n ca, .slice b q cb], .int .i64 0]) ∧
    ∀ w2, Ext w1 w2 → Calls Tryd.prog 12 #[patsV D P, .agg #[.slice a n ca, .slice b q cb]] w2 (fun e w3 => ∃ s : Bool, e = .returned (.bool s) ∧ Ext w2 w3 ∧ (ck = true → s = true))
  ck : ∀ w', Ext V w' → Calls Tryd.prog 16 #[patsV D P] w' (Ret w' (.bool ck))
theorem half (D : PatsD) (P : PatsP) (ok : PatsOk D P) (V : World) (hT : Tabs V) (sn : SeenPats V D P) (hf : fewD D = true) : ∃ ck e7 t6, ((ck = true ∧ e7 = 0) ∨ (ck = false ∧ e7 = 100)) ∧ Half D P V ck e7 t6 := by
  obtain ⟨f1, f2, f3⟩ := few_len hf
  have hin : ∀ x ∈ D.l ++ D.m, x.ns.length ≤ 1000000 := fun x hx => by have := (f3 x hx).2; omega
  have fl : D.l.length ≤ 1000000 := by omega
  have fm : D.m.length ≤ 1000000 := by omega
  clear f1 f2 f3
  refine ⟨patsB (rd D), (writeR (rd D)).2, (writeR (rd D)).1, ?_, ⟨fun w' x => fewp_yes (sn.ext x) hf, fun w' x => ?_, fun w' A c x sb => ?_, fun w' x => check_any D P ok.li ok.mi w' (sn.ext x) fl fm⟩⟩
  · unfold writeR
    cases patsB (rd D) <;> simp
  · refine (write_any D P ok.li ok.mi w' (sn.ext x) fl fm).mono ?_
    rintro e w1 ⟨y, A, c, rfl, _, _, s⟩
    exact ⟨y, A, c, rfl, s⟩
  · have hl : (writeR (rd D)).1.length ≤ 1000000 := by
      unfold writeR
      split
      · rename_i h; exact Nat.le_trans (write_length h) (by decide)
      · simp
    have hp : parseE (writeR (rd D)).1 = 0 ∧ (patsB (rd D) = true → parseD (writeR (rd D)).1 = rd D) := by
      unfold writeR
      split
      · rename_i h; obtain ⟨h1, h2⟩ := parseE_zero (parse_write h); exact ⟨h1, fun _ => h2⟩
      · rename_i h; exact ⟨rfl, fun h' => absurd h' h⟩
    refine (parse_all A _ c w' sb hl (hT.ext x)).mono ?_
    rintro e w1 ⟨y, ⟨l2, m2⟩, ⟨a, ca, b, cb⟩, rfl, hd, g⟩
    refine ⟨y, a, l2.length, ca, b, m2.length, cb, by rw [hp.1]; rfl, fun w2 y2 => ?_⟩
    have S := samep_any D ⟨l2, m2⟩ P ⟨a, ca, b, cb⟩ w2 ((sn.ext (x.trans y)).ext y2) (g.sn.ext y2) hin fl fm
    exact S.mono fun e w3 ⟨h1, h2⟩ => ⟨_, h1, h2, fun hck => decide_eq_true (by rw [hd, hp.2 hck])⟩
/-- The second half's: what a text tells is written, and read again. -/
theorem again (A : Option Addr) (t : List UInt8) (c : Nat) (w : World) (ht : SeenB w A t) (hn : t.length ≤ 1000000) (hT : Tabs w) :
    Calls Tryd.prog 10 #[.slice A t.length c] w fun e w1 => Ext w w1 ∧ ∃ a n ca b q cb e12 t13, (e12 = 0 ∨ e12 = 100) ∧ e = .returned (.tuple #[.agg #[.slice a n ca, .slice b q cb], .int .i64 e12]) ∧
      (∀ w2, Ext w1 w2 → Calls Tryd.prog 14 #[.agg #[.slice a n ca, .slice b q cb]] w2 fun e w3 => Ext w2 w3 ∧ ∃ A c, e = .returned (.tuple #[.slice A t13.length c, .int .i64 0]) ∧ SeenB w3 A t13) ∧
      (∀ w2 A c, Ext w1 w2 → SeenB w2 A t13 → Calls Tryd.prog 10 #[.slice A t13.length c] w2 fun e w3 => Ext w2 w3 ∧ ∃ a' n' ca' b' q' cb', e = .returned (.tuple #[.agg #[.slice a' n' ca', .slice b' q' cb'], .int .i64 0]) ∧
        ∀ w4, Ext w3 w4 → Calls Tryd.prog 12 #[.agg #[.slice a n ca, .slice b q cb], .agg #[.slice a' n' ca', .slice b' q' cb']] w4 (Ret w4 (.bool true))) := by
  refine (parse_all A t c w ht hn hT).mono ?_
  rintro e w1 ⟨y, ⟨l, m⟩, ⟨a, ca, b, cb⟩, rfl, hd, g⟩
  refine ⟨y, a, l.length, ca, b, m.length, cb, parseE t, writeL (rd ⟨l, m⟩), by unfold parseE; split <;> simp, rfl, fun w2 x2 => ?_, fun w2 A c x2 sb => ?_⟩
  · refine (write_all (g.ext x2)).mono ?_
    rintro e w3 ⟨y, A, c, rfl, _, _, s⟩
    exact ⟨y, A, c, rfl, s⟩
  · have hl := write_length g.may
    obtain ⟨p1, p2⟩ := parseE_zero (parse_write g.may)
    refine (parse_all A _ c w2 sb (by omega) ((hT.ext y).ext x2)).mono ?_
    rintro e w3 ⟨y3, ⟨l', m'⟩, ⟨a', ca', b', cb'⟩, rfl, hd', g'⟩
    refine ⟨y3, a', l'.length, ca', b', m'.length, cb', by rw [p1]; rfl, fun w4 x4 => ?_⟩
    have S := same_all ((g.ext x2).ext (y3.trans x4)) (g'.sn.ext x4)
    rwa [hd', p2, decide_eq_true rfl] at S

set_option maxRecDepth 100000 in
set_option maxHeartbeats 16000000 in
theorem core (A : Option Addr) (n c : Nat) (B : Option Addr) (q d : Nat) (A0 : Option Addr) (l : List UInt8) (c0 : Nat) (w : World) (hl : (l.length : Int) ≤ 5000) (ck : Bool) (e7 : Int) (t6 : List UInt8)
    (hck : (ck = true ∧ e7 = 0) ∨ (ck = false ∧ e7 = 100)) (hT : Tabs w) (hb : SeenB w A0 l)
    (D : PatsD) (P : PatsP) (eV : patsV D P = .agg #[.slice A n c, .slice B q d]) (V : World) (hV : V = w.alloc (.cells #[.slice A n c, .slice B q d] 27)) (hh : Half D P V ck e7 t6) :
    Calls Tryd.prog 5 #[.agg #[.slice A n c, .slice B q d], .slice A0 l.length c0] w (Ret w (.bool true)) := by
  have W0 : Ext w V := by rw [hV]; exact (Ext.refl _).alloc _
  have kB : Blk V w.heap.size 27 [.slice A n c, .slice B q d] := by rw [hV]; exact Blk.lit _ _ _ _ rfl
  obtain ⟨hf, hw, hp, hc⟩ := hh
  rw [eV] at hf hw hp hc
  have HF := Lib.hid hf
  have HW := Lib.hid hw
  have HP := Lib.hid hp
  have HC := Lib.hid hc
  have HL := Lib.hid (show l.length ≤ 5000 by omega)
  have HAG := Lib.hid (fun w' (x : Ext w w') => again A0 l c0 w' (hb.ext x) (by omega) (hT.ext x))
  have AW := Lib.hid (awake_any V (hT.ext W0))
  clear eV hf hw hp hc hb
  generalize l.length = n0 at *
  go_enter Tryd.func5, Tryd.ntmps5
  go_upto_region 1 with (fail)
  rw [← hV]
  clear hV
  generalize w.heap.size = Bx at *
  have HX := Lib.hid W0
  clear W0
  go_wp2_with fail
  refine AW.out.mono ?_; rintro e w1 ⟨rfl, x1⟩
  have q0 : w1.cell? ⟨Bx, 0, none⟩ = some (.slice A n c) := (kB.ext x1).cell 0
  have q1 : w1.cell? ⟨Bx, 1, none⟩ = some (.slice B q d) := (kB.ext x1).cell 1
  have Z1 := Lib.hid x1
  clear x1 AW
  go_wp2_with fail
  refine (HF.out _ Z1.out).mono ?_; rintro e w2 ⟨rfl, x2⟩
  have q0 := x2.at q0
  have q1 := x2.at q1
  have Z2 := Lib.hid (Z1.out.trans x2)
  clear x2 HF Z1
  go_wp2_with fail
  refine (HW.out _ Z2.out).mono ?_; rintro e w3 ⟨x3, A6, c6, rfl, s6⟩
  have q0 := x3.at q0
  have q1 := x3.at q1
  have Z3 := Lib.hid (Z2.out.trans x3)
  have PA := Lib.hid (HP.out w3 A6 c6 Z3.out s6)
  clear x3 HW Z2 s6 HP
  generalize t6.length = n6 at *
  go_wp2_with fail
  refine PA.out.mono ?_; rintro e w4 ⟨x4, a, n4, ca, b, q4, cb, rfl, hs4⟩
  have hs4 := Lib.hid hs4
  have q0 := x4.at q0
  have q1 := x4.at q1
  have Z4 := Lib.hid (Z3.out.trans x4)
  have lb : Bx < w4.heap.size := (kB.ext Z4.out).lt
  have hne : Bx ≠ w4.heap.size := by omega
  clear x4 Z3 PA
  go_wp2_with fail
  refine (hs4.out _ ((Ext.refl _).alloc _)).mono ?_; rintro e w5 ⟨s, rfl, x5, hs⟩
  have x45 : Ext w4 w5 := ((Ext.refl _).alloc _).trans x5
  have q0 := x45.at q0
  have q1 := x45.at q1
  have Z5 := Lib.hid (Z4.out.trans x45)
  clear x45 x5 Z4 hs4 lb hne
  rcases hck with ⟨rfl, rfl⟩ | ⟨rfl, rfl⟩
  · obtain rfl : s = true := hs rfl
    clear hs
    go_wp2_with fail
    refine (HC.out _ Z5.out).mono ?_; rintro e w6 ⟨rfl, x6⟩
    have Z6 := Lib.hid (Z5.out.trans x6)
    have AG := Lib.hid (HAG.out _ (HX.out.trans Z6.out))
    clear HC x6 Z5 HAG q0 q1
    go_wp2_with fail
    refine AG.out.mono ?_; rintro e w7 ⟨x7, a, n4, ca, b, q4, cb, e12, t13, h12, rfl, hw7, hp7⟩
    have kQ : Blk (w7.alloc (.cells #[.slice a n4 ca, .slice b q4 cb] 27)) w7.heap.size 27 [.slice a n4 ca, .slice b q4 cb] := Blk.lit _ _ _ _ rfl
    have WR := Lib.hid (hw7 _ ((Ext.refl w7).alloc (.cells #[.slice a n4 ca, .slice b q4 cb] 27)))
    have HP7 := Lib.hid hp7
    have Z7 := Lib.hid (Z6.out.trans x7)
    clear hw7 hp7 x7 AG Z6
    go_wp2_with fail
    refine WR.out.mono ?_; rintro e w8 ⟨x8, A13, c13, rfl, s13⟩
    have x78 : Ext w7 w8 := ((Ext.refl _).alloc _).trans x8
    have r0 : w8.cell? ⟨w7.heap.size, 0, none⟩ = some (.slice a n4 ca) := (kQ.ext x8).cell 0
    have r1 : w8.cell? ⟨w7.heap.size, 1, none⟩ = some (.slice b q4 cb) := (kQ.ext x8).cell 1
    have KQ := Lib.hid (kQ.ext x8)
    have PA := Lib.hid (HP7.out w8 A13 c13 x78 s13)
    have Z8 := Lib.hid (Z7.out.trans x78)
    clear x8 x78 s13 HP7 WR kQ Z7
    generalize w7.heap.size = By at *
    generalize t13.length = n13 at *
    go_wp2_with fail
    refine PA.out.mono ?_; rintro e w9 ⟨x9, a', n', ca', b', q', cb', rfl, hs9⟩
    have lb : By < w9.heap.size := (KQ.out.ext x9).lt
    have hne : By ≠ w9.heap.size := by omega
    have r0 := x9.at r0
    have r1 := x9.at r1
    have SM := Lib.hid (hs9 _ ((Ext.refl w9).alloc (.cells #[.slice a' n' ca', .slice b' q' cb'] 27)))
    have Z9 := Lib.hid (Z8.out.trans x9)
    clear x9 hs9 PA Z8
    go_wp2_with fail
    refine SM.out.mono ?_; rintro e w10 ⟨rfl, x10⟩
    have Z10 := Lib.hid (Z9.out.trans (((Ext.refl _).alloc _).trans x10))
    clear SM x10 Z9 r0 r1
    rcases h12 with rfl | rfl
    · go_wp2_with fail
      go_ret
      exact ⟨rfl, HX.out.trans Z10.out⟩
    · go_wp2_with fail
      go_ret
      exact ⟨rfl, HX.out.trans Z10.out⟩
  · clear hs
    go_wp2_with fail
    refine (HC.out _ Z5.out).mono ?_; rintro e w6 ⟨rfl, x6⟩
    have Z6 := Lib.hid (Z5.out.trans x6)
    have AG := Lib.hid (HAG.out _ (HX.out.trans Z6.out))
    clear HC x6 Z5 HAG q0 q1
    go_wp2_with fail
    refine AG.out.mono ?_; rintro e w7 ⟨x7, a, n4, ca, b, q4, cb, e12, t13, h12, rfl, hw7, hp7⟩
    have kQ : Blk (w7.alloc (.cells #[.slice a n4 ca, .slice b q4 cb] 27)) w7.heap.size 27 [.slice a n4 ca, .slice b q4 cb] := Blk.lit _ _ _ _ rfl
    have WR := Lib.hid (hw7 _ ((Ext.refl w7).alloc (.cells #[.slice a n4 ca, .slice b q4 cb] 27)))
    have HP7 := Lib.hid hp7
    have Z7 := Lib.hid (Z6.out.trans x7)
    clear hw7 hp7 x7 AG Z6
    go_wp2_with fail
    refine WR.out.mono ?_; rintro e w8 ⟨x8, A13, c13, rfl, s13⟩
    have x78 : Ext w7 w8 := ((Ext.refl _).alloc _).trans x8
    have r0 : w8.cell? ⟨w7.heap.size, 0, none⟩ = some (.slice a n4 ca) := (kQ.ext x8).cell 0
    have r1 : w8.cell? ⟨w7.heap.size, 1, none⟩ = some (.slice b q4 cb) := (kQ.ext x8).cell 1
    have KQ := Lib.hid (kQ.ext x8)
    have PA := Lib.hid (HP7.out w8 A13 c13 x78 s13)
    have Z8 := Lib.hid (Z7.out.trans x78)
    clear x8 x78 s13 HP7 WR kQ Z7
    generalize w7.heap.size = By at *
    generalize t13.length = n13 at *
    go_wp2_with fail
    refine PA.out.mono ?_; rintro e w9 ⟨x9, a', n', ca', b', q', cb', rfl, hs9⟩
    have lb : By < w9.heap.size := (KQ.out.ext x9).lt
    have hne : By ≠ w9.heap.size := by omega
    have r0 := x9.at r0
    have r1 := x9.at r1
    have SM := Lib.hid (hs9 _ ((Ext.refl w9).alloc (.cells #[.slice a' n' ca', .slice b' q' cb'] 27)))
    have Z9 := Lib.hid (Z8.out.trans x9)
    clear x9 hs9 PA Z8
    go_wp2_with fail
    refine SM.out.mono ?_; rintro e w10 ⟨rfl, x10⟩
    have Z10 := Lib.hid (Z9.out.trans (((Ext.refl _).alloc _).trans x10))
    clear SM x10 Z9 r0 r1
    rcases h12 with rfl | rfl
    · go_wp2_with fail
      go_ret
      exact ⟨rfl, HX.out.trans Z10.out⟩
    · go_wp2_with fail
      go_ret
      exact ⟨rfl, HX.out.trans Z10.out⟩

set_option maxRecDepth 100000 in
set_option maxHeartbeats 16000000 in
theorem walk (D : PatsD) (P : PatsP) (ok : PatsOk D P) (A0 : Option Addr) (l : List UInt8) (c0 : Nat) (_ : l.length ≤ c0) (_ : c0 ≤ maxLen) (w : World) (sn : SeenPats w D P) (hb : SeenB w A0 l) (hT : Tabs w) :
    Calls Tryd.prog 5 #[patsV D P, .slice A0 l.length c0] w (Ret w (.bool true)) := by
  obtain ⟨V, hV⟩ : ∃ V, V = w.alloc (.cells #[.slice P.x D.l.length P.c, .slice P.y D.m.length P.d] 27) := ⟨_, rfl⟩
  have W0 : Ext w V := by rw [hV]; exact (Ext.refl _).alloc _
  by_cases hf : fewD D = true
  · by_cases hl : (l.length : Int) ≤ 5000
    · obtain ⟨ck, e7, t6, hck, hh⟩ := half D P ok V (hT.ext W0) (sn.ext W0) hf
      exact core P.x D.l.length P.c P.y D.m.length P.d A0 l c0 w hl ck e7 t6 hck hT hb D P rfl V hV hh
    · have FEW := Lib.hid (fun w' (x : Ext V w') => fewp_yes ((sn.ext W0).ext x) hf)
      have AW := Lib.hid (awake_any V (hT.ext W0))
      have kB : Blk V w.heap.size 27 [.slice P.x D.l.length P.c, .slice P.y D.m.length P.d] := by rw [hV]; exact Blk.lit _ _ _ _ rfl
      unfold patsV at FEW ⊢
      clear sn ok hb hf
      generalize l.length = n0 at *
      generalize D.l.length = n at *
      generalize D.m.length = q at *
      obtain ⟨A, c, B, d⟩ := P
      dsimp only at *
      go_enter Tryd.func5, Tryd.ntmps5
      go_upto_region 1 with (fail)
      rw [← hV]
      clear hV
      generalize w.heap.size = Bx at *
      go_wp2_with fail
      refine AW.out.mono ?_; rintro e w1 ⟨rfl, x1⟩
      have q0 : w1.cell? ⟨Bx, 0, none⟩ = some (.slice A n c) := (kB.ext x1).cell 0
      have q1 : w1.cell? ⟨Bx, 1, none⟩ = some (.slice B q d) := (kB.ext x1).cell 1
      go_wp2_with fail
      refine (FEW.out _ x1).mono ?_; rintro e w2 ⟨rfl, x2⟩
      go_wp2_with fail
      go_ret
      exact ⟨rfl, (W0.trans x1).trans x2⟩
  · have FEW := Lib.hid (fun w' (x : Ext V w') => fewp_no ((sn.ext W0).ext x) (by simpa using hf))
    have AW := Lib.hid (awake_any V (hT.ext W0))
    have kB : Blk V w.heap.size 27 [.slice P.x D.l.length P.c, .slice P.y D.m.length P.d] := by rw [hV]; exact Blk.lit _ _ _ _ rfl
    unfold patsV at FEW ⊢
    clear sn ok hb hf
    generalize l.length = n0 at *
    generalize D.l.length = n at *
    generalize D.m.length = q at *
    obtain ⟨A, c, B, d⟩ := P
    dsimp only at *
    go_enter Tryd.func5, Tryd.ntmps5
    go_upto_region 1 with (fail)
    rw [← hV]
    clear hV
    generalize w.heap.size = Bx at *
    go_wp2_with fail
    refine AW.out.mono ?_; rintro e w1 ⟨rfl, x1⟩
    have q0 : w1.cell? ⟨Bx, 0, none⟩ = some (.slice A n c) := (kB.ext x1).cell 0
    have q1 : w1.cell? ⟨Bx, 1, none⟩ = some (.slice B q d) := (kB.ext x1).cell 1
    go_wp2_with fail
    refine (FEW.out _ x1).mono ?_; rintro e w2 ⟨rfl, x2⟩
    go_wp2_with fail
    go_ret
    exact ⟨rfl, (W0.trans x1).trans x2⟩

set_option maxRecDepth 100000 in
theorem lifted (os : Os) (started : os.Started) (H : Type) (enc : TypeId × Value → H) :
    ReturnsInHanded {} Tryd.checked os 5 .any (fun w args => (Rows.liangBackSpec.pre enc Tryd.prog Tryd.f5 [] false w args ∧ laidMetH Tryd.prog doorLaid w) ∧ sizedMet enc Tryd.prog Tryd.f5 (OpenSpec.ofChange Rows.liangBackSpec) false w args)
      (Rows.liangBackSpec.post enc Tryd.prog Tryd.f5 false true false false) := by
  refine law_liftD started (by kernel_rfl) Tryd.func5 rfl rfl Tryd.underlying4 (by kernel_rfl) ?_
    (ChangeSpec.witness_shaped (enc := enc) (C := Tryd.checked) (os := os) (X := fun w _ => laidMetH Tryd.prog doorLaid w) false (World.laidAll Tryd.prog os doorLaid) #[.agg #[.slice none 0 0, .slice none 0 0], .slice none 0 0] 8 (World.laidAll_os _ _ _)
      (World.shaped_of_ZipB (by kernel_rfl) (by kernel_rfl)) (by kernel_rfl) (by kernel_rfl) (by kernel_rfl) (laidStart os _)) ?_
  · intro H ds h
    match ds, h with
    | [_, _], _ => rfl
  · intro W base args ds p hval hA hlt hT
    rw [Tryd.params5] at hA hval
    obtain ⟨v0, vs0, d0, ds0, p0, q0, hargs, rfl, rfl, h0, r0⟩ := trodAll_cons hA
    obtain ⟨v1, vs1, d1, ds1, p1, q1, rfl, rfl, rfl, h1, r1⟩ := trodAll_cons r0
    obtain ⟨rfl, rfl, rfl⟩ := trodAll_nil r1
    obtain rfl : args = #[v0, v1] := by cases args; simp_all
    obtain ⟨D0, P0, rfl, ok0, hs0⟩ := arg_pats (hval 0 27 v0 rfl rfl) h0
    obtain ⟨A1, l1, c1, rfl, hc1, hm1, hs1⟩ := seen_bytes Tryd.underlying22 Tryd.underlying5 (by kernel_rfl) (hval 1 22 v1 rfl rfl) h1
    exact walk D0 P0 ok0 A1 l1 c1 hc1 hm1 W hs0 hs1 hT

theorem bare : Rows.LiangBackSaid :=
  OpenClaim.holds_of_wide 5 Tryd.f5 rfl rfl rfl rfl rfl rfl rfl ⟨rfl, rfl, rfl, rfl, rfl⟩ rfl rfl rfl rfl rfl (by kernel_rfl) Tryd.func5 (by kernel_rfl)
    (of_decide_eq_true (by kernel_rfl)) (by unfold Func.isWrapper; first | (rw [if_pos (by decide +kernel)]; kernel_rfl) | (rw [if_neg (by decide +kernel)]; exact ⟨rfl, rfl⟩))
    (fun os started H enc _ => lifted os started H enc)
theorem holds : Rows.LiangBackCardSaid :=
  Claim7.holds_tied_plain_at .later [] [.data, .pinned] true Rows.liangBackCard.stood.harness false bare (fun _ h => by cases h) (by kernel_rfl) (fun _ h => by cases h) liangBack_row_tie rfl ⟨rfl, rfl⟩ (by kernel_rfl) rfl
    (fun f fn hf hfn => by
      obtain rfl : f = 5 := Option.some.inj ((show Tryd.prog.funcNamed "compositor/compositorlaw10.LiangBack" = some 5 by kernel_rfl).symm.trans hf) |>.symm
      obtain rfl : fn = Tryd.f5 := (Option.some.inj (Tryd.func5.symm.trans hfn)).symm
      exact ⟨by kernel_rfl, standsIn (ts := [27, 22]) (by kernel_rfl) (by rw [Tryd.params5])⟩)
    (by kernel_rfl)
end LiangBack
end Go.Proofs.YtijhabhnhglhgaaDoor

