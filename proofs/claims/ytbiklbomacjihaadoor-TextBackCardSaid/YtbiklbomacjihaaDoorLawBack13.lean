/- TextBack: words are read as they were written, and what is read is written so that it is read again: for every input. Written by gen13/back.py. -/
import Derived.Test.YtbiklbomacjihaaDoorAns13
import Derived.Test.YtbiklbomacjihaaDoorMath13
namespace Go.Proofs.YtbiklbomacjihaaDoor
open Go.ChangeShapes Go.WideShapes Go.ChangeAt Go.RowKit Go.Deep
namespace TextBack
open L13

theorem readA_none : readA [] = ([], 130) := by kernel_rfl
/-- Two lists of words: are they the same? -/
theorem same_all {w : World} {A A' : Option Addr} {l l' : List CW} {c c' : Nat} (hs : SeenC w A l) (hs' : SeenC w A' l') (hm : l.length ≤ 1000000) (hin : ∀ x ∈ l, x.cs.length ≤ 1000000 ∧ x.ss.length ≤ 1000000) (n n' : Nat) (hn : n = l.length) (hn' : n' = l'.length) :
    Calls Tryd.prog 13 #[.slice A n c, .slice A' n' c'] w (Ret w (.bool (decide (l.map tw = l'.map tw)))) :=
  rsame_any A A' l l' n n' c c' w hs hs' hn hn' (by omega) hin
set_option maxRecDepth 100000 in
set_option maxHeartbeats 16000000 in
theorem core (A : Option Addr) (l : List CW) (n c : Nat) (hn : n = l.length) (B : Option Addr) (t : List UInt8) (q d : Nat) (hq : q = t.length) (hd : q ≤ d) (hd1 : d ≤ maxLen) (w : World) (hs : SeenC w A l) (ok : ∀ x ∈ l, x.Ok) (ht : SeenB w B t) (hT : Tabs w) (hf : fewB (l.map tw) = true) (ht2 : q ≤ 2000) :
    Calls Tryd.prog 5 #[.slice A n c, .slice B q d] w (Ret w (.bool true)) := by
  have FW := Lib.hid (fun w' (x : Ext w w') => rfew_any A l n c w' (hs.ext x) hn)
  rw [hf] at FW
  have P1 := Lib.hid (fun w' (x : Ext w w') => write_all A l n c w' (hs.ext x) hn ok)
  have C1 := Lib.hid (fun w' (x : Ext w w') => check_any A l n c w' (hs.ext x) hn ok)
  have P3 := Lib.hid (fun w' (x : Ext w w') => read_all B t q d w' (ht.ext x) hq (by omega) ⟨hd, hd1⟩ (hT.ext x))
  have SHORT := Lib.hid (fun (h : (readA t).2 = 0) => show (textL (readA t).1).length ≤ q by rw [hq]; exact readA_short h)
  have CASES := Lib.hid (readA_cases t)
  have RLEN := Lib.hid (readA_len t)
  have AW := Lib.hid (awake_any w hT)
  have HS := Lib.hid (fun w' (x : Ext w w') => hs.ext x)
  have HT := Lib.hid hT
  have HN := Lib.hid hn
  have FP := Lib.hid (few_parts hf)
  have hq64 : (q : Int) ≤ 2000 := by omega
  clear hs hT hn hf ok ht hq hd hd1
  unfold WriteG at P1
  unfold textA at P1
  unfold ReadG at P3
  obtain ⟨r, hr⟩ : ∃ r, r = readA t := ⟨_, rfl⟩
  rw [← hr] at P3 SHORT CASES RLEN
  clear hr
  obtain ⟨r1, r2⟩ := r
  dsimp only at P3 SHORT CASES RLEN
  go_enter Tryd.func5, Tryd.ntmps5
  go_wp2_with fail
  refine AW.out.mono ?_; rintro e w1 ⟨rfl, x1⟩
  have X1 := Lib.hid x1
  clear x1 AW
  go_wp2_with fail
  refine (FW.out _ X1.out).mono ?_; rintro e w2 ⟨rfl, x2⟩
  have X2 := Lib.hid (X1.out.trans x2)
  clear x2 X1 FW
  go_wp2_with fail
  cases hb : checkB (l.map tw) with
  | false =>
    rw [hb, if_neg (by decide)] at P1
    rw [hb] at C1
    refine (P1.out _ X2.out).mono ?_; rintro e w3 ⟨x3, A3, c3, rfl, k1, k2, s3⟩
    have X3 := Lib.hid (X2.out.trans x3)
    have R1 := Lib.hid (read_all A3 [] 0 c3 w3 s3 rfl (by omega) ⟨by omega, k2⟩ (HT.out.ext X3.out))
    unfold ReadG at R1
    rw [readA_none] at R1
    clear x3 X2 P1 hb k1 k2 s3
    go_wp2_with fail
    refine R1.out.mono ?_; rintro e w4 ⟨x4, A4, wl, c4, rfl, hwl, g4⟩
    have X4 := Lib.hid (X3.out.trans x4)
    obtain ⟨bs, hbs⟩ : ∃ bs, decide (l.map tw = wl.map tw) = bs := ⟨_, rfl⟩
    have SM := Lib.hid (same_all (c := c) (c' := c4) (HS.out _ X4.out) g4.sn (by have := FP.out.1; omega) (fun x hx => by have := FP.out.2 x hx; omega) n wl.length HN.out rfl)
    rw [hbs] at SM
    clear x4 X3 R1 hwl g4 hbs
    dsimp only
    generalize wl.length = z1 at *
    go_wp2_with fail
    refine SM.out.mono ?_; rintro e w5 ⟨rfl, x5⟩
    have X5 := Lib.hid (X4.out.trans x5)
    clear x5 X4 SM
    go_wp2_with fail
    refine (C1.out _ X5.out).mono ?_; rintro e w6 ⟨rfl, x6⟩
    have X6 := Lib.hid (X5.out.trans x6)
    clear x6 X5 C1
    go_wp2_with fail
    refine (P3.out _ X6.out).mono ?_; rintro e w7 ⟨x7, A7, wm, c7, rfl, hwm, g7⟩
    have X7 := Lib.hid (X6.out.trans x7)
    have G7 := Lib.hid g7
    have HWM := Lib.hid hwm
    have LM : wm.length ≤ 100 := by have := RLEN.out.1; rw [← hwm, List.length_map] at this; exact this
    have IN7 := Lib.hid (word_in (wl := wm) (by rw [hwm]; exact RLEN.out.2))
    have W7 := Lib.hid (write_all A7 wm wm.length c7 w7 g7.sn rfl g7.ok)
    unfold WriteG textA at W7
    rw [hwm] at W7
    clear x7 X6 P3 g7 hwm
    dsimp only
    have H7 := Lib.hid (show wm.length = wm.length from rfl)
    rcases CASES.out with ⟨h2, h3⟩ | ⟨h2, h3⟩
    · subst h2
      rw [if_pos h3] at W7
      have SH := SHORT.out rfl
      have HT3 := Lib.hid (readA_text h3)
      clear h3 CASES RLEN SHORT
      obtain ⟨y1, hy1⟩ : ∃ y1, y1 = wm.length := ⟨_, rfl⟩
      have HY1 := Lib.hid hy1
      rw [← hy1] at W7 LM ⊢
      clear hy1 H7
      go_wp2_with fail
      refine W7.out.mono ?_; rintro e w8 ⟨x8, A8, c8, rfl, k1, k2, s8⟩
      have X8 := Lib.hid (X7.out.trans x8)
      have R8 := Lib.hid (read_all A8 (textL r1) (textL r1).length c8 w8 s8 rfl (by omega) ⟨k1, k2⟩ (HT.out.ext X8.out))
      unfold ReadG at R8
      rw [HT3.out] at R8
      have Z8 := Lib.hid x8
      clear x8 X7 W7 k1 k2 s8
      dsimp only
      generalize (textL r1).length = z8 at *
      have hz8 : (z8 : Int) ≤ (q : Int) := by omega
      go_wp2_with fail
      refine R8.out.mono ?_; rintro e w9 ⟨x9, A9, wo, c9, rfl, hwo, g9⟩
      have X9 := Lib.hid (X8.out.trans x9)
      have SM := Lib.hid (same_all (c := c7) (c' := c9) (G7.out.ext (Z8.out.trans x9)).sn g9.sn (by rw [← HY1.out]; omega) IN7.out y1 wo.length HY1.out rfl)
      rw [HWM.out, hwo, decide_eq_true rfl] at SM
      clear x9 X8 R8 hwo g9
      dsimp only
      generalize wo.length = z9 at *
      go_wp2_with fail
      refine SM.out.mono ?_; rintro e w10 ⟨rfl, x10⟩
      go_wp2_with fail
      go_ret
      exact ⟨rfl, X9.out.trans x10⟩
    · subst h2 h3
      rw [if_neg (by decide)] at W7
      clear CASES RLEN SHORT
      obtain ⟨y1, hy1⟩ : ∃ y1, y1 = wm.length := ⟨_, rfl⟩
      have HY1 := Lib.hid hy1
      rw [← hy1] at W7 LM ⊢
      clear hy1 H7
      go_wp2_with fail
      refine W7.out.mono ?_; rintro e w8 ⟨x8, A8, c8, rfl, k1, k2, s8⟩
      have X8 := Lib.hid (X7.out.trans x8)
      have R8 := Lib.hid (read_all A8 [] 0 c8 w8 s8 rfl (by omega) ⟨by omega, k2⟩ (HT.out.ext X8.out))
      unfold ReadG at R8
      rw [readA_none] at R8
      have Z8 := Lib.hid x8
      clear x8 X7 W7 k1 k2 s8
      go_wp2_with fail
      refine R8.out.mono ?_; rintro e w9 ⟨x9, A9, wo, c9, rfl, hwo, g9⟩
      have X9 := Lib.hid (X8.out.trans x9)
      have SM := Lib.hid (same_all (c := c7) (c' := c9) (G7.out.ext (Z8.out.trans x9)).sn g9.sn (by rw [← HY1.out]; omega) IN7.out y1 wo.length HY1.out rfl)
      rw [HWM.out, hwo, decide_eq_true rfl] at SM
      clear x9 X8 R8 hwo g9
      dsimp only
      generalize wo.length = z9 at *
      go_wp2_with fail
      refine SM.out.mono ?_; rintro e w10 ⟨rfl, x10⟩
      go_wp2_with fail
      go_ret
      exact ⟨rfl, X9.out.trans x10⟩
  | true =>
    rw [hb, if_pos rfl] at P1
    rw [hb] at C1
    refine (P1.out _ X2.out).mono ?_; rintro e w3 ⟨x3, A3, c3, rfl, k1, k2, s3⟩
    have X3 := Lib.hid (X2.out.trans x3)
    have TM : (textL (l.map tw)).length ≤ 20000 := by
      have CP := check_parts hb
      have h1 := textL_most CP.2.2.1
      have h2 := CP.2.1
      omega
    have R1 := Lib.hid (read_all A3 (textL (l.map tw)) (textL (l.map tw)).length c3 w3 s3 rfl (by omega) ⟨k1, k2⟩ (HT.out.ext X3.out))
    unfold ReadG at R1
    rw [readA_text hb] at R1
    clear x3 X2 P1 hb k1 k2 s3 TM
    dsimp only
    generalize (textL (l.map tw)).length = z3 at *
    go_wp2_with fail
    refine R1.out.mono ?_; rintro e w4 ⟨x4, A4, wl, c4, rfl, hwl, g4⟩
    have X4 := Lib.hid (X3.out.trans x4)
    have SM := Lib.hid (same_all (c := c) (c' := c4) (HS.out _ X4.out) g4.sn (by have := FP.out.1; omega) (fun x hx => by have := FP.out.2 x hx; omega) n wl.length HN.out rfl)
    rw [hwl, decide_eq_true rfl] at SM
    clear x4 X3 R1 hwl g4
    dsimp only
    generalize wl.length = z1 at *
    go_wp2_with fail
    refine SM.out.mono ?_; rintro e w5 ⟨rfl, x5⟩
    have X5 := Lib.hid (X4.out.trans x5)
    clear x5 X4 SM
    go_wp2_with fail
    refine (C1.out _ X5.out).mono ?_; rintro e w6 ⟨rfl, x6⟩
    have X6 := Lib.hid (X5.out.trans x6)
    clear x6 X5 C1
    go_wp2_with fail
    refine (P3.out _ X6.out).mono ?_; rintro e w7 ⟨x7, A7, wm, c7, rfl, hwm, g7⟩
    have X7 := Lib.hid (X6.out.trans x7)
    have G7 := Lib.hid g7
    have HWM := Lib.hid hwm
    have LM : wm.length ≤ 100 := by have := RLEN.out.1; rw [← hwm, List.length_map] at this; exact this
    have IN7 := Lib.hid (word_in (wl := wm) (by rw [hwm]; exact RLEN.out.2))
    have W7 := Lib.hid (write_all A7 wm wm.length c7 w7 g7.sn rfl g7.ok)
    unfold WriteG textA at W7
    rw [hwm] at W7
    clear x7 X6 P3 g7 hwm
    dsimp only
    have H7 := Lib.hid (show wm.length = wm.length from rfl)
    rcases CASES.out with ⟨h2, h3⟩ | ⟨h2, h3⟩
    · subst h2
      rw [if_pos h3] at W7
      have SH := SHORT.out rfl
      have HT3 := Lib.hid (readA_text h3)
      clear h3 CASES RLEN SHORT
      obtain ⟨y1, hy1⟩ : ∃ y1, y1 = wm.length := ⟨_, rfl⟩
      have HY1 := Lib.hid hy1
      rw [← hy1] at W7 LM ⊢
      clear hy1 H7
      go_wp2_with fail
      refine W7.out.mono ?_; rintro e w8 ⟨x8, A8, c8, rfl, k1, k2, s8⟩
      have X8 := Lib.hid (X7.out.trans x8)
      have R8 := Lib.hid (read_all A8 (textL r1) (textL r1).length c8 w8 s8 rfl (by omega) ⟨k1, k2⟩ (HT.out.ext X8.out))
      unfold ReadG at R8
      rw [HT3.out] at R8
      have Z8 := Lib.hid x8
      clear x8 X7 W7 k1 k2 s8
      dsimp only
      generalize (textL r1).length = z8 at *
      have hz8 : (z8 : Int) ≤ (q : Int) := by omega
      go_wp2_with fail
      refine R8.out.mono ?_; rintro e w9 ⟨x9, A9, wo, c9, rfl, hwo, g9⟩
      have X9 := Lib.hid (X8.out.trans x9)
      have SM := Lib.hid (same_all (c := c7) (c' := c9) (G7.out.ext (Z8.out.trans x9)).sn g9.sn (by rw [← HY1.out]; omega) IN7.out y1 wo.length HY1.out rfl)
      rw [HWM.out, hwo, decide_eq_true rfl] at SM
      clear x9 X8 R8 hwo g9
      dsimp only
      generalize wo.length = z9 at *
      go_wp2_with fail
      refine SM.out.mono ?_; rintro e w10 ⟨rfl, x10⟩
      go_wp2_with fail
      go_ret
      exact ⟨rfl, X9.out.trans x10⟩
    · subst h2 h3
      rw [if_neg (by decide)] at W7
      clear CASES RLEN SHORT
      obtain ⟨y1, hy1⟩ : ∃ y1, y1 = wm.length := ⟨_, rfl⟩
      have HY1 := Lib.hid hy1
      rw [← hy1] at W7 LM ⊢
      clear hy1 H7
      go_wp2_with fail
      refine W7.out.mono ?_; rintro e w8 ⟨x8, A8, c8, rfl, k1, k2, s8⟩
      have X8 := Lib.hid (X7.out.trans x8)
      have R8 := Lib.hid (read_all A8 [] 0 c8 w8 s8 rfl (by omega) ⟨by omega, k2⟩ (HT.out.ext X8.out))
      unfold ReadG at R8
      rw [readA_none] at R8
      have Z8 := Lib.hid x8
      clear x8 X7 W7 k1 k2 s8
      go_wp2_with fail
      refine R8.out.mono ?_; rintro e w9 ⟨x9, A9, wo, c9, rfl, hwo, g9⟩
      have X9 := Lib.hid (X8.out.trans x9)
      have SM := Lib.hid (same_all (c := c7) (c' := c9) (G7.out.ext (Z8.out.trans x9)).sn g9.sn (by rw [← HY1.out]; omega) IN7.out y1 wo.length HY1.out rfl)
      rw [HWM.out, hwo, decide_eq_true rfl] at SM
      clear x9 X8 R8 hwo g9
      dsimp only
      generalize wo.length = z9 at *
      go_wp2_with fail
      refine SM.out.mono ?_; rintro e w10 ⟨rfl, x10⟩
      go_wp2_with fail
      go_ret
      exact ⟨rfl, X9.out.trans x10⟩
set_option maxRecDepth 100000 in
set_option maxHeartbeats 4000000 in
theorem walk (A0 : Option Addr) (l : List CW) (c0 : Nat) (_ : l.length ≤ c0) (_ : c0 ≤ maxLen) (ok : ∀ x ∈ l, x.Ok) (A1 : Option Addr) (t : List UInt8) (c1 : Nat) (hc1 : t.length ≤ c1) (hm1 : c1 ≤ maxLen) (w : World) (h0 : SeenC w A0 l) (h1 : SeenB w A1 t) (hT : Tabs w) :
    Calls Tryd.prog 5 #[.slice A0 l.length c0, .slice A1 t.length c1] w (Ret w (.bool true)) := by
  have AW := Lib.hid (awake_any w hT)
  have FW := Lib.hid (fun w' (x : Ext w w') => rfew_any A0 l l.length c0 w' (h0.ext x) rfl)
  cases hf : fewB (l.map tw) with
  | true =>
    by_cases hl : t.length ≤ 2000
    · exact core A0 l l.length c0 rfl A1 t t.length c1 rfl hc1 hm1 w h0 ok h1 hT hf hl
    · have hl : (2000 : Int) < (t.length : Int) := by omega
      rw [hf] at FW
      clear h0 h1 hT hf ok hc1
      generalize l.length = n at *
      generalize t.length = m at *
      go_enter Tryd.func5, Tryd.ntmps5
      go_wp2_with fail
      refine AW.out.mono ?_; rintro e V ⟨rfl, x1⟩
      go_wp2_with fail
      refine (FW.out _ x1).mono ?_; rintro e V2 ⟨rfl, x2⟩
      go_wp2_with fail
      go_ret
      exact ⟨rfl, x1.trans x2⟩
  | false =>
    rw [hf] at FW
    clear h0 h1 hT hf ok hc1
    generalize l.length = n at *
    generalize t.length = m at *
    go_enter Tryd.func5, Tryd.ntmps5
    go_wp2_with fail
    refine AW.out.mono ?_; rintro e V ⟨rfl, x1⟩
    go_wp2_with fail
    refine (FW.out _ x1).mono ?_; rintro e V2 ⟨rfl, x2⟩
    go_wp2_with fail
    go_ret
    exact ⟨rfl, x1.trans x2⟩

set_option maxRecDepth 100000 in
theorem lifted (os : Os) (started : os.Started) (H : Type) (enc : TypeId × Value → H) :
    ReturnsInHanded {} Tryd.checked os 5 .any (fun w args => (Rows.textBackSpec.pre enc Tryd.prog Tryd.f5 [] false w args ∧ laidMetH Tryd.prog doorLaid w) ∧ sizedMet enc Tryd.prog Tryd.f5 (OpenSpec.ofChange Rows.textBackSpec) false w args)
      (Rows.textBackSpec.post enc Tryd.prog Tryd.f5 false true false false) := by
  refine law_liftD started (by kernel_rfl) Tryd.func5 rfl rfl Tryd.underlying4 (by kernel_rfl) ?_
    (ChangeSpec.witness_shaped (enc := enc) (C := Tryd.checked) (os := os) (X := fun w _ => laidMetH Tryd.prog doorLaid w) false (World.laidAll Tryd.prog os doorLaid) #[.slice none 0 0, .slice none 0 0] 8 (World.laidAll_os _ _ _)
      (World.shaped_of_ZipB (by kernel_rfl) (by kernel_rfl)) (by kernel_rfl) (by kernel_rfl) (by kernel_rfl) (laidStart os _)) ?_
  · intro H ds h
    match ds, h with
    | [_, _], _ => rfl
  · intro W base args ds p hval hA hlt hT
    rw [Tryd.params5] at hA hval
    obtain ⟨v0, vs0, d0, ds0, p0, q0, hargs, rfl, rfl, h0, r0⟩ := trodAll_cons hA
    obtain ⟨v1, vs1, d1, ds1, p1, q1, rfl, rfl, rfl, h1, r1⟩ := trodAll_cons r0
    obtain ⟨rfl, rfl, rfl⟩ := trodAll_nil r1
    obtain rfl : args = #[v0, v1] := by cases args; simp_all
    obtain ⟨A0, l0, c0, rfl, hc0, hm0, ok0, hs0⟩ := arg_words (hval 0 24 v0 rfl rfl) h0
    obtain ⟨A1, l1, c1, rfl, hc1, hm1, hs1⟩ := seen_bytes Tryd.underlying22 Tryd.underlying5 (by kernel_rfl) (hval 1 22 v1 rfl rfl) h1
    exact walk A0 l0 c0 hc0 hm0 ok0 A1 l1 c1 hc1 hm1 W hs0 hs1 hT

theorem bare : Rows.TextBackSaid :=
  OpenClaim.holds_of_wide 5 Tryd.f5 rfl rfl rfl rfl rfl rfl rfl ⟨rfl, rfl, rfl, rfl, rfl⟩ rfl rfl rfl rfl rfl (by kernel_rfl) Tryd.func5 (by kernel_rfl)
    (of_decide_eq_true (by kernel_rfl)) (by unfold Func.isWrapper; first | (rw [if_pos (by decide +kernel)]; kernel_rfl) | (rw [if_neg (by decide +kernel)]; exact ⟨rfl, rfl⟩))
    (fun os started H enc _ => lifted os started H enc)
theorem holds : Rows.TextBackCardSaid :=
  Claim7.holds_tied_plain_at .later [] [.data, .pinned] true Rows.textBackCard.stood.harness false bare (fun _ h => by cases h) (by kernel_rfl) (fun _ h => by cases h) textBack_row_tie rfl ⟨rfl, rfl⟩ (by kernel_rfl) rfl
    (fun f fn hf hfn => by
      obtain rfl : f = 5 := Option.some.inj ((show Tryd.prog.funcNamed "compositor/compositorlaw13.TextBack" = some 5 by kernel_rfl).symm.trans hf) |>.symm
      obtain rfl : fn = Tryd.f5 := (Option.some.inj (Tryd.func5.symm.trans hfn)).symm
      exact ⟨by kernel_rfl, standsIn (ts := [24, 22]) (by kernel_rfl) (by rw [Tryd.params5])⟩)
    (by kernel_rfl)
end TextBack
end Go.Proofs.YtbiklbomacjihaaDoor

