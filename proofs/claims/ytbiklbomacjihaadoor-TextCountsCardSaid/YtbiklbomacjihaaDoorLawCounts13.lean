/- TextCounts: a text of words has as many bytes as there are codes, and one less than words, and two for each soft hyphen: for every input. -/
import Derived.Test.YtbiklbomacjihaaDoorAns13
import Derived.Test.YtbiklbomacjihaaDoorMath13
namespace Go.Proofs.YtbiklbomacjihaaDoor
open Go.ChangeShapes Go.WideShapes Go.ChangeAt Go.RowKit Go.Deep
namespace TextCounts
open L13

set_option maxRecDepth 100000 in
set_option maxHeartbeats 8000000 in
theorem core (A : Option Addr) (l : List CW) (n c : Nat) (hn : n = l.length) (w : World) (hs : SeenC w A l) (ok : ∀ x ∈ l, x.Ok) (hT : Tabs w) (hf : fewB (l.map tw) = true) :
    Calls Tryd.prog 9 #[.slice A n c] w (Ret w (.bool true)) := by
  have FW := Lib.hid (fun w' (x : Ext w w') => rfew_any A l n c w' (hs.ext x) hn)
  rw [hf] at FW
  have P1 := Lib.hid (fun w' (x : Ext w w') => write_all A l n c w' (hs.ext x) hn ok)
  have C1 := Lib.hid (fun w' (x : Ext w w') => check_any A l n c w' (hs.ext x) hn ok)
  have AW := Lib.hid (awake_any w hT)
  have HS := Lib.hid (fun w' (x : Ext w w') => hs.ext x)
  have HN := Lib.hid hn
  obtain ⟨fp1, fp2⟩ := few_parts hf
  have FP := Lib.hid fp2
  have hn110 : n ≤ 110 := by omega
  have hn64 : (n : Int) ≤ 110 := by omega
  clear hs hT hn hf ok fp1 fp2
  unfold WriteG at P1
  unfold textA at P1
  go_enter Tryd.func9, Tryd.ntmps9
  go_wp2_with fail
  refine AW.out.mono ?_; rintro e w1 ⟨rfl, x1⟩
  have X1 := Lib.hid x1
  clear x1 AW
  go_wp2_with fail
  refine (FW.out _ X1.out).mono ?_; rintro e w2 ⟨rfl, x2⟩
  have X2 := Lib.hid (X1.out.trans x2)
  clear x2 X1 FW
  go_wp2_with fail
  cases hb : checkB (l.map tw) with
  | false =>
    rw [hb, if_neg (by decide)] at P1
    rw [hb] at C1
    refine (P1.out _ X2.out).mono ?_; rintro e w3 ⟨x3, A3, c3, rfl, _, _, _⟩
    have X3 := Lib.hid (X2.out.trans x3)
    clear x3 X2 P1 hb
    go_wp2_with fail
    refine (C1.out _ X3.out).mono ?_; rintro e w4 ⟨rfl, x4⟩
    go_wp2_with fail
    go_ret
    exact ⟨rfl, X3.out.trans x4⟩
  | true =>
    rw [hb, if_pos rfl] at P1
    rw [hb] at C1
    refine (P1.out _ X2.out).mono ?_; rintro e w3 ⟨x3, A3, c3, rfl, _, _, _⟩
    have X3 := Lib.hid (X2.out.trans x3)
    have CP := check_parts hb
    have TC := textL_count _ CP.2.2.1 CP.1
    have TC := Lib.hid (show (textL (l.map tw)).length + 1 = n + cntW (l.map tw) by rw [TC, List.length_map, HN.out])
    have hn1 : 1 ≤ n := by rw [HN.out]; have := CP.1; rwa [List.length_map] at this
    clear x3 X2 P1 hb CP
    obtain ⟨m, hm⟩ : ∃ m, n = m + 1 := ⟨n - 1, by omega⟩
    have wm : IntKind.i64.wrap ((n : Int) - 1) = (m : Int) := by rw [IntWalk.i64_in _ (by omega)]; omega
    have wm' : wrap64 ((n : Int) - 1) = (m : Int) := by rw [IntWalk.wrap64_in _ (by omega)]; omega
    have HM := Lib.hid hm
    clear hm
    dsimp only
    generalize (textL (l.map tw)).length = zt at *
    go_wp2_with fail
    go_loopw [6, 7] (fun s i wr => ∃ (k t : Nat), s = .int .i64 t ∧ i = .int .i64 k ∧ k ≤ n ∧ t ≤ m + k * 300 ∧ Hid (Ext w wr) ∧ Hid (t = m + cntW ((l.take k).map tw))) (fun _ i _ => n - (intOf i).toNat)
    case atStart => exact ⟨0, m, rfl, rfl, Nat.zero_le _, by omega, X3, Lib.hid rfl⟩
    case round =>
      obtain ⟨k, t, rfl, rfl, hk, ht, X, hh⟩ := hrel
      have hm64 : (m : Int) ≤ 110 := by have := HM.out; omega
      by_cases hlt : k < n
      · have hkl : k < l.length := by rw [← HN.out]; exact hlt
        have hk64 : (k : Int) < n := by omega
        obtain ⟨⟨ad, rfl, u0, u1⟩, _, _⟩ := (HS.out _ X.out).get hkl
        have hfp := FP.out _ (List.getElem_mem hkl)
        have H2 := Lib.hid (show t + (l[k].cs.length + 2 * l[k].ss.length) = m + cntW ((l.take (k + 1)).map tw) by rw [take_map hkl, cntW_snoc, hh.out, Nat.add_assoc]; rfl)
        generalize l[k].cs.length = y0 at *
        generalize l[k].A = y1 at *
        generalize l[k].c = y2 at *
        generalize l[k].ss.length = y3 at *
        generalize l[k].B = y4 at *
        generalize l[k].d = y5 at *
        have hy0 : (y0 : Int) ≤ 100 := by omega
        have hy3 : (y3 : Int) ≤ 100 := by omega
        have ht64 : (t : Int) ≤ 50000 := by omega
        clear hh hfp
        go_wp2_with fail
        go_quiet (fail)
        go_wp2_with fail
        go_roundw
        case rel => exact ⟨k + 1, t + (y0 + 2 * y3), by go_num, by go_num, by omega, by omega, Lib.hid (X.out.drewN _), H2⟩
        case measure => simp [intOf]; omega
      · obtain rfl : n = k := by omega
        have hzt : zt = t := by
          have h1 := TC.out
          have h2 := hh.out
          have h3 := HM.out
          rw [HN.out, List.take_length] at h2
          omega
        subst hzt
        clear hh
        go_wp2_with fail
        refine (C1.out _ X.out).mono ?_; rintro e w4 ⟨rfl, x4⟩
        go_wp2_with fail
        go_ret
        exact ⟨rfl, X.out.trans x4⟩
set_option maxRecDepth 100000 in
set_option maxHeartbeats 4000000 in
theorem walk (A0 : Option Addr) (l : List CW) (c0 : Nat) (_ : l.length ≤ c0) (_ : c0 ≤ maxLen) (ok : ∀ x ∈ l, x.Ok) (w : World) (h0 : SeenC w A0 l) (hT : Tabs w) :
    Calls Tryd.prog 9 #[.slice A0 l.length c0] w (Ret w (.bool true)) := by
  cases hf : fewB (l.map tw) with
  | true => exact core A0 l l.length c0 rfl w h0 ok hT hf
  | false =>
    have AW := Lib.hid (awake_any w hT)
    have FW := Lib.hid (fun w' (x : Ext w w') => rfew_any A0 l l.length c0 w' (h0.ext x) rfl)
    rw [hf] at FW
    clear h0 hT hf ok
    generalize l.length = n at *
    go_enter Tryd.func9, Tryd.ntmps9
    go_wp2_with fail
    refine AW.out.mono ?_; rintro e V ⟨rfl, x1⟩
    go_wp2_with fail
    refine (FW.out _ x1).mono ?_; rintro e V2 ⟨rfl, x2⟩
    go_wp2_with fail
    go_ret
    exact ⟨rfl, x1.trans x2⟩

set_option maxRecDepth 100000 in
theorem lifted (os : Os) (started : os.Started) (H : Type) (enc : TypeId × Value → H) :
    ReturnsInHanded {} Tryd.checked os 9 .any (fun w args => (Rows.textCountsSpec.pre enc Tryd.prog Tryd.f9 [] false w args ∧ laidMetH Tryd.prog doorLaid w) ∧ sizedMet enc Tryd.prog Tryd.f9 (OpenSpec.ofChange Rows.textCountsSpec) false w args)
      (Rows.textCountsSpec.post enc Tryd.prog Tryd.f9 false true false false) := by
  refine law_liftD started (by kernel_rfl) Tryd.func9 rfl rfl Tryd.underlying4 (by kernel_rfl) ?_
    (ChangeSpec.witness_shaped (enc := enc) (C := Tryd.checked) (os := os) (X := fun w _ => laidMetH Tryd.prog doorLaid w) false (World.laidAll Tryd.prog os doorLaid) #[.slice none 0 0] 8 (World.laidAll_os _ _ _)
      (World.shaped_of_ZipB (by kernel_rfl) (by kernel_rfl)) (by kernel_rfl) (by kernel_rfl) (by kernel_rfl) (laidStart os _)) ?_
  · intro H ds h
    match ds, h with
    | [_], _ => rfl
  · intro W base args ds p hval hA hlt hT
    rw [Tryd.params9] at hA hval
    obtain ⟨v0, vs0, d0, ds0, p0, q0, hargs, rfl, rfl, h0, r0⟩ := trodAll_cons hA
    obtain ⟨rfl, rfl, rfl⟩ := trodAll_nil r0
    obtain rfl : args = #[v0] := by cases args; simp_all
    obtain ⟨A0, l0, c0, rfl, hc0, hm0, ok0, hs0⟩ := arg_words (hval 0 24 v0 rfl rfl) h0
    exact walk A0 l0 c0 hc0 hm0 ok0 W hs0 hT

theorem bare : Rows.TextCountsSaid :=
  OpenClaim.holds_of_wide 9 Tryd.f9 rfl rfl rfl rfl rfl rfl rfl ⟨rfl, rfl, rfl, rfl, rfl⟩ rfl rfl rfl rfl rfl (by kernel_rfl) Tryd.func9 (by kernel_rfl)
    (of_decide_eq_true (by kernel_rfl)) (by unfold Func.isWrapper; first | (rw [if_pos (by decide +kernel)]; kernel_rfl) | (rw [if_neg (by decide +kernel)]; exact ⟨rfl, rfl⟩))
    (fun os started H enc _ => lifted os started H enc)
theorem holds : Rows.TextCountsCardSaid :=
  Claim7.holds_tied_plain_at .later [] [.data, .pinned] true Rows.textCountsCard.stood.harness false bare (fun _ h => by cases h) (by kernel_rfl) (fun _ h => by cases h) textCounts_row_tie rfl ⟨rfl, rfl⟩ (by kernel_rfl) rfl
    (fun f fn hf hfn => by
      obtain rfl : f = 9 := Option.some.inj ((show Tryd.prog.funcNamed "compositor/compositorlaw13.TextCounts" = some 9 by kernel_rfl).symm.trans hf) |>.symm
      obtain rfl : fn = Tryd.f9 := (Option.some.inj (Tryd.func9.symm.trans hfn)).symm
      exact ⟨by kernel_rfl, standsIn (ts := [24]) (by kernel_rfl) (by rw [Tryd.params9])⟩)
    (by kernel_rfl)
end TextCounts
end Go.Proofs.YtbiklbomacjihaaDoor

