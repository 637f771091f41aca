/- TextWrites: whether any words may be, and a text of them, are what the document says, or its error: for every input. -/
import Derived.Test.YtbiklbomacjihaaDoorAns13
namespace Go.Proofs.YtbiklbomacjihaaDoor
open Go.ChangeShapes Go.WideShapes Go.ChangeAt Go.RowKit Go.Deep
namespace TextWrites
open L13

set_option maxRecDepth 100000 in
set_option maxHeartbeats 8000000 in
theorem core (A : Option Addr) (l : List CW) (n c : Nat) (hn : n = l.length) (w : World) (hs : SeenC w A l) (ok : ∀ x ∈ l, x.Ok) (hT : Tabs w) (hf : fewB (l.map tw) = true) :
    Calls Tryd.prog 4 #[.slice A n c] w (Ret w (.bool true)) := by
  have FW := Lib.hid (fun w' (x : Ext w w') => rfew_any A l n c w' (hs.ext x) hn)
  rw [hf] at FW
  have P1 := Lib.hid (fun w' (x : Ext w w') => write_all A l n c w' (hs.ext x) hn ok)
  have P2 := Lib.hid (fun w' (x : Ext w w') => rwrite_all A l n c w' (hs.ext x) hn ok)
  have C1 := Lib.hid (fun w' (x : Ext w w') => check_any A l n c w' (hs.ext x) hn ok)
  have C2 := Lib.hid (fun w' (x : Ext w w') => rcheck_any A l n c w' (hs.ext x) hn ok)
  have AW := Lib.hid (awake_any w hT)
  clear hs hT hn hf ok
  unfold WriteG at P1
  unfold RWriteG at P2
  generalize textA (l.map tw) = r at *
  generalize checkB (l.map tw) = bb at *
  obtain ⟨r1, r2⟩ := r
  dsimp only at P1 P2
  go_enter Tryd.func4, Tryd.ntmps4
  go_wp2_with fail
  refine AW.out.mono ?_; rintro e w1 ⟨rfl, x1⟩
  have X1 := Lib.hid x1
  clear x1 AW
  go_wp2_with fail
  refine (FW.out _ X1.out).mono ?_; rintro e w2 ⟨rfl, x2⟩
  have X2 := Lib.hid (X1.out.trans x2)
  clear x2 X1 FW
  go_wp2_with fail
  refine (P1.out _ X2.out).mono ?_; rintro e w3 ⟨x3, A3, c3, rfl, _, _, s3⟩
  have X3 := Lib.hid (X2.out.trans x3)
  clear x3 X2 P1
  go_wp2_with fail
  refine (P2.out _ X3.out).mono ?_; rintro e w4 ⟨x4, A4, c4, rfl, s4⟩
  have s3 := s3.ext x4
  have X4 := Lib.hid (X3.out.trans x4)
  clear x4 X3 P2
  go_wp2_with fail
  refine (C1.out _ X4.out).mono ?_; rintro e w5 ⟨rfl, x5⟩
  have s3 := s3.ext x5
  have s4 := s4.ext x5
  have X5 := Lib.hid (X4.out.trans x5)
  clear x5 X4 C1
  go_wp2_with fail
  refine (C2.out _ X5.out).mono ?_; rintro e w6 ⟨rfl, x6⟩
  have X6 := Lib.hid (X5.out.trans x6)
  have cv1 := SeenB.str (P := Tryd.prog) (SeenB.ext s3 x6) 22 9 5 c3 r1.length Tryd.underlying22 Tryd.underlying5 Tryd.underlying9 rfl
  have cv2 := SeenB.str (P := Tryd.prog) (SeenB.ext s4 x6) 22 9 5 c4 r1.length Tryd.underlying22 Tryd.underlying5 Tryd.underlying9 rfl
  generalize (⟨r1.toArray⟩ : ByteArray) = S at *
  generalize r1.length = na at *
  clear x6 X5 C2 s3 s4
  go_wp2_with fail
  go_ret
  exact ⟨rfl, X6.out⟩
set_option maxRecDepth 100000 in
set_option maxHeartbeats 4000000 in
theorem walk (A0 : Option Addr) (l : List CW) (c0 : Nat) (_ : l.length ≤ c0) (_ : c0 ≤ maxLen) (ok : ∀ x ∈ l, x.Ok) (w : World) (h0 : SeenC w A0 l) (hT : Tabs w) :
    Calls Tryd.prog 4 #[.slice A0 l.length c0] w (Ret w (.bool true)) := by
  cases hf : fewB (l.map tw) with
  | true => exact core A0 l l.length c0 rfl w h0 ok hT hf
  | false =>
    have AW := Lib.hid (awake_any w hT)
    have FW := Lib.hid (fun w' (x : Ext w w') => rfew_any A0 l l.length c0 w' (h0.ext x) rfl)
    rw [hf] at FW
    clear h0 hT hf ok
    generalize l.length = n at *
    go_enter Tryd.func4, Tryd.ntmps4
    go_wp2_with fail
    refine AW.out.mono ?_; rintro e V ⟨rfl, x1⟩
    go_wp2_with fail
    refine (FW.out _ x1).mono ?_; rintro e V2 ⟨rfl, x2⟩
    go_wp2_with fail
    go_ret
    exact ⟨rfl, x1.trans x2⟩

set_option maxRecDepth 100000 in
theorem lifted (os : Os) (started : os.Started) (H : Type) (enc : TypeId × Value → H) :
    ReturnsInHanded {} Tryd.checked os 4 .any (fun w args => (Rows.textWritesSpec.pre enc Tryd.prog Tryd.f4 [] false w args ∧ laidMetH Tryd.prog doorLaid w) ∧ sizedMet enc Tryd.prog Tryd.f4 (OpenSpec.ofChange Rows.textWritesSpec) false w args)
      (Rows.textWritesSpec.post enc Tryd.prog Tryd.f4 false true false false) := by
  refine law_liftD started (by kernel_rfl) Tryd.func4 rfl rfl Tryd.underlying4 (by kernel_rfl) ?_
    (ChangeSpec.witness_shaped (enc := enc) (C := Tryd.checked) (os := os) (X := fun w _ => laidMetH Tryd.prog doorLaid w) false (World.laidAll Tryd.prog os doorLaid) #[.slice none 0 0] 8 (World.laidAll_os _ _ _)
      (World.shaped_of_ZipB (by kernel_rfl) (by kernel_rfl)) (by kernel_rfl) (by kernel_rfl) (by kernel_rfl) (laidStart os _)) ?_
  · intro H ds h
    match ds, h with
    | [_], _ => rfl
  · intro W base args ds p hval hA hlt hT
    rw [Tryd.params4] at hA hval
    obtain ⟨v0, vs0, d0, ds0, p0, q0, hargs, rfl, rfl, h0, r0⟩ := trodAll_cons hA
    obtain ⟨rfl, rfl, rfl⟩ := trodAll_nil r0
    obtain rfl : args = #[v0] := by cases args; simp_all
    obtain ⟨A0, l0, c0, rfl, hc0, hm0, ok0, hs0⟩ := arg_words (hval 0 24 v0 rfl rfl) h0
    exact walk A0 l0 c0 hc0 hm0 ok0 W hs0 hT

theorem bare : Rows.TextWritesSaid :=
  OpenClaim.holds_of_wide 4 Tryd.f4 rfl rfl rfl rfl rfl rfl rfl ⟨rfl, rfl, rfl, rfl, rfl⟩ rfl rfl rfl rfl rfl (by kernel_rfl) Tryd.func4 (by kernel_rfl)
    (of_decide_eq_true (by kernel_rfl)) (by unfold Func.isWrapper; first | (rw [if_pos (by decide +kernel)]; kernel_rfl) | (rw [if_neg (by decide +kernel)]; exact ⟨rfl, rfl⟩))
    (fun os started H enc _ => lifted os started H enc)
theorem holds : Rows.TextWritesCardSaid :=
  Claim7.holds_tied_plain_at .later [] [.data, .pinned] true Rows.textWritesCard.stood.harness false bare (fun _ h => by cases h) (by kernel_rfl) (fun _ h => by cases h) textWrites_row_tie rfl ⟨rfl, rfl⟩ (by kernel_rfl) rfl
    (fun f fn hf hfn => by
      obtain rfl : f = 4 := Option.some.inj ((show Tryd.prog.funcNamed "compositor/compositorlaw13.TextWrites" = some 4 by kernel_rfl).symm.trans hf) |>.symm
      obtain rfl : fn = Tryd.f4 := (Option.some.inj (Tryd.func4.symm.trans hfn)).symm
      exact ⟨by kernel_rfl, standsIn (ts := [24]) (by kernel_rfl) (by rw [Tryd.params4])⟩)
    (by kernel_rfl)
end TextWrites
end Go.Proofs.YtbiklbomacjihaaDoor

