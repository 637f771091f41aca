/- TextReads: the words of any text are what the document says, or its error: for every input. -/
import Derived.Test.YtbiklbomacjihaaDoorAns13
namespace Go.Proofs.YtbiklbomacjihaaDoor
open Go.ChangeShapes Go.WideShapes Go.ChangeAt Go.RowKit Go.Deep
namespace TextReads
open L13

set_option maxRecDepth 100000 in
set_option maxHeartbeats 8000000 in
theorem core (A : Option Addr) (t : List UInt8) (n c : Nat) (hn : n = t.length) (hc : n ≤ c) (hc1 : c ≤ maxLen) (w : World) (hs : SeenB w A t) (hT : Tabs w) (ht : n ≤ 2000) :
    Calls Tryd.prog 3 #[.slice A n c] w (Ret w (.bool true)) := by
  have P1 := Lib.hid (fun w' (x : Ext w w') => read_all A t n c w' (hs.ext x) hn (by omega) ⟨hc, hc1⟩ (hT.ext x))
  have P2 := Lib.hid (fun w' (x : Ext w w') => rread_all A t n c w' (hs.ext x) hn (by omega) hc)
  have AW := Lib.hid (awake_any w hT)
  have RL := Lib.hid (readA_len t)
  have ht64 : (n : Int) ≤ 2000 := by omega
  clear hs hT hn
  unfold ReadG at P1 P2
  obtain ⟨r, hr⟩ : ∃ r, r = readA t := ⟨_, rfl⟩
  rw [← hr] at P1 P2 RL
  clear hr
  obtain ⟨r1, r2⟩ := r
  dsimp only at P1 P2 RL
  go_enter Tryd.func3, Tryd.ntmps3
  go_wp2_with fail
  refine AW.out.mono ?_; rintro e w1 ⟨rfl, x1⟩
  have X1 := Lib.hid x1
  clear x1 AW
  go_wp2_with fail
  refine (P1.out _ X1.out).mono ?_; rintro e w2 ⟨x2, A2, wl, c2, rfl, hd, g⟩
  have X2 := Lib.hid (X1.out.trans x2)
  have GD := Lib.hid g
  have HD := Lib.hid hd
  clear x2 g hd P1 X1
  go_wp2_with fail
  refine (P2.out _ X2.out).mono ?_; rintro e w3 ⟨x3, A3, wm, c3, rfl, he, h⟩
  have SM := rsame_any A2 A3 wl wm wl.length wm.length c2 c3 w3 (GD.out.ext x3).sn h.sn rfl rfl (by
    have := RL.out.1
    rw [← HD.out, List.length_map] at this
    omega) (word_in (by rw [HD.out]; exact RL.out.2))
  rw [HD.out, he, decide_eq_true rfl] at SM
  have SM := Lib.hid SM
  have X3 := Lib.hid (X2.out.trans x3)
  clear x3 h he P2 X2 GD HD RL
  generalize wl.length = n1 at *
  generalize wm.length = n2 at *
  go_wp2_with fail
  refine SM.out.mono ?_; rintro e w4 ⟨rfl, x4⟩
  go_wp2_with fail
  go_ret
  exact ⟨rfl, X3.out.trans x4⟩
set_option maxRecDepth 100000 in
set_option maxHeartbeats 4000000 in
theorem walk (A0 : Option Addr) (l : List UInt8) (c0 : Nat) (hc : l.length ≤ c0) (hm : c0 ≤ maxLen) (w : World) (h0 : SeenB w A0 l) (hT : Tabs w) :
    Calls Tryd.prog 3 #[.slice A0 l.length c0] w (Ret w (.bool true)) := by
  have AW := Lib.hid (awake_any w hT)
  by_cases hl : l.length ≤ 2000
  · exact core A0 l l.length c0 rfl hc hm w h0 hT hl
  · have hl : ¬ (l.length : Int) ≤ 2000 := by omega
    clear h0 hT hc
    generalize l.length = n at *
    go_enter Tryd.func3, Tryd.ntmps3
    go_wp2_with fail
    refine AW.out.mono ?_; rintro e V ⟨rfl, x1⟩
    go_wp2_with fail
    go_ret
    exact ⟨rfl, x1⟩

set_option maxRecDepth 100000 in
theorem lifted (os : Os) (started : os.Started) (H : Type) (enc : TypeId × Value → H) :
    ReturnsInHanded {} Tryd.checked os 3 .any (fun w args => (Rows.textReadsSpec.pre enc Tryd.prog Tryd.f3 [] false w args ∧ laidMetH Tryd.prog doorLaid w) ∧ sizedMet enc Tryd.prog Tryd.f3 (OpenSpec.ofChange Rows.textReadsSpec) false w args)
      (Rows.textReadsSpec.post enc Tryd.prog Tryd.f3 false true false false) := by
  refine law_liftD started (by kernel_rfl) Tryd.func3 rfl rfl Tryd.underlying4 (by kernel_rfl) ?_
    (ChangeSpec.witness_shaped (enc := enc) (C := Tryd.checked) (os := os) (X := fun w _ => laidMetH Tryd.prog doorLaid w) false (World.laidAll Tryd.prog os doorLaid) #[.slice none 0 0] 8 (World.laidAll_os _ _ _)
      (World.shaped_of_ZipB (by kernel_rfl) (by kernel_rfl)) (by kernel_rfl) (by kernel_rfl) (by kernel_rfl) (laidStart os _)) ?_
  · intro H ds h
    match ds, h with
    | [_], _ => rfl
  · intro W base args ds p hval hA hlt hT
    rw [Tryd.params3] at hA hval
    obtain ⟨v0, vs0, d0, ds0, p0, q0, hargs, rfl, rfl, h0, r0⟩ := trodAll_cons hA
    obtain ⟨rfl, rfl, rfl⟩ := trodAll_nil r0
    obtain rfl : args = #[v0] := by cases args; simp_all
    obtain ⟨A0, l0, c0, rfl, hc0, hm0, hs0⟩ := seen_bytes Tryd.underlying22 Tryd.underlying5 (by kernel_rfl) (hval 0 22 v0 rfl rfl) h0
    exact walk A0 l0 c0 hc0 hm0 W hs0 hT

theorem bare : Rows.TextReadsSaid :=
  OpenClaim.holds_of_wide 3 Tryd.f3 rfl rfl rfl rfl rfl rfl rfl ⟨rfl, rfl, rfl, rfl, rfl⟩ rfl rfl rfl rfl rfl (by kernel_rfl) Tryd.func3 (by kernel_rfl)
    (of_decide_eq_true (by kernel_rfl)) (by unfold Func.isWrapper; first | (rw [if_pos (by decide +kernel)]; kernel_rfl) | (rw [if_neg (by decide +kernel)]; exact ⟨rfl, rfl⟩))
    (fun os started H enc _ => lifted os started H enc)
theorem holds : Rows.TextReadsCardSaid :=
  Claim7.holds_tied_plain_at .later [] [.data, .pinned] true Rows.textReadsCard.stood.harness false bare (fun _ h => by cases h) (by kernel_rfl) (fun _ h => by cases h) textReads_row_tie rfl ⟨rfl, rfl⟩ (by kernel_rfl) rfl
    (fun f fn hf hfn => by
      obtain rfl : f = 3 := Option.some.inj ((show Tryd.prog.funcNamed "compositor/compositorlaw13.TextReads" = some 3 by kernel_rfl).symm.trans hf) |>.symm
      obtain rfl : fn = Tryd.f3 := (Option.some.inj (Tryd.func3.symm.trans hfn)).symm
      exact ⟨by kernel_rfl, standsIn (ts := [22]) (by kernel_rfl) (by rw [Tryd.params3])⟩)
    (by kernel_rfl)
end TextReads
end Go.Proofs.YtbiklbomacjihaaDoor

