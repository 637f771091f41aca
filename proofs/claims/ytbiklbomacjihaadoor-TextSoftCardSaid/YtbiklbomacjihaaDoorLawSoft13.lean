/- TextSoft: a text without its soft hyphens has the same codes, and none: for every input. -/
import Derived.Test.YtbiklbomacjihaaDoorAns13
import Derived.Test.YtbiklbomacjihaaDoorMath13
import Derived.Lib.QuietBelow
namespace Go.Proofs.YtbiklbomacjihaaDoor
open Go.ChangeShapes Go.WideShapes Go.ChangeAt Go.RowKit Go.Deep
namespace TextSoft
open L13

theorem plain_get {wl l : List CW} (h : wl.map tw = plainW (l.map tw)) {k : Nat} (hk : k < wl.length) (hl : k < l.length) : wl[k].cs = l[k].cs ∧ wl[k].ss = [] := by
  have h1 : (wl.map tw)[k]? = (plainW (l.map tw))[k]? := by rw [h]
  simp only [plainW, List.getElem?_map, List.getElem?_eq_getElem hk, List.getElem?_eq_getElem hl, Option.map_some, Option.some.injEq] at h1
  unfold tw at h1
  simp only [Prod.mk.injEq] at h1
  exact h1
set_option maxRecDepth 100000 in
set_option maxHeartbeats 16000000 in
theorem core (A : Option Addr) (l : List CW) (n c : Nat) (hn : n = l.length) (w : World) (hs : SeenC w A l) (ok : ∀ x ∈ l, x.Ok) (hT : Tabs w) (hf : fewB (l.map tw) = true) :
    Calls Tryd.prog 7 #[.slice A n c] w (Ret w (.bool true)) := by
  have FW := Lib.hid (fun w' (x : Ext w w') => rfew_any A l n c w' (hs.ext x) hn)
  rw [hf] at FW
  have P1 := Lib.hid (fun w' (x : Ext w w') => write_all A l n c w' (hs.ext x) hn ok)
  have AW := Lib.hid (awake_any w hT)
  have HS := Lib.hid (fun w' (x : Ext w w') => hs.ext x)
  have HT := Lib.hid hT
  have HN := Lib.hid hn
  have FP := Lib.hid (few_parts hf).2
  have hn110 : n ≤ 110 := by have := (few_parts hf).1; omega
  have hn64 : (n : Int) ≤ 110 := by omega
  clear hs hT hn hf ok
  unfold WriteG at P1
  unfold textA at P1
  go_enter Tryd.func7, Tryd.ntmps7
  go_wp2_with fail
  refine AW.out.mono ?_; rintro e w1 ⟨rfl, x1⟩
  have X1 := Lib.hid x1
  clear x1 AW
  go_wp2_with fail
  refine (FW.out _ X1.out).mono ?_; rintro e w2 ⟨rfl, x2⟩
  have X2 := Lib.hid (X1.out.trans x2)
  clear x2 X1 FW
  go_wp2_with fail
  cases hb : checkB (l.map tw) with
  | false =>
    rw [hb, if_neg (by decide)] at P1
    refine (P1.out _ X2.out).mono ?_; rintro e w3 ⟨x3, A3, c3, rfl, _, _, _⟩
    have X3 := Lib.hid (X2.out.trans x3)
    clear x3 X2 P1 hb
    go_wp2_with fail
    go_ret
    exact ⟨rfl, X3.out⟩
  | true =>
    rw [hb, if_pos rfl] at P1
    refine (P1.out _ X2.out).mono ?_; rintro e w3 ⟨x3, A3, c3, rfl, _, _, s3⟩
    have X3 := Lib.hid (X2.out.trans x3)
    have CP := check_parts hb
    have RP := Lib.hid (readA_text (plain_check hb))
    have KP := Lib.hid (textL_keep _ CP.2.2.1)
    have TM : (textL (l.map tw)).length ≤ 20000 := by
      have h1 := textL_most CP.2.2.1
      have h2 := CP.2.1
      omega
    have S3 := Lib.hid s3
    clear x3 X2 P1 hb s3 CP
    dsimp only at S3 ⊢
    obtain ⟨L, hL⟩ : ∃ L, textL (l.map tw) = L := ⟨_, rfl⟩
    rw [hL] at S3 KP TM ⊢
    clear hL
    obtain ⟨z, hz⟩ : ∃ z, z = L.length := ⟨_, rfl⟩
    have HZ := Lib.hid hz
    rw [← hz] at TM ⊢
    clear hz
    have hz64 : (z : Int) ≤ 20000 := by omega
    go_wp2_with fail
    go_loopw [6, 7] (fun v i wr => ∃ (vv : Value) (k : Nat), vv = v ∧ i = .int .i64 k ∧ k ≤ z ∧ Hid (OwnB 5 w3 wr vv ((L.take k).filter keepB))) (fun _ i _ => z - (intOf i).toNat)
    case atStart => exact ⟨_, 0, rfl, rfl, Nat.zero_le _, Lib.hid (OwnB.nil _ _ _ (Ext.refl _))⟩
    case round =>
      obtain ⟨vv, k, hvv, rfl, hk, ho⟩ := hrel
      subst hvv
      by_cases hlt : k < z
      · have hkl : k < L.length := by rw [← HZ.out]; exact hlt
        have hk64 : (k : Int) < z := by omega
        obtain ⟨ad, rfl, _, b0⟩ := (S3.out.ext ho.out.2).get hkl
        have hfl : ((L.take k).filter keepB).length ≤ k := by
          have h1 := List.length_filter_le keepB (L.take k)
          rw [List.length_take] at h1
          omega
        have HT2 := Lib.hid (show (L.take (k + 1)).filter keepB = (L.take k).filter keepB ++ (if keepB L[k] = true then [L[k]] else []) by
          rw [List.take_succ_eq_append_getElem hkl, List.filter_append, List.filter_cons, List.filter_nil])
        have lit : ∀ b : UInt8, SeenB (wr.alloc (.cells #[.int .u8 (b.toNat : Int)] 5)) (some ⟨wr.heap.size, 0, none⟩) [b] := fun b => (Blk.lit wr wr.heap.size 5 #[.int .u8 (b.toNat : Int)] rfl).seen rfl
        obtain ⟨v3, w6, g3, o3⟩ := run_bytes13 (ho.out.over ((Ext.refl wr).alloc (.cells #[.int .u8 (L[k].toNat : Int)] 5))) (some ⟨wr.heap.size, 0, none⟩) 1 1 [L[k]] (lit _) rfl (by simp only [List.length_cons, List.length_nil]; omega) 22
        by_cases e1 : L[k] = 194
        · have H2 := Lib.hid (show (L.take (k + 1)).filter keepB = (L.take k).filter keepB by rw [HT2.out, if_neg (by rw [e1]; decide), List.append_nil])
          rw [e1] at b0
          clear g3 o3 HT2 lit e1 hfl
          go_wp2_with fail
          go_roundw
          case rel => exact ⟨_, k + 1, rfl, by go_num, by omega, Lib.hid (by rw [H2.out]; exact ho.out)⟩
          case measure => simp [intOf]; omega
        · have n1 : ((L[k].toNat : Int) == 194) = false := by
            rw [beq_eq_false_iff_ne]
            intro e
            exact e1 (by rw [← UInt8.toNat_inj, show (194 : UInt8).toNat = 194 from rfl]; omega)
          have n1' : ((L[k].toNat : Int) != 194) = true := by rw [bne, n1]; rfl
          by_cases e2 : L[k] = 173
          · have H2 := Lib.hid (show (L.take (k + 1)).filter keepB = (L.take k).filter keepB by rw [HT2.out, if_neg (by rw [e2]; decide), List.append_nil])
            rw [e2] at b0
            clear g3 o3 HT2 lit e1 e2 hfl n1 n1'
            go_wp2_with fail
            go_roundw
            case rel => exact ⟨_, k + 1, rfl, by go_num, by omega, Lib.hid (by rw [H2.out]; exact ho.out)⟩
            case measure => simp [intOf]; omega
          · have n2 : ((L[k].toNat : Int) == 173) = false := by
              rw [beq_eq_false_iff_ne]
              intro e
              exact e2 (by rw [← UInt8.toNat_inj, show (173 : UInt8).toNat = 173 from rfl]; omega)
            have n2' : ((L[k].toNat : Int) != 173) = true := by rw [bne, n2]; rfl
            have H2 := Lib.hid (show OwnB 5 w3 w6 v3 ((L.take (k + 1)).filter keepB) by rw [HT2.out, if_pos (show keepB L[k] = true from decide_eq_true ⟨e1, e2⟩)]; exact o3)
            generalize (L[k].toNat : Int) = y at *
            clear o3 HT2 lit e1 e2 hfl
            go_wp2_with (at_builtin; refine wpList_ran rfl _ _ rfl g3 ?_)
            go_roundw
            case rel => exact ⟨_, k + 1, rfl, by go_num, by omega, H2⟩
            case measure => simp [intOf]; omega
      · obtain rfl : z = k := by omega
        have ho := ho.out
        have TL : (textL (plainW (l.map tw))).length ≤ 20000 := by
          rw [← KP.out]
          have h1 := List.length_filter_le keepB L
          have h2 := HZ.out
          omega
        rw [HZ.out, List.take_length, KP.out] at ho
        obtain ⟨A4, c4, rfl, h1, h2, s4⟩ := OwnB.look ho
        have X4 := Lib.hid (X3.out.trans ho.2)
        have P2 := Lib.hid (read_all A4 _ _ c4 wr s4 rfl (by omega) ⟨h1, h2⟩ (HT.out.ext X4.out))
        unfold ReadG at P2
        rw [RP.out] at P2
        clear ho h1 h2 s4 KP X3 RP
        generalize (textL (plainW (l.map tw))).length = zz at *
        go_wp2_with fail
        refine P2.out.mono ?_; rintro e w5 ⟨x5, A5, wl, c5, rfl, hwl, g5⟩
        have X5 := Lib.hid (X4.out.trans x5)
        have HW := Lib.hid hwl
        have G5 := Lib.hid g5
        have hlen : wl.length = n := by
          have := congrArg List.length hwl
          rw [List.length_map, plainW, List.length_map, List.length_map] at this
          rw [HN.out]
          exact this
        clear x5 hwl g5 P2 X4
        have HLEN := Lib.hid hlen
        rw [hlen]
        clear hlen
        dsimp only
        go_wp2_with fail
        go_loopw [10] (fun i wr => ∃ k : Nat, i = .int .i64 k ∧ k ≤ n ∧ Hid (Ext w5 wr)) (fun i _ => n - (intOf i).toNat)
        case atStart => exact ⟨0, rfl, Nat.zero_le _, Lib.hid (Ext.refl _)⟩
        case round =>
          obtain ⟨k, rfl, hk, X⟩ := hrel
          by_cases hlt : k < n
          · have hkl : k < l.length := by rw [← HN.out]; exact hlt
            have hkw : k < wl.length := by rw [HLEN.out]; exact hlt
            have hk64 : (k : Int) < n := by omega
            obtain ⟨⟨ad, e1, u0, u1⟩, i1, i2⟩ := (G5.out.sn.ext X.out).get hkw
            obtain ⟨⟨be, e2, v0, v1⟩, j1, j2⟩ := (HS.out _ (X5.out.trans X.out)).get hkl
            subst e1 e2
            obtain ⟨p1, p2⟩ := plain_get HW.out hkw hkl
            have hcl := (FP.out _ (List.getElem_mem hkl)).1
            have SM := Lib.hid (fun dd os => same_lists wl[k].A l[k].A wl[k].cs l[k].cs wl[k].c l[k].c (Sort.grow (redrawn wr dd) os) (i1.ext (below_regrown _ _ _)) (j1.ext (below_regrown _ _ _)) (by rw [p1]; omega))
            rw [p1, decide_eq_true rfl] at SM
            rw [p1] at u0
            rw [p2, List.length_nil] at u1
            have u0 := cell_regrown u0
            have u1 := cell_regrown u1
            have v0 := cell_regrown v0
            generalize l[k].cs.length = y0 at *
            clear i1 i2 j1 j2 p1 p2 hcl v1
            go_wp2_with fail
            refine wp_region_quiet_below (by kernel_rfl) (by kernel_rfl) ?_
            repeat (go_big_quiet_step (first | (with_reducible exact rg13 (SM.out _ _)) | fail))
            refine wpQuiet_nil ?_
            intro _ hw'
            obtain ⟨⟨dq, osq⟩, hw''⟩ := hw'
            subst hw''
            have X6 := Lib.hid (X.out.trans (below_regrown wr dq osq))
            clear u0 u1 v0 SM X
            go_wp2_with fail
            go_roundw
            case rel => exact ⟨k + 1, by go_num, by omega, X6⟩
            case measure => simp [intOf]; omega
          · go_wp2_with fail
            go_ret
            exact ⟨rfl, X5.out.trans X.out⟩
set_option maxRecDepth 100000 in
set_option maxHeartbeats 4000000 in
theorem walk (A0 : Option Addr) (l : List CW) (c0 : Nat) (_ : l.length ≤ c0) (_ : c0 ≤ maxLen) (ok : ∀ x ∈ l, x.Ok) (w : World) (h0 : SeenC w A0 l) (hT : Tabs w) :
    Calls Tryd.prog 7 #[.slice A0 l.length c0] w (Ret w (.bool true)) := by
  cases hf : fewB (l.map tw) with
  | true => exact core A0 l l.length c0 rfl w h0 ok hT hf
  | false =>
    have AW := Lib.hid (awake_any w hT)
    have FW := Lib.hid (fun w' (x : Ext w w') => rfew_any A0 l l.length c0 w' (h0.ext x) rfl)
    rw [hf] at FW
    clear h0 hT hf ok
    generalize l.length = n at *
    go_enter Tryd.func7, Tryd.ntmps7
    go_wp2_with fail
    refine AW.out.mono ?_; rintro e V ⟨rfl, x1⟩
    go_wp2_with fail
    refine (FW.out _ x1).mono ?_; rintro e V2 ⟨rfl, x2⟩
    go_wp2_with fail
    go_ret
    exact ⟨rfl, x1.trans x2⟩

set_option maxRecDepth 100000 in
theorem lifted (os : Os) (started : os.Started) (H : Type) (enc : TypeId × Value → H) :
    ReturnsInHanded {} Tryd.checked os 7 .any (fun w args => (Rows.textSoftSpec.pre enc Tryd.prog Tryd.f7 [] false w args ∧ laidMetH Tryd.prog doorLaid w) ∧ sizedMet enc Tryd.prog Tryd.f7 (OpenSpec.ofChange Rows.textSoftSpec) false w args)
      (Rows.textSoftSpec.post enc Tryd.prog Tryd.f7 false true false false) := by
  refine law_liftD started (by kernel_rfl) Tryd.func7 rfl rfl Tryd.underlying4 (by kernel_rfl) ?_
    (ChangeSpec.witness_shaped (enc := enc) (C := Tryd.checked) (os := os) (X := fun w _ => laidMetH Tryd.prog doorLaid w) false (World.laidAll Tryd.prog os doorLaid) #[.slice none 0 0] 8 (World.laidAll_os _ _ _)
      (World.shaped_of_ZipB (by kernel_rfl) (by kernel_rfl)) (by kernel_rfl) (by kernel_rfl) (by kernel_rfl) (laidStart os _)) ?_
  · intro H ds h
    match ds, h with
    | [_], _ => rfl
  · intro W base args ds p hval hA hlt hT
    rw [Tryd.params7] at hA hval
    obtain ⟨v0, vs0, d0, ds0, p0, q0, hargs, rfl, rfl, h0, r0⟩ := trodAll_cons hA
    obtain ⟨rfl, rfl, rfl⟩ := trodAll_nil r0
    obtain rfl : args = #[v0] := by cases args; simp_all
    obtain ⟨A0, l0, c0, rfl, hc0, hm0, ok0, hs0⟩ := arg_words (hval 0 24 v0 rfl rfl) h0
    exact walk A0 l0 c0 hc0 hm0 ok0 W hs0 hT

theorem bare : Rows.TextSoftSaid :=
  OpenClaim.holds_of_wide 7 Tryd.f7 rfl rfl rfl rfl rfl rfl rfl ⟨rfl, rfl, rfl, rfl, rfl⟩ rfl rfl rfl rfl rfl (by kernel_rfl) Tryd.func7 (by kernel_rfl)
    (of_decide_eq_true (by kernel_rfl)) (by unfold Func.isWrapper; first | (rw [if_pos (by decide +kernel)]; kernel_rfl) | (rw [if_neg (by decide +kernel)]; exact ⟨rfl, rfl⟩))
    (fun os started H enc _ => lifted os started H enc)
theorem holds : Rows.TextSoftCardSaid :=
  Claim7.holds_tied_plain_at .later [] [.data, .pinned] true Rows.textSoftCard.stood.harness false bare (fun _ h => by cases h) (by kernel_rfl) (fun _ h => by cases h) textSoft_row_tie rfl ⟨rfl, rfl⟩ (by kernel_rfl) rfl
    (fun f fn hf hfn => by
      obtain rfl : f = 7 := Option.some.inj ((show Tryd.prog.funcNamed "compositor/compositorlaw13.TextSoft" = some 7 by kernel_rfl).symm.trans hf) |>.symm
      obtain rfl : fn = Tryd.f7 := (Option.some.inj (Tryd.func7.symm.trans hfn)).symm
      exact ⟨by kernel_rfl, standsIn (ts := [24]) (by kernel_rfl) (by rw [Tryd.params7])⟩)
    (by kernel_rfl)
end TextSoft
end Go.Proofs.YtbiklbomacjihaaDoor

