/- ParamWidth: a layout of a width alone is that, and nothing else, and with a line of another name, of numbers 0, it is the same: for every input. Written by gen14/width.py. -/
import Derived.Test.YteflkagilhmeiaaDoorUni14
import Derived.Test.YteflkagilhmeiaaDoorWid14
namespace Go.Proofs.YteflkagilhmeiaaDoor
open Go.ChangeShapes Go.WideShapes Go.ChangeAt Go.RowKit Go.Deep
namespace ParamWidth
open L14

set_option maxRecDepth 100000 in
set_option maxHeartbeats 16000000 in
theorem core (a : Int) (ha0 : 0 ≤ a) (_ : a ≤ 4294967295) (z : Int) (hz0 : 0 ≤ z) (hz1 : z ≤ 255) (w : World) (hT : Home w) :
    Calls Tryd.prog 6 #[.int .u32 a, .int .u8 z] w (Ret w (.bool true)) := by
  have HT := Lib.hid hT
  have AW := Lib.hid (awake_any w hT)
  obtain ⟨q, hq⟩ : ∃ q, q = a % 134217728 := ⟨_, rfl⟩
  have q1 : a % 134217728 = q := hq.symm
  have q2 : a.tmod 134217728 = q := by rw [Int.tmod_eq_emod_of_nonneg ha0, q1]
  have t0 : 0 ≤ q := by omega
  have t1 : q < 134217728 := by omega
  obtain ⟨kz, hkz⟩ : ∃ kz : Nat, z % 8 = (kz : Int) := ⟨(z % 8).toNat, by omega⟩
  have hkz2 : z.tmod 8 = (kz : Int) := by rw [Int.tmod_eq_emod_of_nonneg hz0, hkz]
  have hk8 : kz < 8 := by omega
  have hk64 : (kz : Int) < 8 := by omega
  have wz : IntKind.i64.wrap z = z := IntWalk.i64_in _ (by omega)
  have wk : IntKind.i64.wrap (kz : Int) = (kz : Int) := IntWalk.i64_in _ (by omega)
  have w1 : IntKind.u32.wrap q = q := IntWalk.u32_in _ (by omega)
  have w2 : IntKind.i64.wrap q = q := IntWalk.i64_in _ (by omega)
  clear hq
  clear hT
  go_enter Tryd.func6, Tryd.ntmps6
  go_wp2_with fail
  refine AW.out.mono ?_
  rintro e w1' ⟨rfl, x1⟩
  have X := Lib.hid x1
  have HT := Lib.hid (HT.out.ext x1)
  clear AW x1
  go_upto_region 3 with (fail)
  clear w1 w2 q1 q2
  have WQ : Wide q := ⟨by omega, by omega⟩
  go_upto_region 4 with (fail)
  obtain ⟨w2, hw2⟩ : ∃ w2, w2 = w1'.alloc (.cells #[.string ⟨#[115, 112, 97, 99, 101, 32, 48, 32, 48, 32, 48, 10]⟩, .string ⟨#[104, 97, 110, 103, 32, 48, 32, 48, 10]⟩, .string ⟨#[112, 97, 114, 116, 115, 32, 48, 32, 48, 10]⟩, .string ⟨#[98, 97, 100, 32, 48, 32, 48, 10]⟩, .string ⟨#[101, 120, 116, 114, 97, 32, 48, 10]⟩, .string ⟨#[112, 101, 110, 97, 108, 116, 105, 101, 115, 32, 48, 32, 48, 32, 48, 10]⟩, .string ⟨#[100, 101, 109, 101, 114, 105, 116, 115, 32, 48, 32, 48, 32, 48, 32, 48, 32, 48, 10]⟩, .string ⟨#[108, 111, 111, 115, 101, 32, 48, 10]⟩] 9) := ⟨_, rfl⟩
  have NM := Lib.hid (show Blk w2 w1'.heap.size 9 nmC by rw [hw2]; exact Blk.lit _ _ _ _ rfl)
  have x2 : Ext w1' w2 := by rw [hw2]; exact (Ext.refl _).alloc _
  rw [← hw2]
  clear hw2
  generalize w1'.heap.size = bN at *
  have X := Lib.hid (X.out.trans x2)
  have HT := Lib.hid (HT.out.ext x2)
  clear x2
  have OK := Lib.hid (dw_ok WQ)
  have CW := Lib.hid (write_uni (DW q) none 0 w2 OK.out SeenP.nil HT.out)
  rw [dw_cells] at CW
  go_wp2_with fail
  refine CW.out.mono ?_
  rintro e w3 ⟨x3, A2, n2, c2, rfl, h2, hc2, hm2, s2⟩
  clear CW
  have S2 := Lib.hid s2
  clear s2
  have HT := Lib.hid (HT.out.ext x3)
  have NM := Lib.hid (NM.out.ext x3)
  have X := Lib.hid (X.out.trans x3)
  have CP := Lib.hid (parse_uni A2 (tW (DW q)) n2 c2 w3 S2.out h2 (by have := text_len OK.out; omega) hc2 HT.out)
  clear x3
  have HN := Lib.hid h2
  have HC := Lib.hid hc2
  have TL := Lib.hid (text_len OK.out)
  have WR := Lib.hid (wrote OK.out)
  clear h2 hc2 hm2
  go_wp2_with fail
  refine CP.out.mono ?_
  rintro e w4 ⟨x4, A3, c3, rfl, _, sn3⟩
  clear CP
  have SM := Lib.hid sn3
  clear sn3
  have HT := Lib.hid (HT.out.ext x4)
  have NM := Lib.hid (NM.out.ext x4)
  have S2 := Lib.hid (S2.out.ext x4)
  have X := Lib.hid (X.out.trans x4)
  clear x4
  obtain ⟨M, hM⟩ : ∃ M, M = lP (tW (DW q)) := ⟨_, rfl⟩
  obtain ⟨z5, hz⟩ : ∃ z, z = zP (tW (DW q)) := ⟨_, rfl⟩
  obtain ⟨y, hy⟩ : ∃ y, y = zW (DW q) := ⟨_, rfl⟩
  rw [← hM] at SM WR
  rw [← hz, ← hy] at WR
  rw [← hM, ← hz, ← hy]
  clear hM hz hy
  have xb := Lib.hid (boxW_ext w4 M A3 c3)
  have K1 := Lib.hid (boxW_blk w4 M A3 c3)
  go_upto_region 6 with (refine wpList_boxW rfl _ _ rfl w4 rfl M A3 c3 rfl rfl ?_)
  generalize boxW w4 M A3 c3 = w4b at *
  generalize w4.heap.size = b1 at *
  have xb := xb.out
  have HT := Lib.hid (HT.out.ext xb)
  have NM := Lib.hid (NM.out.ext xb)
  have S2 := Lib.hid (S2.out.ext xb)
  have SM := Lib.hid (SM.out.ext xb)
  have X := Lib.hid (X.out.trans xb)
  clear xb
  by_cases hq : 1 ≤ q ∧ q ≤ 67108864
  rotate_left
  · have h := dw_not (q := q) (by omega)
    rcases WR.out with ⟨h1, _⟩ | ⟨_, rfl, rfl, _⟩
    · rw [h] at h1; cases h1
    clear h
    by_cases h1 : q < 1
    · go_wp2_with fail
      go_ret
      exact ⟨rfl, X.out⟩
    · have h2 : 67108864 < q := by omega
      go_wp2_with fail
      go_ret
      exact ⟨rfl, X.out⟩
  obtain ⟨hq1, hq2⟩ := hq
  have hm := dw_may hq1 hq2
  rcases WR.out with ⟨_, rfl, rfl, hM⟩ | ⟨h1, _⟩
  rotate_left
  · rw [hm] at h1; cases h1
  have QM := Lib.hid hM
  clear hM WR
  obtain ⟨T, hT⟩ : ∃ T, T = tW (DW q) := ⟨_, rfl⟩
  rw [← hT] at HN S2 TL
  obtain ⟨r, hr⟩ := dw_text q
  have ET := Lib.hid (show T = bodyL (DW q) (0, 0) ++ 10 :: r by rw [hT, tW, if_pos hm, hr])
  have BF := Lib.hid (bodyL_free (DW q) (0, 0))
  have LB := Lib.hid (lineL_body (DW q) (0, 0))
  obtain ⟨bl, hbl⟩ : ∃ bl, bl = bodyL (DW q) (0, 0) := ⟨_, rfl⟩
  rw [← hbl] at ET BF LB
  obtain ⟨nb, hnb⟩ : ∃ nb, nb = bl.length := ⟨_, rfl⟩
  have NB := Lib.hid hnb
  have n64 : (n2 : Int) ≤ 6000 := by have := TL.out; have := HN.out; omega
  have nbn : nb + 1 ≤ n2 := by have e := HN.out; rw [ET.out, List.length_append, List.length_cons, ← hnb] at e; omega
  have nb64 : (nb : Int) + 1 ≤ 6000 := by omega
  clear hT hr hbl hnb hm
  go_wp2_with fail
  go_loopw [12, 13] (fun va vi wr => ∃ p at' : Nat, p ≤ n2 ∧ va = .int .i64 (at' : Int) ∧ vi = .int .i64 (p : Int) ∧ (p ≤ nb ∧ at' = 0 ∨ nb < p ∧ at' = nb + 1) ∧ wr = w4b) (fun _ i _ => 1000001 - (intOf i).toNat)
  case atStart => exact ⟨0, 0, Nat.zero_le _, rfl, rfl, .inl ⟨Nat.zero_le _, rfl⟩, rfl⟩
  case round =>
    obtain ⟨p, at', hp, rfl, rfl, hat, rfl⟩ := hrel
    by_cases hlt : p < n2
    · have hp64 : (p : Int) < (n2 : Int) := by omega
      obtain ⟨ad, hA, _, hc⟩ := S2.out.get (show p < T.length by rw [← HN.out]; exact hlt)
      rw [hA]
      have HA := Lib.hid hA
      clear hA
      have HL := Lib.hid (show T[p]? = some (T[p]'(by rw [← HN.out]; exact hlt)) from List.getElem?_eq_getElem _)
      generalize T[p]'(by rw [← HN.out]; exact hlt) = tb at *
      rcases Nat.lt_trichotomy p nb with hpn | hpn | hpn
      · obtain rfl : at' = 0 := by omega
        have hne : (tb.toNat : Int) ≠ 10 := fun h => by
          have h10 : tb = 10 := UInt8.toNat_inj.1 (by show _ = 10; omega)
          have e := HL.out
          rw [ET.out, List.getElem?_append_left (by rw [← NB.out]; exact hpn), h10] at e
          exact BF.out (List.mem_of_getElem? e)
        generalize (tb.toNat : Int) = bv at *
        go_wp2_with fail
        go_roundw
        case rel => exact ⟨p + 1, 0, hlt, rfl, by go_num, .inl ⟨hpn, rfl⟩, trivial⟩
        case measure => simp [intOf]; omega
      · obtain rfl : at' = 0 := by omega
        have h10 : tb = 10 := by
          have e := HL.out
          rw [ET.out, List.getElem?_append_right (by rw [← NB.out]; omega), hpn, ← NB.out, Nat.sub_self] at e
          exact (Option.some.inj e).symm
        rw [h10] at hc
        have hc : wr.cell? (ad.add p) = some (.int .u8 10) := hc
        have HPN := Lib.hid hpn
        clear h10 hpn hat
        go_wp2_with fail
        go_roundw
        case rel => exact ⟨p + 1, p + 1, hlt, by go_num, by go_num, .inr ⟨by have := HPN.out; omega, by have := HPN.out; omega⟩, trivial⟩
        case measure => simp [intOf]; omega
      · have hnz : ¬ (at' : Int) = 0 := by omega
        have HAT := Lib.hid (show at' = nb + 1 by omega)
        clear hat
        by_cases h10 : (tb.toNat : Int) = 10
        · rw [h10] at hc
          go_wp2_with fail
          go_roundw
          case rel => exact ⟨p + 1, at', hlt, rfl, by go_num, .inr ⟨by omega, HAT.out⟩, trivial⟩
          case measure => simp [intOf]; omega
        · generalize (tb.toNat : Int) = bv at *
          go_wp2_with fail
          go_roundw
          case rel => exact ⟨p + 1, at', hlt, rfl, by go_num, .inr ⟨by omega, HAT.out⟩, trivial⟩
          case measure => simp [intOf]; omega
    · have hp64 : ¬ (p : Int) < (n2 : Int) := by omega
      have HAT := Lib.hid (show at' = nb + 1 by omega)
      have hap : at' ≤ n2 := by have := HAT.out; omega
      have hac : at' ≤ c2 := by have := HC.out; omega
      have a64 : (at' : Int) ≤ 6000 := by omega
      clear hat
      have LINE := Lib.hid (show T.take at' = lineL (DW q) (0, 0) by rw [LB.out, ET.out, HAT.out, NB.out, show bl.length + 1 = (bl ++ [10]).length by simp, show bl ++ 10 :: r = (bl ++ [10]) ++ r by simp, List.take_left])
      have TAKE := Lib.hid (fun w' (x : Ext wr w') => (S2.out.ext x).take at')
      have NT := Lib.hid (show at' = (T.take at').length by rw [List.length_take, ← HN.out]; omega)
      have CP2 := Lib.hid (parse_uni A2 (T.take at') at' c2 wr (TAKE.out _ (Ext.refl _)) NT.out (by omega) hac HT.out)
      go_wp2_with fail
      refine CP2.out.mono ?_
      rintro e w5 ⟨x5, A5, c5, rfl, _, sn5⟩
      clear CP2
      have SM2 := Lib.hid sn5
      clear sn5
      obtain ⟨M2, hp2, hq2'⟩ := dw_one hq1 hq2
      rw [← LINE.out] at hp2
      rw [show lP (T.take at') = M2 by rw [lP, hp2]; rfl] at SM2 ⊢
      rw [show zP (T.take at') = 0 by rw [zP, hp2]; rfl]
      have QM2 := Lib.hid hq2'
      clear hp2 hq2'
      have HT := Lib.hid (HT.out.ext x5)
      have NM := Lib.hid (NM.out.ext x5)
      have S2 := Lib.hid (S2.out.ext x5)
      have SM := Lib.hid (SM.out.ext x5)
      have K1 := Lib.hid (K1.out.ext x5)
      have X := Lib.hid (X.out.trans x5)
      have TAKE := Lib.hid (fun w' (x : Ext w5 w') => TAKE.out w' (x5.trans x))
      clear x5
      have xb := Lib.hid (boxW_ext w5 M2 A5 c5)
      have K2 := Lib.hid (boxW_blk w5 M2 A5 c5)
      go_upto_region 15 with (refine wpList_boxW rfl _ _ rfl w5 rfl M2 A5 c5 rfl rfl ?_)
      generalize boxW w5 M2 A5 c5 = w5b at *
      generalize w5.heap.size = b2 at *
      have xb := xb.out
      have HT := Lib.hid (HT.out.ext xb)
      have NM := Lib.hid (NM.out.ext xb)
      have S2 := Lib.hid (S2.out.ext xb)
      have SM := Lib.hid (SM.out.ext xb)
      have SM2 := Lib.hid (SM2.out.ext xb)
      have K1 := Lib.hid (K1.out.ext xb)
      have X := Lib.hid (X.out.trans xb)
      clear xb
      have TAKE := Lib.hid (fun w' (x : Ext w5b w') => (S2.out.ext x).take at')
      obtain ⟨R, hR⟩ : ∃ R, R = T.take at' ++ zL kz := ⟨_, rfl⟩
      have PR := Lib.hid (show ∃ M, parseT R = some M ∧ LEq (DW q) M by rw [hR, LINE.out]; exact dw_two hq1 hq2 hk8)
      obtain ⟨lz, hlz⟩ : ∃ lz, lz = (zL kz).length := ⟨_, rfl⟩
      have HLZ := Lib.hid hlz
      have HSZ := Lib.hid (show (⟨(zL kz).toArray⟩ : ByteArray).size = lz by rw [hlz]; show (zL kz).toArray.size = _; rw [List.size_toArray])
      have lz30 : lz ≤ 30 := by rw [hlz]; exact zL_len kz
      have BC := Lib.hid (show ([] : List UInt8).length + (T.take at').length ≤ 900000 by rw [← NT.out, List.length_nil]; omega)
      have BD := Lib.hid (show (([] : List UInt8) ++ T.take at').length + (zL kz).length ≤ 900000 by rw [List.nil_append, ← NT.out, ← hlz]; omega)
      have BT := Lib.hid (show R.length ≤ 800000 by rw [hR, List.length_append, ← NT.out, ← hlz]; omega)
      have RE := Lib.hid (show ([] ++ T.take at') ++ zL kz = R by rw [hR, List.nil_append])
      have CELL := Lib.hid (show ∀ w', Ext w5b w' → w'.cell? ⟨bN, kz, none⟩ = some (.string ⟨(zL kz).toArray⟩) from fun w' x => by rw [(NM.out.ext x).cell]; exact nm_at hk8)
      clear hR hlz
      go_cut [16, 17] from 75 to 93 (fun vp vz wx => ∃ (b : Nat) (A7 : Option Addr) (c7 : Nat) (wn : World), vp = .pointer (some ⟨b, 0, none⟩) ∧ vz = .int .i64 (zP R) ∧ Blk wx b 24 (layC (lP R) A7 c7) ∧ SeenP wx A7 (lP R).n (lP R).sh ∧ Ext w5b wx ∧ wn = wx)
      case first =>
        skip
        refine wp_region_noPanic ?_
        have xd : Ext w5b w5b.drew := (Ext.refl _).drew
        refine wp_region_held_drew (S := fun w' => Ext w5b w') (by kernel_rfl) xd (fun h0 => ?_)
        obtain ⟨V0, hV0⟩ : ∃ V0, V0 = w5b.drew := ⟨_, rfl⟩
        rw [← hV0] at xd h0 ⊢
        have X := Lib.hid xd
        clear xd hV0
        refine wpAnyH_take (i := 1) (oi := ?_) (v := ?_) ?_ (by kernel_rfl) (by kernel_rfl) (by kernel_rfl) ?_ ?_ h0 ?_
        rotate_left 2
        · simp only [List.getElem?_toArray, List.getElem?_cons_zero, List.getElem?_cons_succ]; rfl
        · exact fun _ _ _ h => h
        · refine Or.inl ⟨by rfl, ?_⟩
          intro w hSw
          (try dsimp only at hSw)
          go_simp
          (try with_reducible rfl)
        (try simp only [Act.put, List.setIfInBounds_toArray, List.set_cons_zero, List.set_cons_succ])
        refine wpAnyH_take (i := 2) (oi := ?_) (v := ?_) ?_ (by kernel_rfl) (by kernel_rfl) (by kernel_rfl) ?_ ?_ h0 ?_
        rotate_left 2
        · simp only [List.getElem?_toArray, List.getElem?_cons_zero, List.getElem?_cons_succ]; rfl
        · exact fun _ _ _ h => h
        · refine Or.inl ⟨by rfl, ?_⟩
          intro w hSw
          (try dsimp only at hSw)
          go_simp
          (try with_reducible rfl)
        (try simp only [Act.put, List.setIfInBounds_toArray, List.set_cons_zero, List.set_cons_succ])
        refine wpAnyH_take (i := 3) (oi := ?_) (v := ?_) ?_ (by kernel_rfl) (by kernel_rfl) (by kernel_rfl) ?_ ?_ h0 ?_
        rotate_left 2
        · simp only [List.getElem?_toArray, List.getElem?_cons_zero, List.getElem?_cons_succ]; rfl
        · exact fun _ _ _ h => h
        · refine Or.inl ⟨by rfl, ?_⟩
          intro w hSw
          (try dsimp only at hSw)
          go_simp
          (try with_reducible rfl)
        (try simp only [Act.put, List.setIfInBounds_toArray, List.set_cons_zero, List.set_cons_succ])
        refine wpAnyH_take (i := 5) (oi := ?_) (v := ?_) ?_ (by kernel_rfl) (by kernel_rfl) (by kernel_rfl) ?_ ?_ h0 ?_
        rotate_left 2
        · simp only [List.getElem?_toArray, List.getElem?_cons_zero, List.getElem?_cons_succ]; rfl
        · exact fun _ _ _ h => h
        · refine Or.inl ⟨by rfl, ?_⟩
          intro w hSw
          (try dsimp only at hSw)
          go_simp
          (try with_reducible rfl)
        (try simp only [Act.put, List.setIfInBounds_toArray, List.set_cons_zero, List.set_cons_succ])
        refine wpAnyH_take (i := 6) (oi := ?_) (v := ?_) ?_ (by kernel_rfl) (by kernel_rfl) (by kernel_rfl) ?_ ?_ h0 ?_
        rotate_left 2
        · simp only [List.getElem?_toArray, List.getElem?_cons_zero, List.getElem?_cons_succ]; rfl
        · exact fun _ _ _ h => h
        · refine Or.inl ⟨by rfl, ?_⟩
          intro w hSw
          (try dsimp only at hSw)
          go_simp
          (try with_reducible rfl)
        (try simp only [Act.put, List.setIfInBounds_toArray, List.set_cons_zero, List.set_cons_succ])
        refine wpAnyH_take (i := 7) (oi := ?_) (v := ?_) ?_ (by kernel_rfl) (by kernel_rfl) (by kernel_rfl) ?_ ?_ h0 ?_
        rotate_left 2
        · simp only [List.getElem?_toArray, List.getElem?_cons_zero, List.getElem?_cons_succ]; rfl
        · exact fun _ _ _ h => h
        · refine Or.inl ⟨by rfl, ?_⟩
          intro w hSw
          (try dsimp only at hSw)
          go_simp
          (try with_reducible rfl)
        (try simp only [Act.put, List.setIfInBounds_toArray, List.set_cons_zero, List.set_cons_succ])
        refine wpAnyH_take (i := 8) (oi := ?_) (v := ?_) ?_ (by kernel_rfl) (by kernel_rfl) (by kernel_rfl) ?_ ?_ h0 ?_
        rotate_left 2
        · simp only [List.getElem?_toArray, List.getElem?_cons_zero, List.getElem?_cons_succ]; rfl
        · exact fun _ _ _ h => h
        · refine Or.inl ⟨by rfl, ?_⟩
          intro w hSw
          (try dsimp only at hSw)
          go_simp
          (try with_reducible rfl)
        (try simp only [Act.put, List.setIfInBounds_toArray, List.set_cons_zero, List.set_cons_succ])
        refine wpAnyH_take (i := 9) (oi := ?_) (v := ?_) ?_ (by kernel_rfl) (by kernel_rfl) (by kernel_rfl) ?_ ?_ h0 ?_
        rotate_left 2
        · simp only [List.getElem?_toArray, List.getElem?_cons_zero, List.getElem?_cons_succ]; rfl
        · exact fun _ _ _ h => h
        · refine Or.inl ⟨by rfl, ?_⟩
          intro w hSw
          (try dsimp only at hSw)
          go_simp
          (try with_reducible rfl)
        (try simp only [Act.put, List.setIfInBounds_toArray, List.set_cons_zero, List.set_cons_succ])
        refine wpAnyH_take (i := 10) (oi := ?_) (v := ?_) ?_ (by kernel_rfl) (by kernel_rfl) (by kernel_rfl) ?_ ?_ h0 ?_
        rotate_left 2
        · simp only [List.getElem?_toArray, List.getElem?_cons_zero, List.getElem?_cons_succ]; rfl
        · exact fun _ _ _ h => h
        · refine Or.inl ⟨by rfl, ?_⟩
          intro w hSw
          (try dsimp only at hSw)
          go_simp
          (try with_reducible rfl)
        (try simp only [Act.put, List.setIfInBounds_toArray, List.set_cons_zero, List.set_cons_succ])
        refine wpAnyH_take (i := 11) (oi := ?_) (v := ?_) ?_ (by kernel_rfl) (by kernel_rfl) (by kernel_rfl) ?_ ?_ h0 ?_
        rotate_left 2
        · simp only [List.getElem?_toArray, List.getElem?_cons_zero, List.getElem?_cons_succ]; rfl
        · exact fun _ _ _ h => h
        · refine Or.inl ⟨by rfl, ?_⟩
          intro w hSw
          (try dsimp only at hSw)
          go_simp
          (try with_reducible rfl)
        (try simp only [Act.put, List.setIfInBounds_toArray, List.set_cons_zero, List.set_cons_succ])
        refine wpAnyH_take (i := 12) (oi := ?_) (v := ?_) ?_ (by kernel_rfl) (by kernel_rfl) (by kernel_rfl) ?_ ?_ h0 ?_
        rotate_left 2
        · simp only [List.getElem?_toArray, List.getElem?_cons_zero, List.getElem?_cons_succ]; rfl
        · exact fun _ _ _ h => h
        · refine Or.inl ⟨by rfl, ?_⟩
          intro w hSw
          have cl := CELL.out _ hSw
          go_simp
          (try with_reducible rfl)
        (try simp only [Act.put, List.setIfInBounds_toArray, List.set_cons_zero, List.set_cons_succ])
        refine wpAnyH_ready (rs := [0, 13, 19]) (by kernel_rfl) (by simp) ?_
        refine AllReadyH.cons (o := ?_) ?_ (fun K hK => ?_) ?_
        rotate_left
        · simp only [List.getElem?_toArray, List.getElem?_cons_zero]; rfl
        · skip
          obtain ⟨V1, hV⟩ : ∃ V1, V1 = V0.alloc (.cells #[] 5) := ⟨_, rfl⟩
          have y : Ext V0 V1 := by rw [hV]; exact (Ext.refl _).alloc _
          have OWN := Lib.hid (show OwnB 5 w5b V1 (.slice (some ⟨V0.heap.size, 0, none⟩) 0 0) [] by rw [hV]; exact OwnB.lit 5 w5b V0 [] #[] 0 rfl rfl (by simp) X.out)
          have OLT := Lib.hid (show V0.heap.size < V1.heap.size by rw [hV]; simp)
          have X := Lib.hid (X.out.trans y)
          go_simp
          rw [← hV]
          refine hK.out _ _ X.out (fun h1 => ?_)
          clear hK K y hV
          (try simp only [Act.put, List.setIfInBounds_toArray, List.set_cons_zero, List.set_cons_succ])
          refine wpAnyH_ready (rs := [4, 13, 19]) (by kernel_rfl) (by simp) ?_
          refine AllReadyH.cons (o := ?_) ?_ (fun K hK => ?_) ?_
          rotate_left
          · simp only [List.getElem?_toArray, List.getElem?_cons_zero, List.getElem?_cons_succ]; rfl
          · skip
            obtain ⟨v2, V2, rn, on, gn, bn⟩ := run_bytes14 OWN.out (A2) (at') (c2) (T.take at') (TAKE.out _ X.out) (NT.out) (BC.out) 26
            refine step_ran (.tmp 76) (.tmp 79) rfl (by kernel_rfl) rn ?_
            have X := Lib.hid on.2
            have OWN := Lib.hid on
            refine hK.out _ _ X.out (fun h2 => ?_)
            clear hK K rn on gn bn
            (try simp only [Act.put, List.setIfInBounds_toArray, List.set_cons_zero, List.set_cons_succ])
            refine wpAnyH_ready (rs := [13, 19]) (by kernel_rfl) (by simp) ?_
            refine AllReadyH.cons (o := ?_) ?_ (fun K hK => ?_) ?_
            rotate_left
            · simp only [List.getElem?_toArray, List.getElem?_cons_zero, List.getElem?_cons_succ]; rfl
            · skip
              obtain ⟨V3, hV⟩ : ∃ V3, V3 = Lib.bytesWorld V2 5 ⟨(zL kz).toArray⟩ := ⟨_, rfl⟩
              have y : Ext V2 V3 := by rw [hV]; exact ext_bytes _ _
              have CNV := Lib.hid (show SeenB V3 (some ⟨V2.heap.size, 0, none⟩) (zL kz) by rw [hV]; exact conv_seen _ _)
              have rc := Lib.run_convert_string_bytes (P := Tryd.prog) V2 9 26 5 ⟨(zL kz).toArray⟩ Tryd.underlying9 Tryd.underlying26 Tryd.underlying5
              obtain ⟨cv3, hcv⟩ : ∃ cv, cv = grownCap V2 (⟨(zL kz).toArray⟩ : ByteArray).size 0 5 := ⟨_, rfl⟩
              rw [← hV, ← hcv, HSZ.out] at rc
              clear hcv
              have HV := Lib.hid hV
              clear hV
              have OWN := Lib.hid (OWN.out.over y)
              have X := Lib.hid (X.out.trans y)
              go_simp
              refine hK.out _ _ X.out (fun h3 => ?_)
              clear hK K y HV rc
              (try simp only [Act.put, List.setIfInBounds_toArray, List.set_cons_zero, List.set_cons_succ])
              refine wpAnyH_ready (rs := [14, 19]) (by kernel_rfl) (by simp) ?_
              refine AllReadyH.cons (o := ?_) ?_ (fun K hK => ?_) ?_
              rotate_left
              · simp only [List.getElem?_toArray, List.getElem?_cons_zero, List.getElem?_cons_succ]; rfl
              · skip
                obtain ⟨v4, V4, rn, on, gn, bn⟩ := run_bytes14 OWN.out (some ⟨V2.heap.size, 0, none⟩) (lz) (cv3) (zL kz) (CNV.out) (HLZ.out) (BD.out) 26
                refine step_ran (.tmp 80) (.tmp 89) rfl (by kernel_rfl) rn ?_
                have X := Lib.hid on.2
                have OWN := Lib.hid on
                refine hK.out _ _ X.out (fun h4 => ?_)
                clear hK K rn on gn bn
                (try simp only [Act.put, List.setIfInBounds_toArray, List.set_cons_zero, List.set_cons_succ])
                refine wpAnyH_ready (rs := [15, 19]) (by kernel_rfl) (by simp) ?_
                refine AllReadyH.cons (o := ?_) ?_ (fun K hK => ?_) ?_
                rotate_left
                · simp only [List.getElem?_toArray, List.getElem?_cons_zero, List.getElem?_cons_succ]; rfl
                · skip
                  have ow := OWN.out
                  rw [RE.out] at ow
                  obtain ⟨A6, c6, hv, hc6, hs6⟩ := ow.seen
                  clear ow
                  subst hv
                  have PQ := Lib.hid (parse_new A6 _ _ c6 V4 hs6 rfl (BT.out) hc6 (HT.out.ext X.out))
                  clear hs6 hc6
                  go_simp
                  refine PQ.out.mono ?_
                  rintro e V5 ⟨A7, c7, rfl, y, _, sn7, fr7⟩
                  have SN7 := Lib.hid sn7
                  have X := Lib.hid (X.out.trans y)
                  refine hK.out _ _ X.out (fun h5 => ?_)
                  clear hK K y sn7 fr7 PQ OWN
                  (try simp only [Act.put, List.setIfInBounds_toArray, List.set_cons_zero, List.set_cons_succ])
                  refine wpAnyH_take (i := 16) (oi := ?_) (v := ?_) ?_ (by kernel_rfl) (by kernel_rfl) (by kernel_rfl) ?_ ?_ h5 ?_
                  rotate_left 2
                  · simp only [List.getElem?_toArray, List.getElem?_cons_zero, List.getElem?_cons_succ]; rfl
                  · exact fun _ _ _ h => h
                  · refine Or.inl ⟨by rfl, ?_⟩
                    intro w hSw
                    (try dsimp only at hSw)
                    go_simp
                    (try with_reducible rfl)
                  (try simp only [Act.put, List.setIfInBounds_toArray, List.set_cons_zero, List.set_cons_succ])
                  refine wpAnyH_take (i := 17) (oi := ?_) (v := ?_) ?_ (by kernel_rfl) (by kernel_rfl) (by kernel_rfl) ?_ ?_ h5 ?_
                  rotate_left 2
                  · simp only [List.getElem?_toArray, List.getElem?_cons_zero, List.getElem?_cons_succ]; rfl
                  · exact fun _ _ _ h => h
                  · refine Or.inl ⟨by rfl, ?_⟩
                    intro w hSw
                    (try dsimp only at hSw)
                    go_simp
                    (try with_reducible rfl)
                  (try simp only [Act.put, List.setIfInBounds_toArray, List.set_cons_zero, List.set_cons_succ])
                  refine wpAnyH_take (i := 18) (oi := ?_) (v := ?_) ?_ (by kernel_rfl) (by kernel_rfl) (by kernel_rfl) ?_ ?_ h5 ?_
                  rotate_left 2
                  · simp only [List.getElem?_toArray, List.getElem?_cons_zero, List.getElem?_cons_succ]; rfl
                  · exact fun _ _ _ h => h
                  · refine Or.inl ⟨by rfl, ?_⟩
                    intro w hSw
                    (try dsimp only at hSw)
                    go_simp
                    (try with_reducible rfl)
                  (try simp only [Act.put, List.setIfInBounds_toArray, List.set_cons_zero, List.set_cons_succ])
                  refine wpAnyH_ready (rs := [19]) (by kernel_rfl) (by simp) ?_
                  refine AllReadyH.cons (o := ?_) ?_ (fun K hK => ?_) AllReadyH.nil
                  rotate_left
                  · simp only [List.getElem?_toArray, List.getElem?_cons_zero, List.getElem?_cons_succ]; rfl
                  obtain ⟨V6, hV⟩ : ∃ V6, V6 = V5.alloc (.cells #[.int .i64 0, .int .i64 0, .int .i64 0, .int .i64 0, .slice none 0 0, .int .i64 0, .int .i64 0, .int .i64 0, .int .i64 0, .int .i64 0, .int .i64 0, .int .i64 0, .int .i64 0, .int .i64 0, .int .i64 0, .int .i64 0, .int .i64 0, .int .i64 0, .int .i64 0, .int .i64 0, .int .i64 0] 24) := ⟨_, rfl⟩
                  have y : Ext V5 V6 := by rw [hV]; exact (Ext.refl _).alloc _
                  have BOX := Lib.hid (show Blk V6 V5.heap.size 24 Z21 by rw [hV]; exact Blk.lit _ _ _ _ rfl)
                  have BLE := Lib.hid (show w5b.heap.size ≤ V5.heap.size from X.out.size)
                  have F7 := Lib.hid (fun (cs : List Value) => SN7.out.ext (ext_setCells (Nat.le_refl V5.heap.size) cs 0 _ y))
                  have X := Lib.hid (X.out.trans y)
                  go_simp
                  rw [← hV]
                  refine hK.out _ _ X.out (fun h6 => ?_)
                  clear hK K y hV
                  (try simp only [Act.put, List.setIfInBounds_toArray, List.set_cons_zero, List.set_cons_succ])
                  refine wpAnyH_ready (rs := [20]) (by kernel_rfl) (by simp) ?_
                  refine AllReadyH.cons (o := ?_) ?_ (fun K hK => ?_) AllReadyH.nil
                  rotate_left
                  · simp only [List.getElem?_toArray, List.getElem?_cons_zero, List.getElem?_cons_succ]; rfl
                  refine step_store 24 (.tmp 16) (.tmp 92) rfl (V5.heap.size) _ rfl rfl BOX.out.there lay_info (all_oneCell_toArray (layC_one _ _ _)) (by kernel_rfl) ?_
                  obtain ⟨V7, hV⟩ : ∃ V7, V7 = V6.setCells (V5.heap.size) 0 (layC (lP R) A7 c7) := ⟨_, rfl⟩
                  have X := Lib.hid (show Ext w5b V7 by rw [hV]; exact ext_setCells BLE.out _ _ _ X.out)
                  have K7 := Lib.hid (show Blk V7 (V5.heap.size) 24 (layC (lP R) A7 c7) by rw [hV]; exact blk_setCells BOX.out _ rfl)
                  have S7 := Lib.hid (show SeenP V7 A7 (lP R).n (lP R).sh by rw [hV]; exact F7.out _)
                  (try change K _ (V6.setCells (V5.heap.size) 0 (layC (lP R) A7 c7)))
                  rw [← hV]
                  refine hK.out _ _ X.out (fun h7 => ?_)
                  clear hK K hV
                  (try simp only [Act.put])
                  refine wpAnyH_take (i := 21) (oi := ?_) (v := ?_) ?_ (by kernel_rfl) (by kernel_rfl) (by kernel_rfl) ?_ ?_ h7 ?_
                  rotate_left 2
                  · simp only [List.getElem?_toArray, List.getElem?_cons_zero, List.getElem?_cons_succ]; rfl
                  · exact fun _ _ _ h => h
                  · refine Or.inl ⟨by rfl, ?_⟩
                    intro w hSw
                    (try dsimp only at hSw)
                    go_simp
                    (try with_reducible rfl)
                  (try simp only [Act.put, List.setIfInBounds_toArray, List.set_cons_zero, List.set_cons_succ])
                  refine wpAnyH_done (by kernel_rfl) ?_ _
                  refine NoPanic.normal ?_
                  clear OK PR
                  go_wp2_with fail
                  go_meet
                  exact ⟨V5.heap.size, A7, c7, _, rfl, rfl, K7.out, S7.out, X.out, rfl⟩
                · refine AllReadyH.cons (o := ?_) ?_ (fun K hK => ?_) AllReadyH.nil
                  rotate_left
                  · simp only [List.getElem?_toArray, List.getElem?_cons_zero, List.getElem?_cons_succ]; rfl
                  obtain ⟨V8, hV⟩ : ∃ V8, V8 = V4.alloc (.cells #[.int .i64 0, .int .i64 0, .int .i64 0, .int .i64 0, .slice none 0 0, .int .i64 0, .int .i64 0, .int .i64 0, .int .i64 0, .int .i64 0, .int .i64 0, .int .i64 0, .int .i64 0, .int .i64 0, .int .i64 0, .int .i64 0, .int .i64 0, .int .i64 0, .int .i64 0, .int .i64 0, .int .i64 0] 24) := ⟨_, rfl⟩
                  have y : Ext V4 V8 := by rw [hV]; exact (Ext.refl _).alloc _
                  have BOX := Lib.hid (show Blk V8 V4.heap.size 24 Z21 by rw [hV]; exact Blk.lit _ _ _ _ rfl)
                  have BLE := Lib.hid (show w5b.heap.size ≤ V4.heap.size from X.out.size)
                  have OWN := Lib.hid (OWN.out.over y)
                  have X := Lib.hid (X.out.trans y)
                  go_simp
                  rw [← hV]
                  refine hK.out _ _ X.out (fun h8 => ?_)
                  clear hK K y hV
                  (try simp only [Act.put, List.setIfInBounds_toArray, List.set_cons_zero, List.set_cons_succ])
                  refine wpAnyH_ready (rs := [15]) (by kernel_rfl) (by simp) ?_
                  refine AllReadyH.cons (o := ?_) ?_ (fun K hK => ?_) AllReadyH.nil
                  rotate_left
                  · simp only [List.getElem?_toArray, List.getElem?_cons_zero, List.getElem?_cons_succ]; rfl
                  have ow := OWN.out
                  rw [RE.out] at ow
                  obtain ⟨A6, c6, hv, hc6, hs6⟩ := ow.seen
                  clear ow
                  subst hv
                  have PQ := Lib.hid (parse_new A6 _ _ c6 V8 hs6 rfl (BT.out) hc6 (HT.out.ext X.out))
                  clear hs6 hc6
                  go_simp
                  refine PQ.out.mono ?_
                  rintro e V9 ⟨A7, c7, rfl, y, _, sn7, fr7⟩
                  have SN7 := Lib.hid sn7
                  have NE := Lib.hid (show ∀ ad, A7 = some ad → V4.heap.size ≠ ad.block from fun ad e => by have := fr7 ad e; have := BOX.out.lt; omega)
                  have F7 := Lib.hid (fun (cs : List Value) => seenP_sets NE.out cs 0 _ sn7)
                  have BOX := Lib.hid (BOX.out.ext y)
                  have X := Lib.hid (X.out.trans y)
                  refine hK.out _ _ X.out (fun h9 => ?_)
                  clear hK K y sn7 fr7 PQ OWN
                  (try simp only [Act.put, List.setIfInBounds_toArray, List.set_cons_zero, List.set_cons_succ])
                  refine wpAnyH_take (i := 16) (oi := ?_) (v := ?_) ?_ (by kernel_rfl) (by kernel_rfl) (by kernel_rfl) ?_ ?_ h9 ?_
                  rotate_left 2
                  · simp only [List.getElem?_toArray, List.getElem?_cons_zero, List.getElem?_cons_succ]; rfl
                  · exact fun _ _ _ h => h
                  · refine Or.inl ⟨by rfl, ?_⟩
                    intro w hSw
                    (try dsimp only at hSw)
                    go_simp
                    (try with_reducible rfl)
                  (try simp only [Act.put, List.setIfInBounds_toArray, List.set_cons_zero, List.set_cons_succ])
                  refine wpAnyH_take (i := 17) (oi := ?_) (v := ?_) ?_ (by kernel_rfl) (by kernel_rfl) (by kernel_rfl) ?_ ?_ h9 ?_
                  rotate_left 2
                  · simp only [List.getElem?_toArray, List.getElem?_cons_zero, List.getElem?_cons_succ]; rfl
                  · exact fun _ _ _ h => h
                  · refine Or.inl ⟨by rfl, ?_⟩
                    intro w hSw
                    (try dsimp only at hSw)
                    go_simp
                    (try with_reducible rfl)
                  (try simp only [Act.put, List.setIfInBounds_toArray, List.set_cons_zero, List.set_cons_succ])
                  refine wpAnyH_take (i := 18) (oi := ?_) (v := ?_) ?_ (by kernel_rfl) (by kernel_rfl) (by kernel_rfl) ?_ ?_ h9 ?_
                  rotate_left 2
                  · simp only [List.getElem?_toArray, List.getElem?_cons_zero, List.getElem?_cons_succ]; rfl
                  · exact fun _ _ _ h => h
                  · refine Or.inl ⟨by rfl, ?_⟩
                    intro w hSw
                    (try dsimp only at hSw)
                    go_simp
                    (try with_reducible rfl)
                  (try simp only [Act.put, List.setIfInBounds_toArray, List.set_cons_zero, List.set_cons_succ])
                  refine wpAnyH_ready (rs := [20]) (by kernel_rfl) (by simp) ?_
                  refine AllReadyH.cons (o := ?_) ?_ (fun K hK => ?_) AllReadyH.nil
                  rotate_left
                  · simp only [List.getElem?_toArray, List.getElem?_cons_zero, List.getElem?_cons_succ]; rfl
                  refine step_store 24 (.tmp 16) (.tmp 92) rfl (V4.heap.size) _ rfl rfl BOX.out.there lay_info (all_oneCell_toArray (layC_one _ _ _)) (by kernel_rfl) ?_
                  obtain ⟨V10, hV⟩ : ∃ V10, V10 = V9.setCells (V4.heap.size) 0 (layC (lP R) A7 c7) := ⟨_, rfl⟩
                  have X := Lib.hid (show Ext w5b V10 by rw [hV]; exact ext_setCells BLE.out _ _ _ X.out)
                  have K7 := Lib.hid (show Blk V10 (V4.heap.size) 24 (layC (lP R) A7 c7) by rw [hV]; exact blk_setCells BOX.out _ rfl)
                  have S7 := Lib.hid (show SeenP V10 A7 (lP R).n (lP R).sh by rw [hV]; exact F7.out _)
                  (try change K _ (V9.setCells (V4.heap.size) 0 (layC (lP R) A7 c7)))
                  rw [← hV]
                  refine hK.out _ _ X.out (fun h10 => ?_)
                  clear hK K hV
                  (try simp only [Act.put])
                  refine wpAnyH_take (i := 21) (oi := ?_) (v := ?_) ?_ (by kernel_rfl) (by kernel_rfl) (by kernel_rfl) ?_ ?_ h10 ?_
                  rotate_left 2
                  · simp only [List.getElem?_toArray, List.getElem?_cons_zero, List.getElem?_cons_succ]; rfl
                  · exact fun _ _ _ h => h
                  · refine Or.inl ⟨by rfl, ?_⟩
                    intro w hSw
                    (try dsimp only at hSw)
                    go_simp
                    (try with_reducible rfl)
                  (try simp only [Act.put, List.setIfInBounds_toArray, List.set_cons_zero, List.set_cons_succ])
                  refine wpAnyH_done (by kernel_rfl) ?_ _
                  refine NoPanic.normal ?_
                  clear OK PR
                  go_wp2_with fail
                  go_meet
                  exact ⟨V4.heap.size, A7, c7, _, rfl, rfl, K7.out, S7.out, X.out, rfl⟩
              · refine AllReadyH.cons (o := ?_) ?_ (fun K hK => ?_) AllReadyH.nil
                rotate_left
                · simp only [List.getElem?_toArray, List.getElem?_cons_zero, List.getElem?_cons_succ]; rfl
                obtain ⟨V11, hV⟩ : ∃ V11, V11 = V3.alloc (.cells #[.int .i64 0, .int .i64 0, .int .i64 0, .int .i64 0, .slice none 0 0, .int .i64 0, .int .i64 0, .int .i64 0, .int .i64 0, .int .i64 0, .int .i64 0, .int .i64 0, .int .i64 0, .int .i64 0, .int .i64 0, .int .i64 0, .int .i64 0, .int .i64 0, .int .i64 0, .int .i64 0, .int .i64 0] 24) := ⟨_, rfl⟩
                have y : Ext V3 V11 := by rw [hV]; exact (Ext.refl _).alloc _
                have BOX := Lib.hid (show Blk V11 V3.heap.size 24 Z21 by rw [hV]; exact Blk.lit _ _ _ _ rfl)
                have BLE := Lib.hid (show w5b.heap.size ≤ V3.heap.size from X.out.size)
                have OWN := Lib.hid (OWN.out.over y)
                have CNV := Lib.hid (CNV.out.ext y)
                have X := Lib.hid (X.out.trans y)
                go_simp
                rw [← hV]
                refine hK.out _ _ X.out (fun h11 => ?_)
                clear hK K y hV
                (try simp only [Act.put, List.setIfInBounds_toArray, List.set_cons_zero, List.set_cons_succ])
                refine wpAnyH_ready (rs := [14]) (by kernel_rfl) (by simp) ?_
                refine AllReadyH.cons (o := ?_) ?_ (fun K hK => ?_) AllReadyH.nil
                rotate_left
                · simp only [List.getElem?_toArray, List.getElem?_cons_zero, List.getElem?_cons_succ]; rfl
                obtain ⟨v12, V12, rn, on, gn, bn⟩ := run_bytes14 OWN.out (some ⟨V2.heap.size, 0, none⟩) (lz) (cv3) (zL kz) (CNV.out) (HLZ.out) (BD.out) 26
                refine step_ran (.tmp 80) (.tmp 89) rfl (by kernel_rfl) rn ?_
                have BOX := Lib.hid (bn _ _ BOX.out)
                have X := Lib.hid on.2
                have OWN := Lib.hid on
                refine hK.out _ _ X.out (fun h12 => ?_)
                clear hK K rn on gn bn
                (try simp only [Act.put, List.setIfInBounds_toArray, List.set_cons_zero, List.set_cons_succ])
                refine wpAnyH_ready (rs := [15]) (by kernel_rfl) (by simp) ?_
                refine AllReadyH.cons (o := ?_) ?_ (fun K hK => ?_) AllReadyH.nil
                rotate_left
                · simp only [List.getElem?_toArray, List.getElem?_cons_zero, List.getElem?_cons_succ]; rfl
                have ow := OWN.out
                rw [RE.out] at ow
                obtain ⟨A6, c6, hv, hc6, hs6⟩ := ow.seen
                clear ow
                subst hv
                have PQ := Lib.hid (parse_new A6 _ _ c6 V12 hs6 rfl (BT.out) hc6 (HT.out.ext X.out))
                clear hs6 hc6
                go_simp
                refine PQ.out.mono ?_
                rintro e V13 ⟨A7, c7, rfl, y, _, sn7, fr7⟩
                have SN7 := Lib.hid sn7
                have NE := Lib.hid (show ∀ ad, A7 = some ad → V3.heap.size ≠ ad.block from fun ad e => by have := fr7 ad e; have := BOX.out.lt; omega)
                have F7 := Lib.hid (fun (cs : List Value) => seenP_sets NE.out cs 0 _ sn7)
                have BOX := Lib.hid (BOX.out.ext y)
                have X := Lib.hid (X.out.trans y)
                refine hK.out _ _ X.out (fun h13 => ?_)
                clear hK K y sn7 fr7 PQ OWN
                (try simp only [Act.put, List.setIfInBounds_toArray, List.set_cons_zero, List.set_cons_succ])
                refine wpAnyH_take (i := 16) (oi := ?_) (v := ?_) ?_ (by kernel_rfl) (by kernel_rfl) (by kernel_rfl) ?_ ?_ h13 ?_
                rotate_left 2
                · simp only [List.getElem?_toArray, List.getElem?_cons_zero, List.getElem?_cons_succ]; rfl
                · exact fun _ _ _ h => h
                · refine Or.inl ⟨by rfl, ?_⟩
                  intro w hSw
                  (try dsimp only at hSw)
                  go_simp
                  (try with_reducible rfl)
                (try simp only [Act.put, List.setIfInBounds_toArray, List.set_cons_zero, List.set_cons_succ])
                refine wpAnyH_take (i := 17) (oi := ?_) (v := ?_) ?_ (by kernel_rfl) (by kernel_rfl) (by kernel_rfl) ?_ ?_ h13 ?_
                rotate_left 2
                · simp only [List.getElem?_toArray, List.getElem?_cons_zero, List.getElem?_cons_succ]; rfl
                · exact fun _ _ _ h => h
                · refine Or.inl ⟨by rfl, ?_⟩
                  intro w hSw
                  (try dsimp only at hSw)
                  go_simp
                  (try with_reducible rfl)
                (try simp only [Act.put, List.setIfInBounds_toArray, List.set_cons_zero, List.set_cons_succ])
                refine wpAnyH_take (i := 18) (oi := ?_) (v := ?_) ?_ (by kernel_rfl) (by kernel_rfl) (by kernel_rfl) ?_ ?_ h13 ?_
                rotate_left 2
                · simp only [List.getElem?_toArray, List.getElem?_cons_zero, List.getElem?_cons_succ]; rfl
                · exact fun _ _ _ h => h
                · refine Or.inl ⟨by rfl, ?_⟩
                  intro w hSw
                  (try dsimp only at hSw)
                  go_simp
                  (try with_reducible rfl)
                (try simp only [Act.put, List.setIfInBounds_toArray, List.set_cons_zero, List.set_cons_succ])
                refine wpAnyH_ready (rs := [20]) (by kernel_rfl) (by simp) ?_
                refine AllReadyH.cons (o := ?_) ?_ (fun K hK => ?_) AllReadyH.nil
                rotate_left
                · simp only [List.getElem?_toArray, List.getElem?_cons_zero, List.getElem?_cons_succ]; rfl
                refine step_store 24 (.tmp 16) (.tmp 92) rfl (V3.heap.size) _ rfl rfl BOX.out.there lay_info (all_oneCell_toArray (layC_one _ _ _)) (by kernel_rfl) ?_
                obtain ⟨V14, hV⟩ : ∃ V14, V14 = V13.setCells (V3.heap.size) 0 (layC (lP R) A7 c7) := ⟨_, rfl⟩
                have X := Lib.hid (show Ext w5b V14 by rw [hV]; exact ext_setCells BLE.out _ _ _ X.out)
                have K7 := Lib.hid (show Blk V14 (V3.heap.size) 24 (layC (lP R) A7 c7) by rw [hV]; exact blk_setCells BOX.out _ rfl)
                have S7 := Lib.hid (show SeenP V14 A7 (lP R).n (lP R).sh by rw [hV]; exact F7.out _)
                (try change K _ (V13.setCells (V3.heap.size) 0 (layC (lP R) A7 c7)))
                rw [← hV]
                refine hK.out _ _ X.out (fun h14 => ?_)
                clear hK K hV
                (try simp only [Act.put])
                refine wpAnyH_take (i := 21) (oi := ?_) (v := ?_) ?_ (by kernel_rfl) (by kernel_rfl) (by kernel_rfl) ?_ ?_ h14 ?_
                rotate_left 2
                · simp only [List.getElem?_toArray, List.getElem?_cons_zero, List.getElem?_cons_succ]; rfl
                · exact fun _ _ _ h => h
                · refine Or.inl ⟨by rfl, ?_⟩
                  intro w hSw
                  (try dsimp only at hSw)
                  go_simp
                  (try with_reducible rfl)
                (try simp only [Act.put, List.setIfInBounds_toArray, List.set_cons_zero, List.set_cons_succ])
                refine wpAnyH_done (by kernel_rfl) ?_ _
                refine NoPanic.normal ?_
                clear OK PR
                go_wp2_with fail
                go_meet
                exact ⟨V3.heap.size, A7, c7, _, rfl, rfl, K7.out, S7.out, X.out, rfl⟩
            · refine AllReadyH.cons (o := ?_) ?_ (fun K hK => ?_) AllReadyH.nil
              rotate_left
              · simp only [List.getElem?_toArray, List.getElem?_cons_zero, List.getElem?_cons_succ]; rfl
              obtain ⟨V15, hV⟩ : ∃ V15, V15 = V2.alloc (.cells #[.int .i64 0, .int .i64 0, .int .i64 0, .int .i64 0, .slice none 0 0, .int .i64 0, .int .i64 0, .int .i64 0, .int .i64 0, .int .i64 0, .int .i64 0, .int .i64 0, .int .i64 0, .int .i64 0, .int .i64 0, .int .i64 0, .int .i64 0, .int .i64 0, .int .i64 0, .int .i64 0, .int .i64 0] 24) := ⟨_, rfl⟩
              have y : Ext V2 V15 := by rw [hV]; exact (Ext.refl _).alloc _
              have BOX := Lib.hid (show Blk V15 V2.heap.size 24 Z21 by rw [hV]; exact Blk.lit _ _ _ _ rfl)
              have BLE := Lib.hid (show w5b.heap.size ≤ V2.heap.size from X.out.size)
              have OWN := Lib.hid (OWN.out.over y)
              have X := Lib.hid (X.out.trans y)
              go_simp
              rw [← hV]
              refine hK.out _ _ X.out (fun h15 => ?_)
              clear hK K y hV
              (try simp only [Act.put, List.setIfInBounds_toArray, List.set_cons_zero, List.set_cons_succ])
              refine wpAnyH_ready (rs := [13]) (by kernel_rfl) (by simp) ?_
              refine AllReadyH.cons (o := ?_) ?_ (fun K hK => ?_) AllReadyH.nil
              rotate_left
              · simp only [List.getElem?_toArray, List.getElem?_cons_zero, List.getElem?_cons_succ]; rfl
              obtain ⟨V16, hV⟩ : ∃ V16, V16 = Lib.bytesWorld V15 5 ⟨(zL kz).toArray⟩ := ⟨_, rfl⟩
              have y : Ext V15 V16 := by rw [hV]; exact ext_bytes _ _
              have CNV := Lib.hid (show SeenB V16 (some ⟨V15.heap.size, 0, none⟩) (zL kz) by rw [hV]; exact conv_seen _ _)
              have rc := Lib.run_convert_string_bytes (P := Tryd.prog) V15 9 26 5 ⟨(zL kz).toArray⟩ Tryd.underlying9 Tryd.underlying26 Tryd.underlying5
              obtain ⟨cv16, hcv⟩ : ∃ cv, cv = grownCap V15 (⟨(zL kz).toArray⟩ : ByteArray).size 0 5 := ⟨_, rfl⟩
              rw [← hV, ← hcv, HSZ.out] at rc
              clear hcv
              have HV := Lib.hid hV
              clear hV
              have OWN := Lib.hid (OWN.out.over y)
              have BOX := Lib.hid (BOX.out.ext y)
              have X := Lib.hid (X.out.trans y)
              go_simp
              refine hK.out _ _ X.out (fun h16 => ?_)
              clear hK K y HV rc
              (try simp only [Act.put, List.setIfInBounds_toArray, List.set_cons_zero, List.set_cons_succ])
              refine wpAnyH_ready (rs := [14]) (by kernel_rfl) (by simp) ?_
              refine AllReadyH.cons (o := ?_) ?_ (fun K hK => ?_) AllReadyH.nil
              rotate_left
              · simp only [List.getElem?_toArray, List.getElem?_cons_zero, List.getElem?_cons_succ]; rfl
              obtain ⟨v17, V17, rn, on, gn, bn⟩ := run_bytes14 OWN.out (some ⟨V15.heap.size, 0, none⟩) (lz) (cv16) (zL kz) (CNV.out) (HLZ.out) (BD.out) 26
              refine step_ran (.tmp 80) (.tmp 89) rfl (by kernel_rfl) rn ?_
              have BOX := Lib.hid (bn _ _ BOX.out)
              have X := Lib.hid on.2
              have OWN := Lib.hid on
              refine hK.out _ _ X.out (fun h17 => ?_)
              clear hK K rn on gn bn
              (try simp only [Act.put, List.setIfInBounds_toArray, List.set_cons_zero, List.set_cons_succ])
              refine wpAnyH_ready (rs := [15]) (by kernel_rfl) (by simp) ?_
              refine AllReadyH.cons (o := ?_) ?_ (fun K hK => ?_) AllReadyH.nil
              rotate_left
              · simp only [List.getElem?_toArray, List.getElem?_cons_zero, List.getElem?_cons_succ]; rfl
              have ow := OWN.out
              rw [RE.out] at ow
              obtain ⟨A6, c6, hv, hc6, hs6⟩ := ow.seen
              clear ow
              subst hv
              have PQ := Lib.hid (parse_new A6 _ _ c6 V17 hs6 rfl (BT.out) hc6 (HT.out.ext X.out))
              clear hs6 hc6
              go_simp
              refine PQ.out.mono ?_
              rintro e V18 ⟨A7, c7, rfl, y, _, sn7, fr7⟩
              have SN7 := Lib.hid sn7
              have NE := Lib.hid (show ∀ ad, A7 = some ad → V2.heap.size ≠ ad.block from fun ad e => by have := fr7 ad e; have := BOX.out.lt; omega)
              have F7 := Lib.hid (fun (cs : List Value) => seenP_sets NE.out cs 0 _ sn7)
              have BOX := Lib.hid (BOX.out.ext y)
              have X := Lib.hid (X.out.trans y)
              refine hK.out _ _ X.out (fun h18 => ?_)
              clear hK K y sn7 fr7 PQ OWN
              (try simp only [Act.put, List.setIfInBounds_toArray, List.set_cons_zero, List.set_cons_succ])
              refine wpAnyH_take (i := 16) (oi := ?_) (v := ?_) ?_ (by kernel_rfl) (by kernel_rfl) (by kernel_rfl) ?_ ?_ h18 ?_
              rotate_left 2
              · simp only [List.getElem?_toArray, List.getElem?_cons_zero, List.getElem?_cons_succ]; rfl
              · exact fun _ _ _ h => h
              · refine Or.inl ⟨by rfl, ?_⟩
                intro w hSw
                (try dsimp only at hSw)
                go_simp
                (try with_reducible rfl)
              (try simp only [Act.put, List.setIfInBounds_toArray, List.set_cons_zero, List.set_cons_succ])
              refine wpAnyH_take (i := 17) (oi := ?_) (v := ?_) ?_ (by kernel_rfl) (by kernel_rfl) (by kernel_rfl) ?_ ?_ h18 ?_
              rotate_left 2
              · simp only [List.getElem?_toArray, List.getElem?_cons_zero, List.getElem?_cons_succ]; rfl
              · exact fun _ _ _ h => h
              · refine Or.inl ⟨by rfl, ?_⟩
                intro w hSw
                (try dsimp only at hSw)
                go_simp
                (try with_reducible rfl)
              (try simp only [Act.put, List.setIfInBounds_toArray, List.set_cons_zero, List.set_cons_succ])
              refine wpAnyH_take (i := 18) (oi := ?_) (v := ?_) ?_ (by kernel_rfl) (by kernel_rfl) (by kernel_rfl) ?_ ?_ h18 ?_
              rotate_left 2
              · simp only [List.getElem?_toArray, List.getElem?_cons_zero, List.getElem?_cons_succ]; rfl
              · exact fun _ _ _ h => h
              · refine Or.inl ⟨by rfl, ?_⟩
                intro w hSw
                (try dsimp only at hSw)
                go_simp
                (try with_reducible rfl)
              (try simp only [Act.put, List.setIfInBounds_toArray, List.set_cons_zero, List.set_cons_succ])
              refine wpAnyH_ready (rs := [20]) (by kernel_rfl) (by simp) ?_
              refine AllReadyH.cons (o := ?_) ?_ (fun K hK => ?_) AllReadyH.nil
              rotate_left
              · simp only [List.getElem?_toArray, List.getElem?_cons_zero, List.getElem?_cons_succ]; rfl
              refine step_store 24 (.tmp 16) (.tmp 92) rfl (V2.heap.size) _ rfl rfl BOX.out.there lay_info (all_oneCell_toArray (layC_one _ _ _)) (by kernel_rfl) ?_
              obtain ⟨V19, hV⟩ : ∃ V19, V19 = V18.setCells (V2.heap.size) 0 (layC (lP R) A7 c7) := ⟨_, rfl⟩
              have X := Lib.hid (show Ext w5b V19 by rw [hV]; exact ext_setCells BLE.out _ _ _ X.out)
              have K7 := Lib.hid (show Blk V19 (V2.heap.size) 24 (layC (lP R) A7 c7) by rw [hV]; exact blk_setCells BOX.out _ rfl)
              have S7 := Lib.hid (show SeenP V19 A7 (lP R).n (lP R).sh by rw [hV]; exact F7.out _)
              (try change K _ (V18.setCells (V2.heap.size) 0 (layC (lP R) A7 c7)))
              rw [← hV]
              refine hK.out _ _ X.out (fun h19 => ?_)
              clear hK K hV
              (try simp only [Act.put])
              refine wpAnyH_take (i := 21) (oi := ?_) (v := ?_) ?_ (by kernel_rfl) (by kernel_rfl) (by kernel_rfl) ?_ ?_ h19 ?_
              rotate_left 2
              · simp only [List.getElem?_toArray, List.getElem?_cons_zero, List.getElem?_cons_succ]; rfl
              · exact fun _ _ _ h => h
              · refine Or.inl ⟨by rfl, ?_⟩
                intro w hSw
                (try dsimp only at hSw)
                go_simp
                (try with_reducible rfl)
              (try simp only [Act.put, List.setIfInBounds_toArray, List.set_cons_zero, List.set_cons_succ])
              refine wpAnyH_done (by kernel_rfl) ?_ _
              refine NoPanic.normal ?_
              clear OK PR
              go_wp2_with fail
              go_meet
              exact ⟨V2.heap.size, A7, c7, _, rfl, rfl, K7.out, S7.out, X.out, rfl⟩
          · refine AllReadyH.cons (o := ?_) ?_ (fun K hK => ?_) ?_
            rotate_left
            · simp only [List.getElem?_toArray, List.getElem?_cons_zero, List.getElem?_cons_succ]; rfl
            · skip
              obtain ⟨V20, hV⟩ : ∃ V20, V20 = Lib.bytesWorld V1 5 ⟨(zL kz).toArray⟩ := ⟨_, rfl⟩
              have y : Ext V1 V20 := by rw [hV]; exact ext_bytes _ _
              have CNV := Lib.hid (show SeenB V20 (some ⟨V1.heap.size, 0, none⟩) (zL kz) by rw [hV]; exact conv_seen _ _)
              have rc := Lib.run_convert_string_bytes (P := Tryd.prog) V1 9 26 5 ⟨(zL kz).toArray⟩ Tryd.underlying9 Tryd.underlying26 Tryd.underlying5
              obtain ⟨cv20, hcv⟩ : ∃ cv, cv = grownCap V1 (⟨(zL kz).toArray⟩ : ByteArray).size 0 5 := ⟨_, rfl⟩
              rw [← hV, ← hcv, HSZ.out] at rc
              clear hcv
              have HV := Lib.hid hV
              clear hV
              have OWN := Lib.hid (OWN.out.over y)
              have CNE := Lib.hid (show ¬ V0.heap.size = V1.heap.size from Nat.ne_of_lt OLT.out)
              have OLT := Lib.hid (Nat.lt_of_lt_of_le OLT.out y.size)
              have X := Lib.hid (X.out.trans y)
              go_simp
              refine hK.out _ _ X.out (fun h20 => ?_)
              clear hK K y HV rc
              (try simp only [Act.put, List.setIfInBounds_toArray, List.set_cons_zero, List.set_cons_succ])
              refine wpAnyH_ready (rs := [4, 19]) (by kernel_rfl) (by simp) ?_
              refine AllReadyH.cons (o := ?_) ?_ (fun K hK => ?_) ?_
              rotate_left
              · simp only [List.getElem?_toArray, List.getElem?_cons_zero, List.getElem?_cons_succ]; rfl
              · skip
                obtain ⟨v21, V21, rn, on, gn, bn⟩ := run_bytes14 OWN.out (A2) (at') (c2) (T.take at') (TAKE.out _ X.out) (NT.out) (BC.out) 26
                refine step_ran (.tmp 76) (.tmp 79) rfl (by kernel_rfl) rn ?_
                have CNV := Lib.hid (seen_grown CNV.out gn CNE.out)
                have X := Lib.hid on.2
                have OWN := Lib.hid on
                refine hK.out _ _ X.out (fun h21 => ?_)
                clear hK K rn on gn bn
                (try simp only [Act.put, List.setIfInBounds_toArray, List.set_cons_zero, List.set_cons_succ])
                refine wpAnyH_ready (rs := [14, 19]) (by kernel_rfl) (by simp) ?_
                refine AllReadyH.cons (o := ?_) ?_ (fun K hK => ?_) ?_
                rotate_left
                · simp only [List.getElem?_toArray, List.getElem?_cons_zero, List.getElem?_cons_succ]; rfl
                · skip
                  obtain ⟨v22, V22, rn, on, gn, bn⟩ := run_bytes14 OWN.out (some ⟨V1.heap.size, 0, none⟩) (lz) (cv20) (zL kz) (CNV.out) (HLZ.out) (BD.out) 26
                  refine step_ran (.tmp 80) (.tmp 89) rfl (by kernel_rfl) rn ?_
                  have X := Lib.hid on.2
                  have OWN := Lib.hid on
                  refine hK.out _ _ X.out (fun h22 => ?_)
                  clear hK K rn on gn bn
                  (try simp only [Act.put, List.setIfInBounds_toArray, List.set_cons_zero, List.set_cons_succ])
                  refine wpAnyH_ready (rs := [15, 19]) (by kernel_rfl) (by simp) ?_
                  refine AllReadyH.cons (o := ?_) ?_ (fun K hK => ?_) ?_
                  rotate_left
                  · simp only [List.getElem?_toArray, List.getElem?_cons_zero, List.getElem?_cons_succ]; rfl
                  · skip
                    have ow := OWN.out
                    rw [RE.out] at ow
                    obtain ⟨A6, c6, hv, hc6, hs6⟩ := ow.seen
                    clear ow
                    subst hv
                    have PQ := Lib.hid (parse_new A6 _ _ c6 V22 hs6 rfl (BT.out) hc6 (HT.out.ext X.out))
                    clear hs6 hc6
                    go_simp
                    refine PQ.out.mono ?_
                    rintro e V23 ⟨A7, c7, rfl, y, _, sn7, fr7⟩
                    have SN7 := Lib.hid sn7
                    have X := Lib.hid (X.out.trans y)
                    refine hK.out _ _ X.out (fun h23 => ?_)
                    clear hK K y sn7 fr7 PQ OWN
                    (try simp only [Act.put, List.setIfInBounds_toArray, List.set_cons_zero, List.set_cons_succ])
                    refine wpAnyH_take (i := 16) (oi := ?_) (v := ?_) ?_ (by kernel_rfl) (by kernel_rfl) (by kernel_rfl) ?_ ?_ h23 ?_
                    rotate_left 2
                    · simp only [List.getElem?_toArray, List.getElem?_cons_zero, List.getElem?_cons_succ]; rfl
                    · exact fun _ _ _ h => h
                    · refine Or.inl ⟨by rfl, ?_⟩
                      intro w hSw
                      (try dsimp only at hSw)
                      go_simp
                      (try with_reducible rfl)
                    (try simp only [Act.put, List.setIfInBounds_toArray, List.set_cons_zero, List.set_cons_succ])
                    refine wpAnyH_take (i := 17) (oi := ?_) (v := ?_) ?_ (by kernel_rfl) (by kernel_rfl) (by kernel_rfl) ?_ ?_ h23 ?_
                    rotate_left 2
                    · simp only [List.getElem?_toArray, List.getElem?_cons_zero, List.getElem?_cons_succ]; rfl
                    · exact fun _ _ _ h => h
                    · refine Or.inl ⟨by rfl, ?_⟩
                      intro w hSw
                      (try dsimp only at hSw)
                      go_simp
                      (try with_reducible rfl)
                    (try simp only [Act.put, List.setIfInBounds_toArray, List.set_cons_zero, List.set_cons_succ])
                    refine wpAnyH_take (i := 18) (oi := ?_) (v := ?_) ?_ (by kernel_rfl) (by kernel_rfl) (by kernel_rfl) ?_ ?_ h23 ?_
                    rotate_left 2
                    · simp only [List.getElem?_toArray, List.getElem?_cons_zero, List.getElem?_cons_succ]; rfl
                    · exact fun _ _ _ h => h
                    · refine Or.inl ⟨by rfl, ?_⟩
                      intro w hSw
                      (try dsimp only at hSw)
                      go_simp
                      (try with_reducible rfl)
                    (try simp only [Act.put, List.setIfInBounds_toArray, List.set_cons_zero, List.set_cons_succ])
                    refine wpAnyH_ready (rs := [19]) (by kernel_rfl) (by simp) ?_
                    refine AllReadyH.cons (o := ?_) ?_ (fun K hK => ?_) AllReadyH.nil
                    rotate_left
                    · simp only [List.getElem?_toArray, List.getElem?_cons_zero, List.getElem?_cons_succ]; rfl
                    obtain ⟨V24, hV⟩ : ∃ V24, V24 = V23.alloc (.cells #[.int .i64 0, .int .i64 0, .int .i64 0, .int .i64 0, .slice none 0 0, .int .i64 0, .int .i64 0, .int .i64 0, .int .i64 0, .int .i64 0, .int .i64 0, .int .i64 0, .int .i64 0, .int .i64 0, .int .i64 0, .int .i64 0, .int .i64 0, .int .i64 0, .int .i64 0, .int .i64 0, .int .i64 0] 24) := ⟨_, rfl⟩
                    have y : Ext V23 V24 := by rw [hV]; exact (Ext.refl _).alloc _
                    have BOX := Lib.hid (show Blk V24 V23.heap.size 24 Z21 by rw [hV]; exact Blk.lit _ _ _ _ rfl)
                    have BLE := Lib.hid (show w5b.heap.size ≤ V23.heap.size from X.out.size)
                    have F7 := Lib.hid (fun (cs : List Value) => SN7.out.ext (ext_setCells (Nat.le_refl V23.heap.size) cs 0 _ y))
                    have X := Lib.hid (X.out.trans y)
                    go_simp
                    rw [← hV]
                    refine hK.out _ _ X.out (fun h24 => ?_)
                    clear hK K y hV
                    (try simp only [Act.put, List.setIfInBounds_toArray, List.set_cons_zero, List.set_cons_succ])
                    refine wpAnyH_ready (rs := [20]) (by kernel_rfl) (by simp) ?_
                    refine AllReadyH.cons (o := ?_) ?_ (fun K hK => ?_) AllReadyH.nil
                    rotate_left
                    · simp only [List.getElem?_toArray, List.getElem?_cons_zero, List.getElem?_cons_succ]; rfl
                    refine step_store 24 (.tmp 16) (.tmp 92) rfl (V23.heap.size) _ rfl rfl BOX.out.there lay_info (all_oneCell_toArray (layC_one _ _ _)) (by kernel_rfl) ?_
                    obtain ⟨V25, hV⟩ : ∃ V25, V25 = V24.setCells (V23.heap.size) 0 (layC (lP R) A7 c7) := ⟨_, rfl⟩
                    have X := Lib.hid (show Ext w5b V25 by rw [hV]; exact ext_setCells BLE.out _ _ _ X.out)
                    have K7 := Lib.hid (show Blk V25 (V23.heap.size) 24 (layC (lP R) A7 c7) by rw [hV]; exact blk_setCells BOX.out _ rfl)
                    have S7 := Lib.hid (show SeenP V25 A7 (lP R).n (lP R).sh by rw [hV]; exact F7.out _)
                    (try change K _ (V24.setCells (V23.heap.size) 0 (layC (lP R) A7 c7)))
                    rw [← hV]
                    refine hK.out _ _ X.out (fun h25 => ?_)
                    clear hK K hV
                    (try simp only [Act.put])
                    refine wpAnyH_take (i := 21) (oi := ?_) (v := ?_) ?_ (by kernel_rfl) (by kernel_rfl) (by kernel_rfl) ?_ ?_ h25 ?_
                    rotate_left 2
                    · simp only [List.getElem?_toArray, List.getElem?_cons_zero, List.getElem?_cons_succ]; rfl
                    · exact fun _ _ _ h => h
                    · refine Or.inl ⟨by rfl, ?_⟩
                      intro w hSw
                      (try dsimp only at hSw)
                      go_simp
                      (try with_reducible rfl)
                    (try simp only [Act.put, List.setIfInBounds_toArray, List.set_cons_zero, List.set_cons_succ])
                    refine wpAnyH_done (by kernel_rfl) ?_ _
                    refine NoPanic.normal ?_
                    clear OK PR
                    go_wp2_with fail
                    go_meet
                    exact ⟨V23.heap.size, A7, c7, _, rfl, rfl, K7.out, S7.out, X.out, rfl⟩
                  · refine AllReadyH.cons (o := ?_) ?_ (fun K hK => ?_) AllReadyH.nil
                    rotate_left
                    · simp only [List.getElem?_toArray, List.getElem?_cons_zero, List.getElem?_cons_succ]; rfl
                    obtain ⟨V26, hV⟩ : ∃ V26, V26 = V22.alloc (.cells #[.int .i64 0, .int .i64 0, .int .i64 0, .int .i64 0, .slice none 0 0, .int .i64 0, .int .i64 0, .int .i64 0, .int .i64 0, .int .i64 0, .int .i64 0, .int .i64 0, .int .i64 0, .int .i64 0, .int .i64 0, .int .i64 0, .int .i64 0, .int .i64 0, .int .i64 0, .int .i64 0, .int .i64 0] 24) := ⟨_, rfl⟩
                    have y : Ext V22 V26 := by rw [hV]; exact (Ext.refl _).alloc _
                    have BOX := Lib.hid (show Blk V26 V22.heap.size 24 Z21 by rw [hV]; exact Blk.lit _ _ _ _ rfl)
                    have BLE := Lib.hid (show w5b.heap.size ≤ V22.heap.size from X.out.size)
                    have OWN := Lib.hid (OWN.out.over y)
                    have X := Lib.hid (X.out.trans y)
                    go_simp
                    rw [← hV]
                    refine hK.out _ _ X.out (fun h26 => ?_)
                    clear hK K y hV
                    (try simp only [Act.put, List.setIfInBounds_toArray, List.set_cons_zero, List.set_cons_succ])
                    refine wpAnyH_ready (rs := [15]) (by kernel_rfl) (by simp) ?_
                    refine AllReadyH.cons (o := ?_) ?_ (fun K hK => ?_) AllReadyH.nil
                    rotate_left
                    · simp only [List.getElem?_toArray, List.getElem?_cons_zero, List.getElem?_cons_succ]; rfl
                    have ow := OWN.out
                    rw [RE.out] at ow
                    obtain ⟨A6, c6, hv, hc6, hs6⟩ := ow.seen
                    clear ow
                    subst hv
                    have PQ := Lib.hid (parse_new A6 _ _ c6 V26 hs6 rfl (BT.out) hc6 (HT.out.ext X.out))
                    clear hs6 hc6
                    go_simp
                    refine PQ.out.mono ?_
                    rintro e V27 ⟨A7, c7, rfl, y, _, sn7, fr7⟩
                    have SN7 := Lib.hid sn7
                    have NE := Lib.hid (show ∀ ad, A7 = some ad → V22.heap.size ≠ ad.block from fun ad e => by have := fr7 ad e; have := BOX.out.lt; omega)
                    have F7 := Lib.hid (fun (cs : List Value) => seenP_sets NE.out cs 0 _ sn7)
                    have BOX := Lib.hid (BOX.out.ext y)
                    have X := Lib.hid (X.out.trans y)
                    refine hK.out _ _ X.out (fun h27 => ?_)
                    clear hK K y sn7 fr7 PQ OWN
                    (try simp only [Act.put, List.setIfInBounds_toArray, List.set_cons_zero, List.set_cons_succ])
                    refine wpAnyH_take (i := 16) (oi := ?_) (v := ?_) ?_ (by kernel_rfl) (by kernel_rfl) (by kernel_rfl) ?_ ?_ h27 ?_
                    rotate_left 2
                    · simp only [List.getElem?_toArray, List.getElem?_cons_zero, List.getElem?_cons_succ]; rfl
                    · exact fun _ _ _ h => h
                    · refine Or.inl ⟨by rfl, ?_⟩
                      intro w hSw
                      (try dsimp only at hSw)
                      go_simp
                      (try with_reducible rfl)
                    (try simp only [Act.put, List.setIfInBounds_toArray, List.set_cons_zero, List.set_cons_succ])
                    refine wpAnyH_take (i := 17) (oi := ?_) (v := ?_) ?_ (by kernel_rfl) (by kernel_rfl) (by kernel_rfl) ?_ ?_ h27 ?_
                    rotate_left 2
                    · simp only [List.getElem?_toArray, List.getElem?_cons_zero, List.getElem?_cons_succ]; rfl
                    · exact fun _ _ _ h => h
                    · refine Or.inl ⟨by rfl, ?_⟩
                      intro w hSw
                      (try dsimp only at hSw)
                      go_simp
                      (try with_reducible rfl)
                    (try simp only [Act.put, List.setIfInBounds_toArray, List.set_cons_zero, List.set_cons_succ])
                    refine wpAnyH_take (i := 18) (oi := ?_) (v := ?_) ?_ (by kernel_rfl) (by kernel_rfl) (by kernel_rfl) ?_ ?_ h27 ?_
                    rotate_left 2
                    · simp only [List.getElem?_toArray, List.getElem?_cons_zero, List.getElem?_cons_succ]; rfl
                    · exact fun _ _ _ h => h
                    · refine Or.inl ⟨by rfl, ?_⟩
                      intro w hSw
                      (try dsimp only at hSw)
                      go_simp
                      (try with_reducible rfl)
                    (try simp only [Act.put, List.setIfInBounds_toArray, List.set_cons_zero, List.set_cons_succ])
                    refine wpAnyH_ready (rs := [20]) (by kernel_rfl) (by simp) ?_
                    refine AllReadyH.cons (o := ?_) ?_ (fun K hK => ?_) AllReadyH.nil
                    rotate_left
                    · simp only [List.getElem?_toArray, List.getElem?_cons_zero, List.getElem?_cons_succ]; rfl
                    refine step_store 24 (.tmp 16) (.tmp 92) rfl (V22.heap.size) _ rfl rfl BOX.out.there lay_info (all_oneCell_toArray (layC_one _ _ _)) (by kernel_rfl) ?_
                    obtain ⟨V28, hV⟩ : ∃ V28, V28 = V27.setCells (V22.heap.size) 0 (layC (lP R) A7 c7) := ⟨_, rfl⟩
                    have X := Lib.hid (show Ext w5b V28 by rw [hV]; exact ext_setCells BLE.out _ _ _ X.out)
                    have K7 := Lib.hid (show Blk V28 (V22.heap.size) 24 (layC (lP R) A7 c7) by rw [hV]; exact blk_setCells BOX.out _ rfl)
                    have S7 := Lib.hid (show SeenP V28 A7 (lP R).n (lP R).sh by rw [hV]; exact F7.out _)
                    (try change K _ (V27.setCells (V22.heap.size) 0 (layC (lP R) A7 c7)))
                    rw [← hV]
                    refine hK.out _ _ X.out (fun h28 => ?_)
                    clear hK K hV
                    (try simp only [Act.put])
                    refine wpAnyH_take (i := 21) (oi := ?_) (v := ?_) ?_ (by kernel_rfl) (by kernel_rfl) (by kernel_rfl) ?_ ?_ h28 ?_
                    rotate_left 2
                    · simp only [List.getElem?_toArray, List.getElem?_cons_zero, List.getElem?_cons_succ]; rfl
                    · exact fun _ _ _ h => h
                    · refine Or.inl ⟨by rfl, ?_⟩
                      intro w hSw
                      (try dsimp only at hSw)
                      go_simp
                      (try with_reducible rfl)
                    (try simp only [Act.put, List.setIfInBounds_toArray, List.set_cons_zero, List.set_cons_succ])
                    refine wpAnyH_done (by kernel_rfl) ?_ _
                    refine NoPanic.normal ?_
                    clear OK PR
                    go_wp2_with fail
                    go_meet
                    exact ⟨V22.heap.size, A7, c7, _, rfl, rfl, K7.out, S7.out, X.out, rfl⟩
                · refine AllReadyH.cons (o := ?_) ?_ (fun K hK => ?_) AllReadyH.nil
                  rotate_left
                  · simp only [List.getElem?_toArray, List.getElem?_cons_zero, List.getElem?_cons_succ]; rfl
                  obtain ⟨V29, hV⟩ : ∃ V29, V29 = V21.alloc (.cells #[.int .i64 0, .int .i64 0, .int .i64 0, .int .i64 0, .slice none 0 0, .int .i64 0, .int .i64 0, .int .i64 0, .int .i64 0, .int .i64 0, .int .i64 0, .int .i64 0, .int .i64 0, .int .i64 0, .int .i64 0, .int .i64 0, .int .i64 0, .int .i64 0, .int .i64 0, .int .i64 0, .int .i64 0] 24) := ⟨_, rfl⟩
                  have y : Ext V21 V29 := by rw [hV]; exact (Ext.refl _).alloc _
                  have BOX := Lib.hid (show Blk V29 V21.heap.size 24 Z21 by rw [hV]; exact Blk.lit _ _ _ _ rfl)
                  have BLE := Lib.hid (show w5b.heap.size ≤ V21.heap.size from X.out.size)
                  have OWN := Lib.hid (OWN.out.over y)
                  have CNV := Lib.hid (CNV.out.ext y)
                  have X := Lib.hid (X.out.trans y)
                  go_simp
                  rw [← hV]
                  refine hK.out _ _ X.out (fun h29 => ?_)
                  clear hK K y hV
                  (try simp only [Act.put, List.setIfInBounds_toArray, List.set_cons_zero, List.set_cons_succ])
                  refine wpAnyH_ready (rs := [14]) (by kernel_rfl) (by simp) ?_
                  refine AllReadyH.cons (o := ?_) ?_ (fun K hK => ?_) AllReadyH.nil
                  rotate_left
                  · simp only [List.getElem?_toArray, List.getElem?_cons_zero, List.getElem?_cons_succ]; rfl
                  obtain ⟨v30, V30, rn, on, gn, bn⟩ := run_bytes14 OWN.out (some ⟨V1.heap.size, 0, none⟩) (lz) (cv20) (zL kz) (CNV.out) (HLZ.out) (BD.out) 26
                  refine step_ran (.tmp 80) (.tmp 89) rfl (by kernel_rfl) rn ?_
                  have BOX := Lib.hid (bn _ _ BOX.out)
                  have X := Lib.hid on.2
                  have OWN := Lib.hid on
                  refine hK.out _ _ X.out (fun h30 => ?_)
                  clear hK K rn on gn bn
                  (try simp only [Act.put, List.setIfInBounds_toArray, List.set_cons_zero, List.set_cons_succ])
                  refine wpAnyH_ready (rs := [15]) (by kernel_rfl) (by simp) ?_
                  refine AllReadyH.cons (o := ?_) ?_ (fun K hK => ?_) AllReadyH.nil
                  rotate_left
                  · simp only [List.getElem?_toArray, List.getElem?_cons_zero, List.getElem?_cons_succ]; rfl
                  have ow := OWN.out
                  rw [RE.out] at ow
                  obtain ⟨A6, c6, hv, hc6, hs6⟩ := ow.seen
                  clear ow
                  subst hv
                  have PQ := Lib.hid (parse_new A6 _ _ c6 V30 hs6 rfl (BT.out) hc6 (HT.out.ext X.out))
                  clear hs6 hc6
                  go_simp
                  refine PQ.out.mono ?_
                  rintro e V31 ⟨A7, c7, rfl, y, _, sn7, fr7⟩
                  have SN7 := Lib.hid sn7
                  have NE := Lib.hid (show ∀ ad, A7 = some ad → V21.heap.size ≠ ad.block from fun ad e => by have := fr7 ad e; have := BOX.out.lt; omega)
                  have F7 := Lib.hid (fun (cs : List Value) => seenP_sets NE.out cs 0 _ sn7)
                  have BOX := Lib.hid (BOX.out.ext y)
                  have X := Lib.hid (X.out.trans y)
                  refine hK.out _ _ X.out (fun h31 => ?_)
                  clear hK K y sn7 fr7 PQ OWN
                  (try simp only [Act.put, List.setIfInBounds_toArray, List.set_cons_zero, List.set_cons_succ])
                  refine wpAnyH_take (i := 16) (oi := ?_) (v := ?_) ?_ (by kernel_rfl) (by kernel_rfl) (by kernel_rfl) ?_ ?_ h31 ?_
                  rotate_left 2
                  · simp only [List.getElem?_toArray, List.getElem?_cons_zero, List.getElem?_cons_succ]; rfl
                  · exact fun _ _ _ h => h
                  · refine Or.inl ⟨by rfl, ?_⟩
                    intro w hSw
                    (try dsimp only at hSw)
                    go_simp
                    (try with_reducible rfl)
                  (try simp only [Act.put, List.setIfInBounds_toArray, List.set_cons_zero, List.set_cons_succ])
                  refine wpAnyH_take (i := 17) (oi := ?_) (v := ?_) ?_ (by kernel_rfl) (by kernel_rfl) (by kernel_rfl) ?_ ?_ h31 ?_
                  rotate_left 2
                  · simp only [List.getElem?_toArray, List.getElem?_cons_zero, List.getElem?_cons_succ]; rfl
                  · exact fun _ _ _ h => h
                  · refine Or.inl ⟨by rfl, ?_⟩
                    intro w hSw
                    (try dsimp only at hSw)
                    go_simp
                    (try with_reducible rfl)
                  (try simp only [Act.put, List.setIfInBounds_toArray, List.set_cons_zero, List.set_cons_succ])
                  refine wpAnyH_take (i := 18) (oi := ?_) (v := ?_) ?_ (by kernel_rfl) (by kernel_rfl) (by kernel_rfl) ?_ ?_ h31 ?_
                  rotate_left 2
                  · simp only [List.getElem?_toArray, List.getElem?_cons_zero, List.getElem?_cons_succ]; rfl
                  · exact fun _ _ _ h => h
                  · refine Or.inl ⟨by rfl, ?_⟩
                    intro w hSw
                    (try dsimp only at hSw)
                    go_simp
                    (try with_reducible rfl)
                  (try simp only [Act.put, List.setIfInBounds_toArray, List.set_cons_zero, List.set_cons_succ])
                  refine wpAnyH_ready (rs := [20]) (by kernel_rfl) (by simp) ?_
                  refine AllReadyH.cons (o := ?_) ?_ (fun K hK => ?_) AllReadyH.nil
                  rotate_left
                  · simp only [List.getElem?_toArray, List.getElem?_cons_zero, List.getElem?_cons_succ]; rfl
                  refine step_store 24 (.tmp 16) (.tmp 92) rfl (V21.heap.size) _ rfl rfl BOX.out.there lay_info (all_oneCell_toArray (layC_one _ _ _)) (by kernel_rfl) ?_
                  obtain ⟨V32, hV⟩ : ∃ V32, V32 = V31.setCells (V21.heap.size) 0 (layC (lP R) A7 c7) := ⟨_, rfl⟩
                  have X := Lib.hid (show Ext w5b V32 by rw [hV]; exact ext_setCells BLE.out _ _ _ X.out)
                  have K7 := Lib.hid (show Blk V32 (V21.heap.size) 24 (layC (lP R) A7 c7) by rw [hV]; exact blk_setCells BOX.out _ rfl)
                  have S7 := Lib.hid (show SeenP V32 A7 (lP R).n (lP R).sh by rw [hV]; exact F7.out _)
                  (try change K _ (V31.setCells (V21.heap.size) 0 (layC (lP R) A7 c7)))
                  rw [← hV]
                  refine hK.out _ _ X.out (fun h32 => ?_)
                  clear hK K hV
                  (try simp only [Act.put])
                  refine wpAnyH_take (i := 21) (oi := ?_) (v := ?_) ?_ (by kernel_rfl) (by kernel_rfl) (by kernel_rfl) ?_ ?_ h32 ?_
                  rotate_left 2
                  · simp only [List.getElem?_toArray, List.getElem?_cons_zero, List.getElem?_cons_succ]; rfl
                  · exact fun _ _ _ h => h
                  · refine Or.inl ⟨by rfl, ?_⟩
                    intro w hSw
                    (try dsimp only at hSw)
                    go_simp
                    (try with_reducible rfl)
                  (try simp only [Act.put, List.setIfInBounds_toArray, List.set_cons_zero, List.set_cons_succ])
                  refine wpAnyH_done (by kernel_rfl) ?_ _
                  refine NoPanic.normal ?_
                  clear OK PR
                  go_wp2_with fail
                  go_meet
                  exact ⟨V21.heap.size, A7, c7, _, rfl, rfl, K7.out, S7.out, X.out, rfl⟩
              · refine AllReadyH.cons (o := ?_) ?_ (fun K hK => ?_) AllReadyH.nil
                rotate_left
                · simp only [List.getElem?_toArray, List.getElem?_cons_zero, List.getElem?_cons_succ]; rfl
                obtain ⟨V33, hV⟩ : ∃ V33, V33 = V20.alloc (.cells #[.int .i64 0, .int .i64 0, .int .i64 0, .int .i64 0, .slice none 0 0, .int .i64 0, .int .i64 0, .int .i64 0, .int .i64 0, .int .i64 0, .int .i64 0, .int .i64 0, .int .i64 0, .int .i64 0, .int .i64 0, .int .i64 0, .int .i64 0, .int .i64 0, .int .i64 0, .int .i64 0, .int .i64 0] 24) := ⟨_, rfl⟩
                have y : Ext V20 V33 := by rw [hV]; exact (Ext.refl _).alloc _
                have BOX := Lib.hid (show Blk V33 V20.heap.size 24 Z21 by rw [hV]; exact Blk.lit _ _ _ _ rfl)
                have BLE := Lib.hid (show w5b.heap.size ≤ V20.heap.size from X.out.size)
                have OWN := Lib.hid (OWN.out.over y)
                have OLT := Lib.hid (Nat.lt_of_lt_of_le OLT.out y.size)
                have CNV := Lib.hid (CNV.out.ext y)
                have X := Lib.hid (X.out.trans y)
                go_simp
                rw [← hV]
                refine hK.out _ _ X.out (fun h33 => ?_)
                clear hK K y hV
                (try simp only [Act.put, List.setIfInBounds_toArray, List.set_cons_zero, List.set_cons_succ])
                refine wpAnyH_ready (rs := [4]) (by kernel_rfl) (by simp) ?_
                refine AllReadyH.cons (o := ?_) ?_ (fun K hK => ?_) AllReadyH.nil
                rotate_left
                · simp only [List.getElem?_toArray, List.getElem?_cons_zero, List.getElem?_cons_succ]; rfl
                obtain ⟨v34, V34, rn, on, gn, bn⟩ := run_bytes14 OWN.out (A2) (at') (c2) (T.take at') (TAKE.out _ X.out) (NT.out) (BC.out) 26
                refine step_ran (.tmp 76) (.tmp 79) rfl (by kernel_rfl) rn ?_
                have BOX := Lib.hid (bn _ _ BOX.out)
                have CNV := Lib.hid (seen_grown CNV.out gn CNE.out)
                have X := Lib.hid on.2
                have OWN := Lib.hid on
                refine hK.out _ _ X.out (fun h34 => ?_)
                clear hK K rn on gn bn
                (try simp only [Act.put, List.setIfInBounds_toArray, List.set_cons_zero, List.set_cons_succ])
                refine wpAnyH_ready (rs := [14]) (by kernel_rfl) (by simp) ?_
                refine AllReadyH.cons (o := ?_) ?_ (fun K hK => ?_) AllReadyH.nil
                rotate_left
                · simp only [List.getElem?_toArray, List.getElem?_cons_zero, List.getElem?_cons_succ]; rfl
                obtain ⟨v35, V35, rn, on, gn, bn⟩ := run_bytes14 OWN.out (some ⟨V1.heap.size, 0, none⟩) (lz) (cv20) (zL kz) (CNV.out) (HLZ.out) (BD.out) 26
                refine step_ran (.tmp 80) (.tmp 89) rfl (by kernel_rfl) rn ?_
                have BOX := Lib.hid (bn _ _ BOX.out)
                have X := Lib.hid on.2
                have OWN := Lib.hid on
                refine hK.out _ _ X.out (fun h35 => ?_)
                clear hK K rn on gn bn
                (try simp only [Act.put, List.setIfInBounds_toArray, List.set_cons_zero, List.set_cons_succ])
                refine wpAnyH_ready (rs := [15]) (by kernel_rfl) (by simp) ?_
                refine AllReadyH.cons (o := ?_) ?_ (fun K hK => ?_) AllReadyH.nil
                rotate_left
                · simp only [List.getElem?_toArray, List.getElem?_cons_zero, List.getElem?_cons_succ]; rfl
                have ow := OWN.out
                rw [RE.out] at ow
                obtain ⟨A6, c6, hv, hc6, hs6⟩ := ow.seen
                clear ow
                subst hv
                have PQ := Lib.hid (parse_new A6 _ _ c6 V35 hs6 rfl (BT.out) hc6 (HT.out.ext X.out))
                clear hs6 hc6
                go_simp
                refine PQ.out.mono ?_
                rintro e V36 ⟨A7, c7, rfl, y, _, sn7, fr7⟩
                have SN7 := Lib.hid sn7
                have NE := Lib.hid (show ∀ ad, A7 = some ad → V20.heap.size ≠ ad.block from fun ad e => by have := fr7 ad e; have := BOX.out.lt; omega)
                have F7 := Lib.hid (fun (cs : List Value) => seenP_sets NE.out cs 0 _ sn7)
                have BOX := Lib.hid (BOX.out.ext y)
                have X := Lib.hid (X.out.trans y)
                refine hK.out _ _ X.out (fun h36 => ?_)
                clear hK K y sn7 fr7 PQ OWN
                (try simp only [Act.put, List.setIfInBounds_toArray, List.set_cons_zero, List.set_cons_succ])
                refine wpAnyH_take (i := 16) (oi := ?_) (v := ?_) ?_ (by kernel_rfl) (by kernel_rfl) (by kernel_rfl) ?_ ?_ h36 ?_
                rotate_left 2
                · simp only [List.getElem?_toArray, List.getElem?_cons_zero, List.getElem?_cons_succ]; rfl
                · exact fun _ _ _ h => h
                · refine Or.inl ⟨by rfl, ?_⟩
                  intro w hSw
                  (try dsimp only at hSw)
                  go_simp
                  (try with_reducible rfl)
                (try simp only [Act.put, List.setIfInBounds_toArray, List.set_cons_zero, List.set_cons_succ])
                refine wpAnyH_take (i := 17) (oi := ?_) (v := ?_) ?_ (by kernel_rfl) (by kernel_rfl) (by kernel_rfl) ?_ ?_ h36 ?_
                rotate_left 2
                · simp only [List.getElem?_toArray, List.getElem?_cons_zero, List.getElem?_cons_succ]; rfl
                · exact fun _ _ _ h => h
                · refine Or.inl ⟨by rfl, ?_⟩
                  intro w hSw
                  (try dsimp only at hSw)
                  go_simp
                  (try with_reducible rfl)
                (try simp only [Act.put, List.setIfInBounds_toArray, List.set_cons_zero, List.set_cons_succ])
                refine wpAnyH_take (i := 18) (oi := ?_) (v := ?_) ?_ (by kernel_rfl) (by kernel_rfl) (by kernel_rfl) ?_ ?_ h36 ?_
                rotate_left 2
                · simp only [List.getElem?_toArray, List.getElem?_cons_zero, List.getElem?_cons_succ]; rfl
                · exact fun _ _ _ h => h
                · refine Or.inl ⟨by rfl, ?_⟩
                  intro w hSw
                  (try dsimp only at hSw)
                  go_simp
                  (try with_reducible rfl)
                (try simp only [Act.put, List.setIfInBounds_toArray, List.set_cons_zero, List.set_cons_succ])
                refine wpAnyH_ready (rs := [20]) (by kernel_rfl) (by simp) ?_
                refine AllReadyH.cons (o := ?_) ?_ (fun K hK => ?_) AllReadyH.nil
                rotate_left
                · simp only [List.getElem?_toArray, List.getElem?_cons_zero, List.getElem?_cons_succ]; rfl
                refine step_store 24 (.tmp 16) (.tmp 92) rfl (V20.heap.size) _ rfl rfl BOX.out.there lay_info (all_oneCell_toArray (layC_one _ _ _)) (by kernel_rfl) ?_
                obtain ⟨V37, hV⟩ : ∃ V37, V37 = V36.setCells (V20.heap.size) 0 (layC (lP R) A7 c7) := ⟨_, rfl⟩
                have X := Lib.hid (show Ext w5b V37 by rw [hV]; exact ext_setCells BLE.out _ _ _ X.out)
                have K7 := Lib.hid (show Blk V37 (V20.heap.size) 24 (layC (lP R) A7 c7) by rw [hV]; exact blk_setCells BOX.out _ rfl)
                have S7 := Lib.hid (show SeenP V37 A7 (lP R).n (lP R).sh by rw [hV]; exact F7.out _)
                (try change K _ (V36.setCells (V20.heap.size) 0 (layC (lP R) A7 c7)))
                rw [← hV]
                refine hK.out _ _ X.out (fun h37 => ?_)
                clear hK K hV
                (try simp only [Act.put])
                refine wpAnyH_take (i := 21) (oi := ?_) (v := ?_) ?_ (by kernel_rfl) (by kernel_rfl) (by kernel_rfl) ?_ ?_ h37 ?_
                rotate_left 2
                · simp only [List.getElem?_toArray, List.getElem?_cons_zero, List.getElem?_cons_succ]; rfl
                · exact fun _ _ _ h => h
                · refine Or.inl ⟨by rfl, ?_⟩
                  intro w hSw
                  (try dsimp only at hSw)
                  go_simp
                  (try with_reducible rfl)
                (try simp only [Act.put, List.setIfInBounds_toArray, List.set_cons_zero, List.set_cons_succ])
                refine wpAnyH_done (by kernel_rfl) ?_ _
                refine NoPanic.normal ?_
                clear OK PR
                go_wp2_with fail
                go_meet
                exact ⟨V20.heap.size, A7, c7, _, rfl, rfl, K7.out, S7.out, X.out, rfl⟩
            · refine AllReadyH.cons (o := ?_) ?_ (fun K hK => ?_) AllReadyH.nil
              rotate_left
              · simp only [List.getElem?_toArray, List.getElem?_cons_zero, List.getElem?_cons_succ]; rfl
              obtain ⟨V38, hV⟩ : ∃ V38, V38 = V1.alloc (.cells #[.int .i64 0, .int .i64 0, .int .i64 0, .int .i64 0, .slice none 0 0, .int .i64 0, .int .i64 0, .int .i64 0, .int .i64 0, .int .i64 0, .int .i64 0, .int .i64 0, .int .i64 0, .int .i64 0, .int .i64 0, .int .i64 0, .int .i64 0, .int .i64 0, .int .i64 0, .int .i64 0, .int .i64 0] 24) := ⟨_, rfl⟩
              have y : Ext V1 V38 := by rw [hV]; exact (Ext.refl _).alloc _
              have BOX := Lib.hid (show Blk V38 V1.heap.size 24 Z21 by rw [hV]; exact Blk.lit _ _ _ _ rfl)
              have BLE := Lib.hid (show w5b.heap.size ≤ V1.heap.size from X.out.size)
              have OWN := Lib.hid (OWN.out.over y)
              have OLT := Lib.hid (Nat.lt_of_lt_of_le OLT.out y.size)
              have X := Lib.hid (X.out.trans y)
              go_simp
              rw [← hV]
              refine hK.out _ _ X.out (fun h38 => ?_)
              clear hK K y hV
              (try simp only [Act.put, List.setIfInBounds_toArray, List.set_cons_zero, List.set_cons_succ])
              refine wpAnyH_ready (rs := [4, 13]) (by kernel_rfl) (by simp) ?_
              refine AllReadyH.cons (o := ?_) ?_ (fun K hK => ?_) ?_
              rotate_left
              · simp only [List.getElem?_toArray, List.getElem?_cons_zero, List.getElem?_cons_succ]; rfl
              · skip
                obtain ⟨v39, V39, rn, on, gn, bn⟩ := run_bytes14 OWN.out (A2) (at') (c2) (T.take at') (TAKE.out _ X.out) (NT.out) (BC.out) 26
                refine step_ran (.tmp 76) (.tmp 79) rfl (by kernel_rfl) rn ?_
                have BOX := Lib.hid (bn _ _ BOX.out)
                have X := Lib.hid on.2
                have OWN := Lib.hid on
                refine hK.out _ _ X.out (fun h39 => ?_)
                clear hK K rn on gn bn
                (try simp only [Act.put, List.setIfInBounds_toArray, List.set_cons_zero, List.set_cons_succ])
                refine wpAnyH_ready (rs := [13]) (by kernel_rfl) (by simp) ?_
                refine AllReadyH.cons (o := ?_) ?_ (fun K hK => ?_) AllReadyH.nil
                rotate_left
                · simp only [List.getElem?_toArray, List.getElem?_cons_zero, List.getElem?_cons_succ]; rfl
                obtain ⟨V40, hV⟩ : ∃ V40, V40 = Lib.bytesWorld V39 5 ⟨(zL kz).toArray⟩ := ⟨_, rfl⟩
                have y : Ext V39 V40 := by rw [hV]; exact ext_bytes _ _
                have CNV := Lib.hid (show SeenB V40 (some ⟨V39.heap.size, 0, none⟩) (zL kz) by rw [hV]; exact conv_seen _ _)
                have rc := Lib.run_convert_string_bytes (P := Tryd.prog) V39 9 26 5 ⟨(zL kz).toArray⟩ Tryd.underlying9 Tryd.underlying26 Tryd.underlying5
                obtain ⟨cv40, hcv⟩ : ∃ cv, cv = grownCap V39 (⟨(zL kz).toArray⟩ : ByteArray).size 0 5 := ⟨_, rfl⟩
                rw [← hV, ← hcv, HSZ.out] at rc
                clear hcv
                have HV := Lib.hid hV
                clear hV
                have OWN := Lib.hid (OWN.out.over y)
                have BOX := Lib.hid (BOX.out.ext y)
                have X := Lib.hid (X.out.trans y)
                go_simp
                refine hK.out _ _ X.out (fun h40 => ?_)
                clear hK K y HV rc
                (try simp only [Act.put, List.setIfInBounds_toArray, List.set_cons_zero, List.set_cons_succ])
                refine wpAnyH_ready (rs := [14]) (by kernel_rfl) (by simp) ?_
                refine AllReadyH.cons (o := ?_) ?_ (fun K hK => ?_) AllReadyH.nil
                rotate_left
                · simp only [List.getElem?_toArray, List.getElem?_cons_zero, List.getElem?_cons_succ]; rfl
                obtain ⟨v41, V41, rn, on, gn, bn⟩ := run_bytes14 OWN.out (some ⟨V39.heap.size, 0, none⟩) (lz) (cv40) (zL kz) (CNV.out) (HLZ.out) (BD.out) 26
                refine step_ran (.tmp 80) (.tmp 89) rfl (by kernel_rfl) rn ?_
                have BOX := Lib.hid (bn _ _ BOX.out)
                have X := Lib.hid on.2
                have OWN := Lib.hid on
                refine hK.out _ _ X.out (fun h41 => ?_)
                clear hK K rn on gn bn
                (try simp only [Act.put, List.setIfInBounds_toArray, List.set_cons_zero, List.set_cons_succ])
                refine wpAnyH_ready (rs := [15]) (by kernel_rfl) (by simp) ?_
                refine AllReadyH.cons (o := ?_) ?_ (fun K hK => ?_) AllReadyH.nil
                rotate_left
                · simp only [List.getElem?_toArray, List.getElem?_cons_zero, List.getElem?_cons_succ]; rfl
                have ow := OWN.out
                rw [RE.out] at ow
                obtain ⟨A6, c6, hv, hc6, hs6⟩ := ow.seen
                clear ow
                subst hv
                have PQ := Lib.hid (parse_new A6 _ _ c6 V41 hs6 rfl (BT.out) hc6 (HT.out.ext X.out))
                clear hs6 hc6
                go_simp
                refine PQ.out.mono ?_
                rintro e V42 ⟨A7, c7, rfl, y, _, sn7, fr7⟩
                have SN7 := Lib.hid sn7
                have NE := Lib.hid (show ∀ ad, A7 = some ad → V1.heap.size ≠ ad.block from fun ad e => by have := fr7 ad e; have := BOX.out.lt; omega)
                have F7 := Lib.hid (fun (cs : List Value) => seenP_sets NE.out cs 0 _ sn7)
                have BOX := Lib.hid (BOX.out.ext y)
                have X := Lib.hid (X.out.trans y)
                refine hK.out _ _ X.out (fun h42 => ?_)
                clear hK K y sn7 fr7 PQ OWN
                (try simp only [Act.put, List.setIfInBounds_toArray, List.set_cons_zero, List.set_cons_succ])
                refine wpAnyH_take (i := 16) (oi := ?_) (v := ?_) ?_ (by kernel_rfl) (by kernel_rfl) (by kernel_rfl) ?_ ?_ h42 ?_
                rotate_left 2
                · simp only [List.getElem?_toArray, List.getElem?_cons_zero, List.getElem?_cons_succ]; rfl
                · exact fun _ _ _ h => h
                · refine Or.inl ⟨by rfl, ?_⟩
                  intro w hSw
                  (try dsimp only at hSw)
                  go_simp
                  (try with_reducible rfl)
                (try simp only [Act.put, List.setIfInBounds_toArray, List.set_cons_zero, List.set_cons_succ])
                refine wpAnyH_take (i := 17) (oi := ?_) (v := ?_) ?_ (by kernel_rfl) (by kernel_rfl) (by kernel_rfl) ?_ ?_ h42 ?_
                rotate_left 2
                · simp only [List.getElem?_toArray, List.getElem?_cons_zero, List.getElem?_cons_succ]; rfl
                · exact fun _ _ _ h => h
                · refine Or.inl ⟨by rfl, ?_⟩
                  intro w hSw
                  (try dsimp only at hSw)
                  go_simp
                  (try with_reducible rfl)
                (try simp only [Act.put, List.setIfInBounds_toArray, List.set_cons_zero, List.set_cons_succ])
                refine wpAnyH_take (i := 18) (oi := ?_) (v := ?_) ?_ (by kernel_rfl) (by kernel_rfl) (by kernel_rfl) ?_ ?_ h42 ?_
                rotate_left 2
                · simp only [List.getElem?_toArray, List.getElem?_cons_zero, List.getElem?_cons_succ]; rfl
                · exact fun _ _ _ h => h
                · refine Or.inl ⟨by rfl, ?_⟩
                  intro w hSw
                  (try dsimp only at hSw)
                  go_simp
                  (try with_reducible rfl)
                (try simp only [Act.put, List.setIfInBounds_toArray, List.set_cons_zero, List.set_cons_succ])
                refine wpAnyH_ready (rs := [20]) (by kernel_rfl) (by simp) ?_
                refine AllReadyH.cons (o := ?_) ?_ (fun K hK => ?_) AllReadyH.nil
                rotate_left
                · simp only [List.getElem?_toArray, List.getElem?_cons_zero, List.getElem?_cons_succ]; rfl
                refine step_store 24 (.tmp 16) (.tmp 92) rfl (V1.heap.size) _ rfl rfl BOX.out.there lay_info (all_oneCell_toArray (layC_one _ _ _)) (by kernel_rfl) ?_
                obtain ⟨V43, hV⟩ : ∃ V43, V43 = V42.setCells (V1.heap.size) 0 (layC (lP R) A7 c7) := ⟨_, rfl⟩
                have X := Lib.hid (show Ext w5b V43 by rw [hV]; exact ext_setCells BLE.out _ _ _ X.out)
                have K7 := Lib.hid (show Blk V43 (V1.heap.size) 24 (layC (lP R) A7 c7) by rw [hV]; exact blk_setCells BOX.out _ rfl)
                have S7 := Lib.hid (show SeenP V43 A7 (lP R).n (lP R).sh by rw [hV]; exact F7.out _)
                (try change K _ (V42.setCells (V1.heap.size) 0 (layC (lP R) A7 c7)))
                rw [← hV]
                refine hK.out _ _ X.out (fun h43 => ?_)
                clear hK K hV
                (try simp only [Act.put])
                refine wpAnyH_take (i := 21) (oi := ?_) (v := ?_) ?_ (by kernel_rfl) (by kernel_rfl) (by kernel_rfl) ?_ ?_ h43 ?_
                rotate_left 2
                · simp only [List.getElem?_toArray, List.getElem?_cons_zero, List.getElem?_cons_succ]; rfl
                · exact fun _ _ _ h => h
                · refine Or.inl ⟨by rfl, ?_⟩
                  intro w hSw
                  (try dsimp only at hSw)
                  go_simp
                  (try with_reducible rfl)
                (try simp only [Act.put, List.setIfInBounds_toArray, List.set_cons_zero, List.set_cons_succ])
                refine wpAnyH_done (by kernel_rfl) ?_ _
                refine NoPanic.normal ?_
                clear OK PR
                go_wp2_with fail
                go_meet
                exact ⟨V1.heap.size, A7, c7, _, rfl, rfl, K7.out, S7.out, X.out, rfl⟩
              · refine AllReadyH.cons (o := ?_) ?_ (fun K hK => ?_) AllReadyH.nil
                rotate_left
                · simp only [List.getElem?_toArray, List.getElem?_cons_zero, List.getElem?_cons_succ]; rfl
                obtain ⟨V44, hV⟩ : ∃ V44, V44 = Lib.bytesWorld V38 5 ⟨(zL kz).toArray⟩ := ⟨_, rfl⟩
                have y : Ext V38 V44 := by rw [hV]; exact ext_bytes _ _
                have CNV := Lib.hid (show SeenB V44 (some ⟨V38.heap.size, 0, none⟩) (zL kz) by rw [hV]; exact conv_seen _ _)
                have rc := Lib.run_convert_string_bytes (P := Tryd.prog) V38 9 26 5 ⟨(zL kz).toArray⟩ Tryd.underlying9 Tryd.underlying26 Tryd.underlying5
                obtain ⟨cv44, hcv⟩ : ∃ cv, cv = grownCap V38 (⟨(zL kz).toArray⟩ : ByteArray).size 0 5 := ⟨_, rfl⟩
                rw [← hV, ← hcv, HSZ.out] at rc
                clear hcv
                have HV := Lib.hid hV
                clear hV
                have OWN := Lib.hid (OWN.out.over y)
                have CNE := Lib.hid (show ¬ V0.heap.size = V38.heap.size from Nat.ne_of_lt OLT.out)
                have OLT := Lib.hid (Nat.lt_of_lt_of_le OLT.out y.size)
                have BOX := Lib.hid (BOX.out.ext y)
                have X := Lib.hid (X.out.trans y)
                go_simp
                refine hK.out _ _ X.out (fun h44 => ?_)
                clear hK K y HV rc
                (try simp only [Act.put, List.setIfInBounds_toArray, List.set_cons_zero, List.set_cons_succ])
                refine wpAnyH_ready (rs := [4]) (by kernel_rfl) (by simp) ?_
                refine AllReadyH.cons (o := ?_) ?_ (fun K hK => ?_) AllReadyH.nil
                rotate_left
                · simp only [List.getElem?_toArray, List.getElem?_cons_zero, List.getElem?_cons_succ]; rfl
                obtain ⟨v45, V45, rn, on, gn, bn⟩ := run_bytes14 OWN.out (A2) (at') (c2) (T.take at') (TAKE.out _ X.out) (NT.out) (BC.out) 26
                refine step_ran (.tmp 76) (.tmp 79) rfl (by kernel_rfl) rn ?_
                have BOX := Lib.hid (bn _ _ BOX.out)
                have CNV := Lib.hid (seen_grown CNV.out gn CNE.out)
                have X := Lib.hid on.2
                have OWN := Lib.hid on
                refine hK.out _ _ X.out (fun h45 => ?_)
                clear hK K rn on gn bn
                (try simp only [Act.put, List.setIfInBounds_toArray, List.set_cons_zero, List.set_cons_succ])
                refine wpAnyH_ready (rs := [14]) (by kernel_rfl) (by simp) ?_
                refine AllReadyH.cons (o := ?_) ?_ (fun K hK => ?_) AllReadyH.nil
                rotate_left
                · simp only [List.getElem?_toArray, List.getElem?_cons_zero, List.getElem?_cons_succ]; rfl
                obtain ⟨v46, V46, rn, on, gn, bn⟩ := run_bytes14 OWN.out (some ⟨V38.heap.size, 0, none⟩) (lz) (cv44) (zL kz) (CNV.out) (HLZ.out) (BD.out) 26
                refine step_ran (.tmp 80) (.tmp 89) rfl (by kernel_rfl) rn ?_
                have BOX := Lib.hid (bn _ _ BOX.out)
                have X := Lib.hid on.2
                have OWN := Lib.hid on
                refine hK.out _ _ X.out (fun h46 => ?_)
                clear hK K rn on gn bn
                (try simp only [Act.put, List.setIfInBounds_toArray, List.set_cons_zero, List.set_cons_succ])
                refine wpAnyH_ready (rs := [15]) (by kernel_rfl) (by simp) ?_
                refine AllReadyH.cons (o := ?_) ?_ (fun K hK => ?_) AllReadyH.nil
                rotate_left
                · simp only [List.getElem?_toArray, List.getElem?_cons_zero, List.getElem?_cons_succ]; rfl
                have ow := OWN.out
                rw [RE.out] at ow
                obtain ⟨A6, c6, hv, hc6, hs6⟩ := ow.seen
                clear ow
                subst hv
                have PQ := Lib.hid (parse_new A6 _ _ c6 V46 hs6 rfl (BT.out) hc6 (HT.out.ext X.out))
                clear hs6 hc6
                go_simp
                refine PQ.out.mono ?_
                rintro e V47 ⟨A7, c7, rfl, y, _, sn7, fr7⟩
                have SN7 := Lib.hid sn7
                have NE := Lib.hid (show ∀ ad, A7 = some ad → V1.heap.size ≠ ad.block from fun ad e => by have := fr7 ad e; have := BOX.out.lt; omega)
                have F7 := Lib.hid (fun (cs : List Value) => seenP_sets NE.out cs 0 _ sn7)
                have BOX := Lib.hid (BOX.out.ext y)
                have X := Lib.hid (X.out.trans y)
                refine hK.out _ _ X.out (fun h47 => ?_)
                clear hK K y sn7 fr7 PQ OWN
                (try simp only [Act.put, List.setIfInBounds_toArray, List.set_cons_zero, List.set_cons_succ])
                refine wpAnyH_take (i := 16) (oi := ?_) (v := ?_) ?_ (by kernel_rfl) (by kernel_rfl) (by kernel_rfl) ?_ ?_ h47 ?_
                rotate_left 2
                · simp only [List.getElem?_toArray, List.getElem?_cons_zero, List.getElem?_cons_succ]; rfl
                · exact fun _ _ _ h => h
                · refine Or.inl ⟨by rfl, ?_⟩
                  intro w hSw
                  (try dsimp only at hSw)
                  go_simp
                  (try with_reducible rfl)
                (try simp only [Act.put, List.setIfInBounds_toArray, List.set_cons_zero, List.set_cons_succ])
                refine wpAnyH_take (i := 17) (oi := ?_) (v := ?_) ?_ (by kernel_rfl) (by kernel_rfl) (by kernel_rfl) ?_ ?_ h47 ?_
                rotate_left 2
                · simp only [List.getElem?_toArray, List.getElem?_cons_zero, List.getElem?_cons_succ]; rfl
                · exact fun _ _ _ h => h
                · refine Or.inl ⟨by rfl, ?_⟩
                  intro w hSw
                  (try dsimp only at hSw)
                  go_simp
                  (try with_reducible rfl)
                (try simp only [Act.put, List.setIfInBounds_toArray, List.set_cons_zero, List.set_cons_succ])
                refine wpAnyH_take (i := 18) (oi := ?_) (v := ?_) ?_ (by kernel_rfl) (by kernel_rfl) (by kernel_rfl) ?_ ?_ h47 ?_
                rotate_left 2
                · simp only [List.getElem?_toArray, List.getElem?_cons_zero, List.getElem?_cons_succ]; rfl
                · exact fun _ _ _ h => h
                · refine Or.inl ⟨by rfl, ?_⟩
                  intro w hSw
                  (try dsimp only at hSw)
                  go_simp
                  (try with_reducible rfl)
                (try simp only [Act.put, List.setIfInBounds_toArray, List.set_cons_zero, List.set_cons_succ])
                refine wpAnyH_ready (rs := [20]) (by kernel_rfl) (by simp) ?_
                refine AllReadyH.cons (o := ?_) ?_ (fun K hK => ?_) AllReadyH.nil
                rotate_left
                · simp only [List.getElem?_toArray, List.getElem?_cons_zero, List.getElem?_cons_succ]; rfl
                refine step_store 24 (.tmp 16) (.tmp 92) rfl (V1.heap.size) _ rfl rfl BOX.out.there lay_info (all_oneCell_toArray (layC_one _ _ _)) (by kernel_rfl) ?_
                obtain ⟨V48, hV⟩ : ∃ V48, V48 = V47.setCells (V1.heap.size) 0 (layC (lP R) A7 c7) := ⟨_, rfl⟩
                have X := Lib.hid (show Ext w5b V48 by rw [hV]; exact ext_setCells BLE.out _ _ _ X.out)
                have K7 := Lib.hid (show Blk V48 (V1.heap.size) 24 (layC (lP R) A7 c7) by rw [hV]; exact blk_setCells BOX.out _ rfl)
                have S7 := Lib.hid (show SeenP V48 A7 (lP R).n (lP R).sh by rw [hV]; exact F7.out _)
                (try change K _ (V47.setCells (V1.heap.size) 0 (layC (lP R) A7 c7)))
                rw [← hV]
                refine hK.out _ _ X.out (fun h48 => ?_)
                clear hK K hV
                (try simp only [Act.put])
                refine wpAnyH_take (i := 21) (oi := ?_) (v := ?_) ?_ (by kernel_rfl) (by kernel_rfl) (by kernel_rfl) ?_ ?_ h48 ?_
                rotate_left 2
                · simp only [List.getElem?_toArray, List.getElem?_cons_zero, List.getElem?_cons_succ]; rfl
                · exact fun _ _ _ h => h
                · refine Or.inl ⟨by rfl, ?_⟩
                  intro w hSw
                  (try dsimp only at hSw)
                  go_simp
                  (try with_reducible rfl)
                (try simp only [Act.put, List.setIfInBounds_toArray, List.set_cons_zero, List.set_cons_succ])
                refine wpAnyH_done (by kernel_rfl) ?_ _
                refine NoPanic.normal ?_
                clear OK PR
                go_wp2_with fail
                go_meet
                exact ⟨V1.heap.size, A7, c7, _, rfl, rfl, K7.out, S7.out, X.out, rfl⟩
        · refine AllReadyH.cons (o := ?_) ?_ (fun K hK => ?_) ?_
          rotate_left
          · simp only [List.getElem?_toArray, List.getElem?_cons_zero, List.getElem?_cons_succ]; rfl
          · skip
            obtain ⟨V49, hV⟩ : ∃ V49, V49 = Lib.bytesWorld V0 5 ⟨(zL kz).toArray⟩ := ⟨_, rfl⟩
            have y : Ext V0 V49 := by rw [hV]; exact ext_bytes _ _
            have CNV := Lib.hid (show SeenB V49 (some ⟨V0.heap.size, 0, none⟩) (zL kz) by rw [hV]; exact conv_seen _ _)
            have rc := Lib.run_convert_string_bytes (P := Tryd.prog) V0 9 26 5 ⟨(zL kz).toArray⟩ Tryd.underlying9 Tryd.underlying26 Tryd.underlying5
            obtain ⟨cv49, hcv⟩ : ∃ cv, cv = grownCap V0 (⟨(zL kz).toArray⟩ : ByteArray).size 0 5 := ⟨_, rfl⟩
            rw [← hV, ← hcv, HSZ.out] at rc
            clear hcv
            have HV := Lib.hid hV
            clear hV
            have CLT := Lib.hid (show V0.heap.size < V49.heap.size by rw [HV.out, Lib.bytesWorld_size]; exact Nat.lt_succ_self _)
            have X := Lib.hid (X.out.trans y)
            go_simp
            refine hK.out _ _ X.out (fun h49 => ?_)
            clear hK K y HV rc
            (try simp only [Act.put, List.setIfInBounds_toArray, List.set_cons_zero, List.set_cons_succ])
            refine wpAnyH_ready (rs := [0, 19]) (by kernel_rfl) (by simp) ?_
            refine AllReadyH.cons (o := ?_) ?_ (fun K hK => ?_) ?_
            rotate_left
            · simp only [List.getElem?_toArray, List.getElem?_cons_zero]; rfl
            · skip
              obtain ⟨V50, hV⟩ : ∃ V50, V50 = V49.alloc (.cells #[] 5) := ⟨_, rfl⟩
              have y : Ext V49 V50 := by rw [hV]; exact (Ext.refl _).alloc _
              have OWN := Lib.hid (show OwnB 5 w5b V50 (.slice (some ⟨V49.heap.size, 0, none⟩) 0 0) [] by rw [hV]; exact OwnB.lit 5 w5b V49 [] #[] 0 rfl rfl (by simp) X.out)
              have OLT := Lib.hid (show V49.heap.size < V50.heap.size by rw [hV]; simp)
              have CNE := Lib.hid (show ¬ V49.heap.size = V0.heap.size from Nat.ne_of_gt CLT.out)
              have CNV := Lib.hid (CNV.out.ext y)
              have X := Lib.hid (X.out.trans y)
              go_simp
              rw [← hV]
              refine hK.out _ _ X.out (fun h50 => ?_)
              clear hK K y hV
              (try simp only [Act.put, List.setIfInBounds_toArray, List.set_cons_zero, List.set_cons_succ])
              refine wpAnyH_ready (rs := [4, 19]) (by kernel_rfl) (by simp) ?_
              refine AllReadyH.cons (o := ?_) ?_ (fun K hK => ?_) ?_
              rotate_left
              · simp only [List.getElem?_toArray, List.getElem?_cons_zero, List.getElem?_cons_succ]; rfl
              · skip
                obtain ⟨v51, V51, rn, on, gn, bn⟩ := run_bytes14 OWN.out (A2) (at') (c2) (T.take at') (TAKE.out _ X.out) (NT.out) (BC.out) 26
                refine step_ran (.tmp 76) (.tmp 79) rfl (by kernel_rfl) rn ?_
                have CNV := Lib.hid (seen_grown CNV.out gn CNE.out)
                have X := Lib.hid on.2
                have OWN := Lib.hid on
                refine hK.out _ _ X.out (fun h51 => ?_)
                clear hK K rn on gn bn
                (try simp only [Act.put, List.setIfInBounds_toArray, List.set_cons_zero, List.set_cons_succ])
                refine wpAnyH_ready (rs := [14, 19]) (by kernel_rfl) (by simp) ?_
                refine AllReadyH.cons (o := ?_) ?_ (fun K hK => ?_) ?_
                rotate_left
                · simp only [List.getElem?_toArray, List.getElem?_cons_zero, List.getElem?_cons_succ]; rfl
                · skip
                  obtain ⟨v52, V52, rn, on, gn, bn⟩ := run_bytes14 OWN.out (some ⟨V0.heap.size, 0, none⟩) (lz) (cv49) (zL kz) (CNV.out) (HLZ.out) (BD.out) 26
                  refine step_ran (.tmp 80) (.tmp 89) rfl (by kernel_rfl) rn ?_
                  have X := Lib.hid on.2
                  have OWN := Lib.hid on
                  refine hK.out _ _ X.out (fun h52 => ?_)
                  clear hK K rn on gn bn
                  (try simp only [Act.put, List.setIfInBounds_toArray, List.set_cons_zero, List.set_cons_succ])
                  refine wpAnyH_ready (rs := [15, 19]) (by kernel_rfl) (by simp) ?_
                  refine AllReadyH.cons (o := ?_) ?_ (fun K hK => ?_) ?_
                  rotate_left
                  · simp only [List.getElem?_toArray, List.getElem?_cons_zero, List.getElem?_cons_succ]; rfl
                  · skip
                    have ow := OWN.out
                    rw [RE.out] at ow
                    obtain ⟨A6, c6, hv, hc6, hs6⟩ := ow.seen
                    clear ow
                    subst hv
                    have PQ := Lib.hid (parse_new A6 _ _ c6 V52 hs6 rfl (BT.out) hc6 (HT.out.ext X.out))
                    clear hs6 hc6
                    go_simp
                    refine PQ.out.mono ?_
                    rintro e V53 ⟨A7, c7, rfl, y, _, sn7, fr7⟩
                    have SN7 := Lib.hid sn7
                    have X := Lib.hid (X.out.trans y)
                    refine hK.out _ _ X.out (fun h53 => ?_)
                    clear hK K y sn7 fr7 PQ OWN
                    (try simp only [Act.put, List.setIfInBounds_toArray, List.set_cons_zero, List.set_cons_succ])
                    refine wpAnyH_take (i := 16) (oi := ?_) (v := ?_) ?_ (by kernel_rfl) (by kernel_rfl) (by kernel_rfl) ?_ ?_ h53 ?_
                    rotate_left 2
                    · simp only [List.getElem?_toArray, List.getElem?_cons_zero, List.getElem?_cons_succ]; rfl
                    · exact fun _ _ _ h => h
                    · refine Or.inl ⟨by rfl, ?_⟩
                      intro w hSw
                      (try dsimp only at hSw)
                      go_simp
                      (try with_reducible rfl)
                    (try simp only [Act.put, List.setIfInBounds_toArray, List.set_cons_zero, List.set_cons_succ])
                    refine wpAnyH_take (i := 17) (oi := ?_) (v := ?_) ?_ (by kernel_rfl) (by kernel_rfl) (by kernel_rfl) ?_ ?_ h53 ?_
                    rotate_left 2
                    · simp only [List.getElem?_toArray, List.getElem?_cons_zero, List.getElem?_cons_succ]; rfl
                    · exact fun _ _ _ h => h
                    · refine Or.inl ⟨by rfl, ?_⟩
                      intro w hSw
                      (try dsimp only at hSw)
                      go_simp
                      (try with_reducible rfl)
                    (try simp only [Act.put, List.setIfInBounds_toArray, List.set_cons_zero, List.set_cons_succ])
                    refine wpAnyH_take (i := 18) (oi := ?_) (v := ?_) ?_ (by kernel_rfl) (by kernel_rfl) (by kernel_rfl) ?_ ?_ h53 ?_
                    rotate_left 2
                    · simp only [List.getElem?_toArray, List.getElem?_cons_zero, List.getElem?_cons_succ]; rfl
                    · exact fun _ _ _ h => h
                    · refine Or.inl ⟨by rfl, ?_⟩
                      intro w hSw
                      (try dsimp only at hSw)
                      go_simp
                      (try with_reducible rfl)
                    (try simp only [Act.put, List.setIfInBounds_toArray, List.set_cons_zero, List.set_cons_succ])
                    refine wpAnyH_ready (rs := [19]) (by kernel_rfl) (by simp) ?_
                    refine AllReadyH.cons (o := ?_) ?_ (fun K hK => ?_) AllReadyH.nil
                    rotate_left
                    · simp only [List.getElem?_toArray, List.getElem?_cons_zero, List.getElem?_cons_succ]; rfl
                    obtain ⟨V54, hV⟩ : ∃ V54, V54 = V53.alloc (.cells #[.int .i64 0, .int .i64 0, .int .i64 0, .int .i64 0, .slice none 0 0, .int .i64 0, .int .i64 0, .int .i64 0, .int .i64 0, .int .i64 0, .int .i64 0, .int .i64 0, .int .i64 0, .int .i64 0, .int .i64 0, .int .i64 0, .int .i64 0, .int .i64 0, .int .i64 0, .int .i64 0, .int .i64 0] 24) := ⟨_, rfl⟩
                    have y : Ext V53 V54 := by rw [hV]; exact (Ext.refl _).alloc _
                    have BOX := Lib.hid (show Blk V54 V53.heap.size 24 Z21 by rw [hV]; exact Blk.lit _ _ _ _ rfl)
                    have BLE := Lib.hid (show w5b.heap.size ≤ V53.heap.size from X.out.size)
                    have F7 := Lib.hid (fun (cs : List Value) => SN7.out.ext (ext_setCells (Nat.le_refl V53.heap.size) cs 0 _ y))
                    have X := Lib.hid (X.out.trans y)
                    go_simp
                    rw [← hV]
                    refine hK.out _ _ X.out (fun h54 => ?_)
                    clear hK K y hV
                    (try simp only [Act.put, List.setIfInBounds_toArray, List.set_cons_zero, List.set_cons_succ])
                    refine wpAnyH_ready (rs := [20]) (by kernel_rfl) (by simp) ?_
                    refine AllReadyH.cons (o := ?_) ?_ (fun K hK => ?_) AllReadyH.nil
                    rotate_left
                    · simp only [List.getElem?_toArray, List.getElem?_cons_zero, List.getElem?_cons_succ]; rfl
                    refine step_store 24 (.tmp 16) (.tmp 92) rfl (V53.heap.size) _ rfl rfl BOX.out.there lay_info (all_oneCell_toArray (layC_one _ _ _)) (by kernel_rfl) ?_
                    obtain ⟨V55, hV⟩ : ∃ V55, V55 = V54.setCells (V53.heap.size) 0 (layC (lP R) A7 c7) := ⟨_, rfl⟩
                    have X := Lib.hid (show Ext w5b V55 by rw [hV]; exact ext_setCells BLE.out _ _ _ X.out)
                    have K7 := Lib.hid (show Blk V55 (V53.heap.size) 24 (layC (lP R) A7 c7) by rw [hV]; exact blk_setCells BOX.out _ rfl)
                    have S7 := Lib.hid (show SeenP V55 A7 (lP R).n (lP R).sh by rw [hV]; exact F7.out _)
                    (try change K _ (V54.setCells (V53.heap.size) 0 (layC (lP R) A7 c7)))
                    rw [← hV]
                    refine hK.out _ _ X.out (fun h55 => ?_)
                    clear hK K hV
                    (try simp only [Act.put])
                    refine wpAnyH_take (i := 21) (oi := ?_) (v := ?_) ?_ (by kernel_rfl) (by kernel_rfl) (by kernel_rfl) ?_ ?_ h55 ?_
                    rotate_left 2
                    · simp only [List.getElem?_toArray, List.getElem?_cons_zero, List.getElem?_cons_succ]; rfl
                    · exact fun _ _ _ h => h
                    · refine Or.inl ⟨by rfl, ?_⟩
                      intro w hSw
                      (try dsimp only at hSw)
                      go_simp
                      (try with_reducible rfl)
                    (try simp only [Act.put, List.setIfInBounds_toArray, List.set_cons_zero, List.set_cons_succ])
                    refine wpAnyH_done (by kernel_rfl) ?_ _
                    refine NoPanic.normal ?_
                    clear OK PR
                    go_wp2_with fail
                    go_meet
                    exact ⟨V53.heap.size, A7, c7, _, rfl, rfl, K7.out, S7.out, X.out, rfl⟩
                  · refine AllReadyH.cons (o := ?_) ?_ (fun K hK => ?_) AllReadyH.nil
                    rotate_left
                    · simp only [List.getElem?_toArray, List.getElem?_cons_zero, List.getElem?_cons_succ]; rfl
                    obtain ⟨V56, hV⟩ : ∃ V56, V56 = V52.alloc (.cells #[.int .i64 0, .int .i64 0, .int .i64 0, .int .i64 0, .slice none 0 0, .int .i64 0, .int .i64 0, .int .i64 0, .int .i64 0, .int .i64 0, .int .i64 0, .int .i64 0, .int .i64 0, .int .i64 0, .int .i64 0, .int .i64 0, .int .i64 0, .int .i64 0, .int .i64 0, .int .i64 0, .int .i64 0] 24) := ⟨_, rfl⟩
                    have y : Ext V52 V56 := by rw [hV]; exact (Ext.refl _).alloc _
                    have BOX := Lib.hid (show Blk V56 V52.heap.size 24 Z21 by rw [hV]; exact Blk.lit _ _ _ _ rfl)
                    have BLE := Lib.hid (show w5b.heap.size ≤ V52.heap.size from X.out.size)
                    have OWN := Lib.hid (OWN.out.over y)
                    have X := Lib.hid (X.out.trans y)
                    go_simp
                    rw [← hV]
                    refine hK.out _ _ X.out (fun h56 => ?_)
                    clear hK K y hV
                    (try simp only [Act.put, List.setIfInBounds_toArray, List.set_cons_zero, List.set_cons_succ])
                    refine wpAnyH_ready (rs := [15]) (by kernel_rfl) (by simp) ?_
                    refine AllReadyH.cons (o := ?_) ?_ (fun K hK => ?_) AllReadyH.nil
                    rotate_left
                    · simp only [List.getElem?_toArray, List.getElem?_cons_zero, List.getElem?_cons_succ]; rfl
                    have ow := OWN.out
                    rw [RE.out] at ow
                    obtain ⟨A6, c6, hv, hc6, hs6⟩ := ow.seen
                    clear ow
                    subst hv
                    have PQ := Lib.hid (parse_new A6 _ _ c6 V56 hs6 rfl (BT.out) hc6 (HT.out.ext X.out))
                    clear hs6 hc6
                    go_simp
                    refine PQ.out.mono ?_
                    rintro e V57 ⟨A7, c7, rfl, y, _, sn7, fr7⟩
                    have SN7 := Lib.hid sn7
                    have NE := Lib.hid (show ∀ ad, A7 = some ad → V52.heap.size ≠ ad.block from fun ad e => by have := fr7 ad e; have := BOX.out.lt; omega)
                    have F7 := Lib.hid (fun (cs : List Value) => seenP_sets NE.out cs 0 _ sn7)
                    have BOX := Lib.hid (BOX.out.ext y)
                    have X := Lib.hid (X.out.trans y)
                    refine hK.out _ _ X.out (fun h57 => ?_)
                    clear hK K y sn7 fr7 PQ OWN
                    (try simp only [Act.put, List.setIfInBounds_toArray, List.set_cons_zero, List.set_cons_succ])
                    refine wpAnyH_take (i := 16) (oi := ?_) (v := ?_) ?_ (by kernel_rfl) (by kernel_rfl) (by kernel_rfl) ?_ ?_ h57 ?_
                    rotate_left 2
                    · simp only [List.getElem?_toArray, List.getElem?_cons_zero, List.getElem?_cons_succ]; rfl
                    · exact fun _ _ _ h => h
                    · refine Or.inl ⟨by rfl, ?_⟩
                      intro w hSw
                      (try dsimp only at hSw)
                      go_simp
                      (try with_reducible rfl)
                    (try simp only [Act.put, List.setIfInBounds_toArray, List.set_cons_zero, List.set_cons_succ])
                    refine wpAnyH_take (i := 17) (oi := ?_) (v := ?_) ?_ (by kernel_rfl) (by kernel_rfl) (by kernel_rfl) ?_ ?_ h57 ?_
                    rotate_left 2
                    · simp only [List.getElem?_toArray, List.getElem?_cons_zero, List.getElem?_cons_succ]; rfl
                    · exact fun _ _ _ h => h
                    · refine Or.inl ⟨by rfl, ?_⟩
                      intro w hSw
                      (try dsimp only at hSw)
                      go_simp
                      (try with_reducible rfl)
                    (try simp only [Act.put, List.setIfInBounds_toArray, List.set_cons_zero, List.set_cons_succ])
                    refine wpAnyH_take (i := 18) (oi := ?_) (v := ?_) ?_ (by kernel_rfl) (by kernel_rfl) (by kernel_rfl) ?_ ?_ h57 ?_
                    rotate_left 2
                    · simp only [List.getElem?_toArray, List.getElem?_cons_zero, List.getElem?_cons_succ]; rfl
                    · exact fun _ _ _ h => h
                    · refine Or.inl ⟨by rfl, ?_⟩
                      intro w hSw
                      (try dsimp only at hSw)
                      go_simp
                      (try with_reducible rfl)
                    (try simp only [Act.put, List.setIfInBounds_toArray, List.set_cons_zero, List.set_cons_succ])
                    refine wpAnyH_ready (rs := [20]) (by kernel_rfl) (by simp) ?_
                    refine AllReadyH.cons (o := ?_) ?_ (fun K hK => ?_) AllReadyH.nil
                    rotate_left
                    · simp only [List.getElem?_toArray, List.getElem?_cons_zero, List.getElem?_cons_succ]; rfl
                    refine step_store 24 (.tmp 16) (.tmp 92) rfl (V52.heap.size) _ rfl rfl BOX.out.there lay_info (all_oneCell_toArray (layC_one _ _ _)) (by kernel_rfl) ?_
                    obtain ⟨V58, hV⟩ : ∃ V58, V58 = V57.setCells (V52.heap.size) 0 (layC (lP R) A7 c7) := ⟨_, rfl⟩
                    have X := Lib.hid (show Ext w5b V58 by rw [hV]; exact ext_setCells BLE.out _ _ _ X.out)
                    have K7 := Lib.hid (show Blk V58 (V52.heap.size) 24 (layC (lP R) A7 c7) by rw [hV]; exact blk_setCells BOX.out _ rfl)
                    have S7 := Lib.hid (show SeenP V58 A7 (lP R).n (lP R).sh by rw [hV]; exact F7.out _)
                    (try change K _ (V57.setCells (V52.heap.size) 0 (layC (lP R) A7 c7)))
                    rw [← hV]
                    refine hK.out _ _ X.out (fun h58 => ?_)
                    clear hK K hV
                    (try simp only [Act.put])
                    refine wpAnyH_take (i := 21) (oi := ?_) (v := ?_) ?_ (by kernel_rfl) (by kernel_rfl) (by kernel_rfl) ?_ ?_ h58 ?_
                    rotate_left 2
                    · simp only [List.getElem?_toArray, List.getElem?_cons_zero, List.getElem?_cons_succ]; rfl
                    · exact fun _ _ _ h => h
                    · refine Or.inl ⟨by rfl, ?_⟩
                      intro w hSw
                      (try dsimp only at hSw)
                      go_simp
                      (try with_reducible rfl)
                    (try simp only [Act.put, List.setIfInBounds_toArray, List.set_cons_zero, List.set_cons_succ])
                    refine wpAnyH_done (by kernel_rfl) ?_ _
                    refine NoPanic.normal ?_
                    clear OK PR
                    go_wp2_with fail
                    go_meet
                    exact ⟨V52.heap.size, A7, c7, _, rfl, rfl, K7.out, S7.out, X.out, rfl⟩
                · refine AllReadyH.cons (o := ?_) ?_ (fun K hK => ?_) AllReadyH.nil
                  rotate_left
                  · simp only [List.getElem?_toArray, List.getElem?_cons_zero, List.getElem?_cons_succ]; rfl
                  obtain ⟨V59, hV⟩ : ∃ V59, V59 = V51.alloc (.cells #[.int .i64 0, .int .i64 0, .int .i64 0, .int .i64 0, .slice none 0 0, .int .i64 0, .int .i64 0, .int .i64 0, .int .i64 0, .int .i64 0, .int .i64 0, .int .i64 0, .int .i64 0, .int .i64 0, .int .i64 0, .int .i64 0, .int .i64 0, .int .i64 0, .int .i64 0, .int .i64 0, .int .i64 0] 24) := ⟨_, rfl⟩
                  have y : Ext V51 V59 := by rw [hV]; exact (Ext.refl _).alloc _
                  have BOX := Lib.hid (show Blk V59 V51.heap.size 24 Z21 by rw [hV]; exact Blk.lit _ _ _ _ rfl)
                  have BLE := Lib.hid (show w5b.heap.size ≤ V51.heap.size from X.out.size)
                  have OWN := Lib.hid (OWN.out.over y)
                  have CNV := Lib.hid (CNV.out.ext y)
                  have X := Lib.hid (X.out.trans y)
                  go_simp
                  rw [← hV]
                  refine hK.out _ _ X.out (fun h59 => ?_)
                  clear hK K y hV
                  (try simp only [Act.put, List.setIfInBounds_toArray, List.set_cons_zero, List.set_cons_succ])
                  refine wpAnyH_ready (rs := [14]) (by kernel_rfl) (by simp) ?_
                  refine AllReadyH.cons (o := ?_) ?_ (fun K hK => ?_) AllReadyH.nil
                  rotate_left
                  · simp only [List.getElem?_toArray, List.getElem?_cons_zero, List.getElem?_cons_succ]; rfl
                  obtain ⟨v60, V60, rn, on, gn, bn⟩ := run_bytes14 OWN.out (some ⟨V0.heap.size, 0, none⟩) (lz) (cv49) (zL kz) (CNV.out) (HLZ.out) (BD.out) 26
                  refine step_ran (.tmp 80) (.tmp 89) rfl (by kernel_rfl) rn ?_
                  have BOX := Lib.hid (bn _ _ BOX.out)
                  have X := Lib.hid on.2
                  have OWN := Lib.hid on
                  refine hK.out _ _ X.out (fun h60 => ?_)
                  clear hK K rn on gn bn
                  (try simp only [Act.put, List.setIfInBounds_toArray, List.set_cons_zero, List.set_cons_succ])
                  refine wpAnyH_ready (rs := [15]) (by kernel_rfl) (by simp) ?_
                  refine AllReadyH.cons (o := ?_) ?_ (fun K hK => ?_) AllReadyH.nil
                  rotate_left
                  · simp only [List.getElem?_toArray, List.getElem?_cons_zero, List.getElem?_cons_succ]; rfl
                  have ow := OWN.out
                  rw [RE.out] at ow
                  obtain ⟨A6, c6, hv, hc6, hs6⟩ := ow.seen
                  clear ow
                  subst hv
                  have PQ := Lib.hid (parse_new A6 _ _ c6 V60 hs6 rfl (BT.out) hc6 (HT.out.ext X.out))
                  clear hs6 hc6
                  go_simp
                  refine PQ.out.mono ?_
                  rintro e V61 ⟨A7, c7, rfl, y, _, sn7, fr7⟩
                  have SN7 := Lib.hid sn7
                  have NE := Lib.hid (show ∀ ad, A7 = some ad → V51.heap.size ≠ ad.block from fun ad e => by have := fr7 ad e; have := BOX.out.lt; omega)
                  have F7 := Lib.hid (fun (cs : List Value) => seenP_sets NE.out cs 0 _ sn7)
                  have BOX := Lib.hid (BOX.out.ext y)
                  have X := Lib.hid (X.out.trans y)
                  refine hK.out _ _ X.out (fun h61 => ?_)
                  clear hK K y sn7 fr7 PQ OWN
                  (try simp only [Act.put, List.setIfInBounds_toArray, List.set_cons_zero, List.set_cons_succ])
                  refine wpAnyH_take (i := 16) (oi := ?_) (v := ?_) ?_ (by kernel_rfl) (by kernel_rfl) (by kernel_rfl) ?_ ?_ h61 ?_
                  rotate_left 2
                  · simp only [List.getElem?_toArray, List.getElem?_cons_zero, List.getElem?_cons_succ]; rfl
                  · exact fun _ _ _ h => h
                  · refine Or.inl ⟨by rfl, ?_⟩
                    intro w hSw
                    (try dsimp only at hSw)
                    go_simp
                    (try with_reducible rfl)
                  (try simp only [Act.put, List.setIfInBounds_toArray, List.set_cons_zero, List.set_cons_succ])
                  refine wpAnyH_take (i := 17) (oi := ?_) (v := ?_) ?_ (by kernel_rfl) (by kernel_rfl) (by kernel_rfl) ?_ ?_ h61 ?_
                  rotate_left 2
                  · simp only [List.getElem?_toArray, List.getElem?_cons_zero, List.getElem?_cons_succ]; rfl
                  · exact fun _ _ _ h => h
                  · refine Or.inl ⟨by rfl, ?_⟩
                    intro w hSw
                    (try dsimp only at hSw)
                    go_simp
                    (try with_reducible rfl)
                  (try simp only [Act.put, List.setIfInBounds_toArray, List.set_cons_zero, List.set_cons_succ])
                  refine wpAnyH_take (i := 18) (oi := ?_) (v := ?_) ?_ (by kernel_rfl) (by kernel_rfl) (by kernel_rfl) ?_ ?_ h61 ?_
                  rotate_left 2
                  · simp only [List.getElem?_toArray, List.getElem?_cons_zero, List.getElem?_cons_succ]; rfl
                  · exact fun _ _ _ h => h
                  · refine Or.inl ⟨by rfl, ?_⟩
                    intro w hSw
                    (try dsimp only at hSw)
                    go_simp
                    (try with_reducible rfl)
                  (try simp only [Act.put, List.setIfInBounds_toArray, List.set_cons_zero, List.set_cons_succ])
                  refine wpAnyH_ready (rs := [20]) (by kernel_rfl) (by simp) ?_
                  refine AllReadyH.cons (o := ?_) ?_ (fun K hK => ?_) AllReadyH.nil
                  rotate_left
                  · simp only [List.getElem?_toArray, List.getElem?_cons_zero, List.getElem?_cons_succ]; rfl
                  refine step_store 24 (.tmp 16) (.tmp 92) rfl (V51.heap.size) _ rfl rfl BOX.out.there lay_info (all_oneCell_toArray (layC_one _ _ _)) (by kernel_rfl) ?_
                  obtain ⟨V62, hV⟩ : ∃ V62, V62 = V61.setCells (V51.heap.size) 0 (layC (lP R) A7 c7) := ⟨_, rfl⟩
                  have X := Lib.hid (show Ext w5b V62 by rw [hV]; exact ext_setCells BLE.out _ _ _ X.out)
                  have K7 := Lib.hid (show Blk V62 (V51.heap.size) 24 (layC (lP R) A7 c7) by rw [hV]; exact blk_setCells BOX.out _ rfl)
                  have S7 := Lib.hid (show SeenP V62 A7 (lP R).n (lP R).sh by rw [hV]; exact F7.out _)
                  (try change K _ (V61.setCells (V51.heap.size) 0 (layC (lP R) A7 c7)))
                  rw [← hV]
                  refine hK.out _ _ X.out (fun h62 => ?_)
                  clear hK K hV
                  (try simp only [Act.put])
                  refine wpAnyH_take (i := 21) (oi := ?_) (v := ?_) ?_ (by kernel_rfl) (by kernel_rfl) (by kernel_rfl) ?_ ?_ h62 ?_
                  rotate_left 2
                  · simp only [List.getElem?_toArray, List.getElem?_cons_zero, List.getElem?_cons_succ]; rfl
                  · exact fun _ _ _ h => h
                  · refine Or.inl ⟨by rfl, ?_⟩
                    intro w hSw
                    (try dsimp only at hSw)
                    go_simp
                    (try with_reducible rfl)
                  (try simp only [Act.put, List.setIfInBounds_toArray, List.set_cons_zero, List.set_cons_succ])
                  refine wpAnyH_done (by kernel_rfl) ?_ _
                  refine NoPanic.normal ?_
                  clear OK PR
                  go_wp2_with fail
                  go_meet
                  exact ⟨V51.heap.size, A7, c7, _, rfl, rfl, K7.out, S7.out, X.out, rfl⟩
              · refine AllReadyH.cons (o := ?_) ?_ (fun K hK => ?_) AllReadyH.nil
                rotate_left
                · simp only [List.getElem?_toArray, List.getElem?_cons_zero, List.getElem?_cons_succ]; rfl
                obtain ⟨V63, hV⟩ : ∃ V63, V63 = V50.alloc (.cells #[.int .i64 0, .int .i64 0, .int .i64 0, .int .i64 0, .slice none 0 0, .int .i64 0, .int .i64 0, .int .i64 0, .int .i64 0, .int .i64 0, .int .i64 0, .int .i64 0, .int .i64 0, .int .i64 0, .int .i64 0, .int .i64 0, .int .i64 0, .int .i64 0, .int .i64 0, .int .i64 0, .int .i64 0] 24) := ⟨_, rfl⟩
                have y : Ext V50 V63 := by rw [hV]; exact (Ext.refl _).alloc _
                have BOX := Lib.hid (show Blk V63 V50.heap.size 24 Z21 by rw [hV]; exact Blk.lit _ _ _ _ rfl)
                have BLE := Lib.hid (show w5b.heap.size ≤ V50.heap.size from X.out.size)
                have OWN := Lib.hid (OWN.out.over y)
                have OLT := Lib.hid (Nat.lt_of_lt_of_le OLT.out y.size)
                have CNV := Lib.hid (CNV.out.ext y)
                have X := Lib.hid (X.out.trans y)
                go_simp
                rw [← hV]
                refine hK.out _ _ X.out (fun h63 => ?_)
                clear hK K y hV
                (try simp only [Act.put, List.setIfInBounds_toArray, List.set_cons_zero, List.set_cons_succ])
                refine wpAnyH_ready (rs := [4]) (by kernel_rfl) (by simp) ?_
                refine AllReadyH.cons (o := ?_) ?_ (fun K hK => ?_) AllReadyH.nil
                rotate_left
                · simp only [List.getElem?_toArray, List.getElem?_cons_zero, List.getElem?_cons_succ]; rfl
                obtain ⟨v64, V64, rn, on, gn, bn⟩ := run_bytes14 OWN.out (A2) (at') (c2) (T.take at') (TAKE.out _ X.out) (NT.out) (BC.out) 26
                refine step_ran (.tmp 76) (.tmp 79) rfl (by kernel_rfl) rn ?_
                have BOX := Lib.hid (bn _ _ BOX.out)
                have CNV := Lib.hid (seen_grown CNV.out gn CNE.out)
                have X := Lib.hid on.2
                have OWN := Lib.hid on
                refine hK.out _ _ X.out (fun h64 => ?_)
                clear hK K rn on gn bn
                (try simp only [Act.put, List.setIfInBounds_toArray, List.set_cons_zero, List.set_cons_succ])
                refine wpAnyH_ready (rs := [14]) (by kernel_rfl) (by simp) ?_
                refine AllReadyH.cons (o := ?_) ?_ (fun K hK => ?_) AllReadyH.nil
                rotate_left
                · simp only [List.getElem?_toArray, List.getElem?_cons_zero, List.getElem?_cons_succ]; rfl
                obtain ⟨v65, V65, rn, on, gn, bn⟩ := run_bytes14 OWN.out (some ⟨V0.heap.size, 0, none⟩) (lz) (cv49) (zL kz) (CNV.out) (HLZ.out) (BD.out) 26
                refine step_ran (.tmp 80) (.tmp 89) rfl (by kernel_rfl) rn ?_
                have BOX := Lib.hid (bn _ _ BOX.out)
                have X := Lib.hid on.2
                have OWN := Lib.hid on
                refine hK.out _ _ X.out (fun h65 => ?_)
                clear hK K rn on gn bn
                (try simp only [Act.put, List.setIfInBounds_toArray, List.set_cons_zero, List.set_cons_succ])
                refine wpAnyH_ready (rs := [15]) (by kernel_rfl) (by simp) ?_
                refine AllReadyH.cons (o := ?_) ?_ (fun K hK => ?_) AllReadyH.nil
                rotate_left
                · simp only [List.getElem?_toArray, List.getElem?_cons_zero, List.getElem?_cons_succ]; rfl
                have ow := OWN.out
                rw [RE.out] at ow
                obtain ⟨A6, c6, hv, hc6, hs6⟩ := ow.seen
                clear ow
                subst hv
                have PQ := Lib.hid (parse_new A6 _ _ c6 V65 hs6 rfl (BT.out) hc6 (HT.out.ext X.out))
                clear hs6 hc6
                go_simp
                refine PQ.out.mono ?_
                rintro e V66 ⟨A7, c7, rfl, y, _, sn7, fr7⟩
                have SN7 := Lib.hid sn7
                have NE := Lib.hid (show ∀ ad, A7 = some ad → V50.heap.size ≠ ad.block from fun ad e => by have := fr7 ad e; have := BOX.out.lt; omega)
                have F7 := Lib.hid (fun (cs : List Value) => seenP_sets NE.out cs 0 _ sn7)
                have BOX := Lib.hid (BOX.out.ext y)
                have X := Lib.hid (X.out.trans y)
                refine hK.out _ _ X.out (fun h66 => ?_)
                clear hK K y sn7 fr7 PQ OWN
                (try simp only [Act.put, List.setIfInBounds_toArray, List.set_cons_zero, List.set_cons_succ])
                refine wpAnyH_take (i := 16) (oi := ?_) (v := ?_) ?_ (by kernel_rfl) (by kernel_rfl) (by kernel_rfl) ?_ ?_ h66 ?_
                rotate_left 2
                · simp only [List.getElem?_toArray, List.getElem?_cons_zero, List.getElem?_cons_succ]; rfl
                · exact fun _ _ _ h => h
                · refine Or.inl ⟨by rfl, ?_⟩
                  intro w hSw
                  (try dsimp only at hSw)
                  go_simp
                  (try with_reducible rfl)
                (try simp only [Act.put, List.setIfInBounds_toArray, List.set_cons_zero, List.set_cons_succ])
                refine wpAnyH_take (i := 17) (oi := ?_) (v := ?_) ?_ (by kernel_rfl) (by kernel_rfl) (by kernel_rfl) ?_ ?_ h66 ?_
                rotate_left 2
                · simp only [List.getElem?_toArray, List.getElem?_cons_zero, List.getElem?_cons_succ]; rfl
                · exact fun _ _ _ h => h
                · refine Or.inl ⟨by rfl, ?_⟩
                  intro w hSw
                  (try dsimp only at hSw)
                  go_simp
                  (try with_reducible rfl)
                (try simp only [Act.put, List.setIfInBounds_toArray, List.set_cons_zero, List.set_cons_succ])
                refine wpAnyH_take (i := 18) (oi := ?_) (v := ?_) ?_ (by kernel_rfl) (by kernel_rfl) (by kernel_rfl) ?_ ?_ h66 ?_
                rotate_left 2
                · simp only [List.getElem?_toArray, List.getElem?_cons_zero, List.getElem?_cons_succ]; rfl
                · exact fun _ _ _ h => h
                · refine Or.inl ⟨by rfl, ?_⟩
                  intro w hSw
                  (try dsimp only at hSw)
                  go_simp
                  (try with_reducible rfl)
                (try simp only [Act.put, List.setIfInBounds_toArray, List.set_cons_zero, List.set_cons_succ])
                refine wpAnyH_ready (rs := [20]) (by kernel_rfl) (by simp) ?_
                refine AllReadyH.cons (o := ?_) ?_ (fun K hK => ?_) AllReadyH.nil
                rotate_left
                · simp only [List.getElem?_toArray, List.getElem?_cons_zero, List.getElem?_cons_succ]; rfl
                refine step_store 24 (.tmp 16) (.tmp 92) rfl (V50.heap.size) _ rfl rfl BOX.out.there lay_info (all_oneCell_toArray (layC_one _ _ _)) (by kernel_rfl) ?_
                obtain ⟨V67, hV⟩ : ∃ V67, V67 = V66.setCells (V50.heap.size) 0 (layC (lP R) A7 c7) := ⟨_, rfl⟩
                have X := Lib.hid (show Ext w5b V67 by rw [hV]; exact ext_setCells BLE.out _ _ _ X.out)
                have K7 := Lib.hid (show Blk V67 (V50.heap.size) 24 (layC (lP R) A7 c7) by rw [hV]; exact blk_setCells BOX.out _ rfl)
                have S7 := Lib.hid (show SeenP V67 A7 (lP R).n (lP R).sh by rw [hV]; exact F7.out _)
                (try change K _ (V66.setCells (V50.heap.size) 0 (layC (lP R) A7 c7)))
                rw [← hV]
                refine hK.out _ _ X.out (fun h67 => ?_)
                clear hK K hV
                (try simp only [Act.put])
                refine wpAnyH_take (i := 21) (oi := ?_) (v := ?_) ?_ (by kernel_rfl) (by kernel_rfl) (by kernel_rfl) ?_ ?_ h67 ?_
                rotate_left 2
                · simp only [List.getElem?_toArray, List.getElem?_cons_zero, List.getElem?_cons_succ]; rfl
                · exact fun _ _ _ h => h
                · refine Or.inl ⟨by rfl, ?_⟩
                  intro w hSw
                  (try dsimp only at hSw)
                  go_simp
                  (try with_reducible rfl)
                (try simp only [Act.put, List.setIfInBounds_toArray, List.set_cons_zero, List.set_cons_succ])
                refine wpAnyH_done (by kernel_rfl) ?_ _
                refine NoPanic.normal ?_
                clear OK PR
                go_wp2_with fail
                go_meet
                exact ⟨V50.heap.size, A7, c7, _, rfl, rfl, K7.out, S7.out, X.out, rfl⟩
            · refine AllReadyH.cons (o := ?_) ?_ (fun K hK => ?_) AllReadyH.nil
              rotate_left
              · simp only [List.getElem?_toArray, List.getElem?_cons_zero, List.getElem?_cons_succ]; rfl
              obtain ⟨V68, hV⟩ : ∃ V68, V68 = V49.alloc (.cells #[.int .i64 0, .int .i64 0, .int .i64 0, .int .i64 0, .slice none 0 0, .int .i64 0, .int .i64 0, .int .i64 0, .int .i64 0, .int .i64 0, .int .i64 0, .int .i64 0, .int .i64 0, .int .i64 0, .int .i64 0, .int .i64 0, .int .i64 0, .int .i64 0, .int .i64 0, .int .i64 0, .int .i64 0] 24) := ⟨_, rfl⟩
              have y : Ext V49 V68 := by rw [hV]; exact (Ext.refl _).alloc _
              have BOX := Lib.hid (show Blk V68 V49.heap.size 24 Z21 by rw [hV]; exact Blk.lit _ _ _ _ rfl)
              have BLE := Lib.hid (show w5b.heap.size ≤ V49.heap.size from X.out.size)
              have CNV := Lib.hid (CNV.out.ext y)
              have CLT := Lib.hid (Nat.lt_of_lt_of_le CLT.out y.size)
              have X := Lib.hid (X.out.trans y)
              go_simp
              rw [← hV]
              refine hK.out _ _ X.out (fun h68 => ?_)
              clear hK K y hV
              (try simp only [Act.put, List.setIfInBounds_toArray, List.set_cons_zero, List.set_cons_succ])
              refine wpAnyH_ready (rs := [0]) (by kernel_rfl) (by simp) ?_
              refine AllReadyH.cons (o := ?_) ?_ (fun K hK => ?_) AllReadyH.nil
              rotate_left
              · simp only [List.getElem?_toArray, List.getElem?_cons_zero]; rfl
              obtain ⟨V69, hV⟩ : ∃ V69, V69 = V68.alloc (.cells #[] 5) := ⟨_, rfl⟩
              have y : Ext V68 V69 := by rw [hV]; exact (Ext.refl _).alloc _
              have OWN := Lib.hid (show OwnB 5 w5b V69 (.slice (some ⟨V68.heap.size, 0, none⟩) 0 0) [] by rw [hV]; exact OwnB.lit 5 w5b V68 [] #[] 0 rfl rfl (by simp) X.out)
              have BOX := Lib.hid (BOX.out.ext y)
              have OLT := Lib.hid (show V68.heap.size < V69.heap.size by rw [hV]; simp)
              have CNE := Lib.hid (show ¬ V68.heap.size = V0.heap.size from Nat.ne_of_gt CLT.out)
              have CNV := Lib.hid (CNV.out.ext y)
              have X := Lib.hid (X.out.trans y)
              go_simp
              rw [← hV]
              refine hK.out _ _ X.out (fun h69 => ?_)
              clear hK K y hV
              (try simp only [Act.put, List.setIfInBounds_toArray, List.set_cons_zero, List.set_cons_succ])
              refine wpAnyH_ready (rs := [4]) (by kernel_rfl) (by simp) ?_
              refine AllReadyH.cons (o := ?_) ?_ (fun K hK => ?_) AllReadyH.nil
              rotate_left
              · simp only [List.getElem?_toArray, List.getElem?_cons_zero, List.getElem?_cons_succ]; rfl
              obtain ⟨v70, V70, rn, on, gn, bn⟩ := run_bytes14 OWN.out (A2) (at') (c2) (T.take at') (TAKE.out _ X.out) (NT.out) (BC.out) 26
              refine step_ran (.tmp 76) (.tmp 79) rfl (by kernel_rfl) rn ?_
              have BOX := Lib.hid (bn _ _ BOX.out)
              have CNV := Lib.hid (seen_grown CNV.out gn CNE.out)
              have X := Lib.hid on.2
              have OWN := Lib.hid on
              refine hK.out _ _ X.out (fun h70 => ?_)
              clear hK K rn on gn bn
              (try simp only [Act.put, List.setIfInBounds_toArray, List.set_cons_zero, List.set_cons_succ])
              refine wpAnyH_ready (rs := [14]) (by kernel_rfl) (by simp) ?_
              refine AllReadyH.cons (o := ?_) ?_ (fun K hK => ?_) AllReadyH.nil
              rotate_left
              · simp only [List.getElem?_toArray, List.getElem?_cons_zero, List.getElem?_cons_succ]; rfl
              obtain ⟨v71, V71, rn, on, gn, bn⟩ := run_bytes14 OWN.out (some ⟨V0.heap.size, 0, none⟩) (lz) (cv49) (zL kz) (CNV.out) (HLZ.out) (BD.out) 26
              refine step_ran (.tmp 80) (.tmp 89) rfl (by kernel_rfl) rn ?_
              have BOX := Lib.hid (bn _ _ BOX.out)
              have X := Lib.hid on.2
              have OWN := Lib.hid on
              refine hK.out _ _ X.out (fun h71 => ?_)
              clear hK K rn on gn bn
              (try simp only [Act.put, List.setIfInBounds_toArray, List.set_cons_zero, List.set_cons_succ])
              refine wpAnyH_ready (rs := [15]) (by kernel_rfl) (by simp) ?_
              refine AllReadyH.cons (o := ?_) ?_ (fun K hK => ?_) AllReadyH.nil
              rotate_left
              · simp only [List.getElem?_toArray, List.getElem?_cons_zero, List.getElem?_cons_succ]; rfl
              have ow := OWN.out
              rw [RE.out] at ow
              obtain ⟨A6, c6, hv, hc6, hs6⟩ := ow.seen
              clear ow
              subst hv
              have PQ := Lib.hid (parse_new A6 _ _ c6 V71 hs6 rfl (BT.out) hc6 (HT.out.ext X.out))
              clear hs6 hc6
              go_simp
              refine PQ.out.mono ?_
              rintro e V72 ⟨A7, c7, rfl, y, _, sn7, fr7⟩
              have SN7 := Lib.hid sn7
              have NE := Lib.hid (show ∀ ad, A7 = some ad → V49.heap.size ≠ ad.block from fun ad e => by have := fr7 ad e; have := BOX.out.lt; omega)
              have F7 := Lib.hid (fun (cs : List Value) => seenP_sets NE.out cs 0 _ sn7)
              have BOX := Lib.hid (BOX.out.ext y)
              have X := Lib.hid (X.out.trans y)
              refine hK.out _ _ X.out (fun h72 => ?_)
              clear hK K y sn7 fr7 PQ OWN
              (try simp only [Act.put, List.setIfInBounds_toArray, List.set_cons_zero, List.set_cons_succ])
              refine wpAnyH_take (i := 16) (oi := ?_) (v := ?_) ?_ (by kernel_rfl) (by kernel_rfl) (by kernel_rfl) ?_ ?_ h72 ?_
              rotate_left 2
              · simp only [List.getElem?_toArray, List.getElem?_cons_zero, List.getElem?_cons_succ]; rfl
              · exact fun _ _ _ h => h
              · refine Or.inl ⟨by rfl, ?_⟩
                intro w hSw
                (try dsimp only at hSw)
                go_simp
                (try with_reducible rfl)
              (try simp only [Act.put, List.setIfInBounds_toArray, List.set_cons_zero, List.set_cons_succ])
              refine wpAnyH_take (i := 17) (oi := ?_) (v := ?_) ?_ (by kernel_rfl) (by kernel_rfl) (by kernel_rfl) ?_ ?_ h72 ?_
              rotate_left 2
              · simp only [List.getElem?_toArray, List.getElem?_cons_zero, List.getElem?_cons_succ]; rfl
              · exact fun _ _ _ h => h
              · refine Or.inl ⟨by rfl, ?_⟩
                intro w hSw
                (try dsimp only at hSw)
                go_simp
                (try with_reducible rfl)
              (try simp only [Act.put, List.setIfInBounds_toArray, List.set_cons_zero, List.set_cons_succ])
              refine wpAnyH_take (i := 18) (oi := ?_) (v := ?_) ?_ (by kernel_rfl) (by kernel_rfl) (by kernel_rfl) ?_ ?_ h72 ?_
              rotate_left 2
              · simp only [List.getElem?_toArray, List.getElem?_cons_zero, List.getElem?_cons_succ]; rfl
              · exact fun _ _ _ h => h
              · refine Or.inl ⟨by rfl, ?_⟩
                intro w hSw
                (try dsimp only at hSw)
                go_simp
                (try with_reducible rfl)
              (try simp only [Act.put, List.setIfInBounds_toArray, List.set_cons_zero, List.set_cons_succ])
              refine wpAnyH_ready (rs := [20]) (by kernel_rfl) (by simp) ?_
              refine AllReadyH.cons (o := ?_) ?_ (fun K hK => ?_) AllReadyH.nil
              rotate_left
              · simp only [List.getElem?_toArray, List.getElem?_cons_zero, List.getElem?_cons_succ]; rfl
              refine step_store 24 (.tmp 16) (.tmp 92) rfl (V49.heap.size) _ rfl rfl BOX.out.there lay_info (all_oneCell_toArray (layC_one _ _ _)) (by kernel_rfl) ?_
              obtain ⟨V73, hV⟩ : ∃ V73, V73 = V72.setCells (V49.heap.size) 0 (layC (lP R) A7 c7) := ⟨_, rfl⟩
              have X := Lib.hid (show Ext w5b V73 by rw [hV]; exact ext_setCells BLE.out _ _ _ X.out)
              have K7 := Lib.hid (show Blk V73 (V49.heap.size) 24 (layC (lP R) A7 c7) by rw [hV]; exact blk_setCells BOX.out _ rfl)
              have S7 := Lib.hid (show SeenP V73 A7 (lP R).n (lP R).sh by rw [hV]; exact F7.out _)
              (try change K _ (V72.setCells (V49.heap.size) 0 (layC (lP R) A7 c7)))
              rw [← hV]
              refine hK.out _ _ X.out (fun h73 => ?_)
              clear hK K hV
              (try simp only [Act.put])
              refine wpAnyH_take (i := 21) (oi := ?_) (v := ?_) ?_ (by kernel_rfl) (by kernel_rfl) (by kernel_rfl) ?_ ?_ h73 ?_
              rotate_left 2
              · simp only [List.getElem?_toArray, List.getElem?_cons_zero, List.getElem?_cons_succ]; rfl
              · exact fun _ _ _ h => h
              · refine Or.inl ⟨by rfl, ?_⟩
                intro w hSw
                (try dsimp only at hSw)
                go_simp
                (try with_reducible rfl)
              (try simp only [Act.put, List.setIfInBounds_toArray, List.set_cons_zero, List.set_cons_succ])
              refine wpAnyH_done (by kernel_rfl) ?_ _
              refine NoPanic.normal ?_
              clear OK PR
              go_wp2_with fail
              go_meet
              exact ⟨V49.heap.size, A7, c7, _, rfl, rfl, K7.out, S7.out, X.out, rfl⟩
          · refine AllReadyH.cons (o := ?_) ?_ (fun K hK => ?_) AllReadyH.nil
            rotate_left
            · simp only [List.getElem?_toArray, List.getElem?_cons_zero, List.getElem?_cons_succ]; rfl
            obtain ⟨V74, hV⟩ : ∃ V74, V74 = V0.alloc (.cells #[.int .i64 0, .int .i64 0, .int .i64 0, .int .i64 0, .slice none 0 0, .int .i64 0, .int .i64 0, .int .i64 0, .int .i64 0, .int .i64 0, .int .i64 0, .int .i64 0, .int .i64 0, .int .i64 0, .int .i64 0, .int .i64 0, .int .i64 0, .int .i64 0, .int .i64 0, .int .i64 0, .int .i64 0] 24) := ⟨_, rfl⟩
            have y : Ext V0 V74 := by rw [hV]; exact (Ext.refl _).alloc _
            have BOX := Lib.hid (show Blk V74 V0.heap.size 24 Z21 by rw [hV]; exact Blk.lit _ _ _ _ rfl)
            have BLE := Lib.hid (show w5b.heap.size ≤ V0.heap.size from X.out.size)
            have X := Lib.hid (X.out.trans y)
            go_simp
            rw [← hV]
            refine hK.out _ _ X.out (fun h74 => ?_)
            clear hK K y hV
            (try simp only [Act.put, List.setIfInBounds_toArray, List.set_cons_zero, List.set_cons_succ])
            refine wpAnyH_ready (rs := [0, 13]) (by kernel_rfl) (by simp) ?_
            refine AllReadyH.cons (o := ?_) ?_ (fun K hK => ?_) ?_
            rotate_left
            · simp only [List.getElem?_toArray, List.getElem?_cons_zero]; rfl
            · skip
              obtain ⟨V75, hV⟩ : ∃ V75, V75 = V74.alloc (.cells #[] 5) := ⟨_, rfl⟩
              have y : Ext V74 V75 := by rw [hV]; exact (Ext.refl _).alloc _
              have OWN := Lib.hid (show OwnB 5 w5b V75 (.slice (some ⟨V74.heap.size, 0, none⟩) 0 0) [] by rw [hV]; exact OwnB.lit 5 w5b V74 [] #[] 0 rfl rfl (by simp) X.out)
              have BOX := Lib.hid (BOX.out.ext y)
              have OLT := Lib.hid (show V74.heap.size < V75.heap.size by rw [hV]; simp)
              have X := Lib.hid (X.out.trans y)
              go_simp
              rw [← hV]
              refine hK.out _ _ X.out (fun h75 => ?_)
              clear hK K y hV
              (try simp only [Act.put, List.setIfInBounds_toArray, List.set_cons_zero, List.set_cons_succ])
              refine wpAnyH_ready (rs := [4, 13]) (by kernel_rfl) (by simp) ?_
              refine AllReadyH.cons (o := ?_) ?_ (fun K hK => ?_) ?_
              rotate_left
              · simp only [List.getElem?_toArray, List.getElem?_cons_zero, List.getElem?_cons_succ]; rfl
              · skip
                obtain ⟨v76, V76, rn, on, gn, bn⟩ := run_bytes14 OWN.out (A2) (at') (c2) (T.take at') (TAKE.out _ X.out) (NT.out) (BC.out) 26
                refine step_ran (.tmp 76) (.tmp 79) rfl (by kernel_rfl) rn ?_
                have BOX := Lib.hid (bn _ _ BOX.out)
                have X := Lib.hid on.2
                have OWN := Lib.hid on
                refine hK.out _ _ X.out (fun h76 => ?_)
                clear hK K rn on gn bn
                (try simp only [Act.put, List.setIfInBounds_toArray, List.set_cons_zero, List.set_cons_succ])
                refine wpAnyH_ready (rs := [13]) (by kernel_rfl) (by simp) ?_
                refine AllReadyH.cons (o := ?_) ?_ (fun K hK => ?_) AllReadyH.nil
                rotate_left
                · simp only [List.getElem?_toArray, List.getElem?_cons_zero, List.getElem?_cons_succ]; rfl
                obtain ⟨V77, hV⟩ : ∃ V77, V77 = Lib.bytesWorld V76 5 ⟨(zL kz).toArray⟩ := ⟨_, rfl⟩
                have y : Ext V76 V77 := by rw [hV]; exact ext_bytes _ _
                have CNV := Lib.hid (show SeenB V77 (some ⟨V76.heap.size, 0, none⟩) (zL kz) by rw [hV]; exact conv_seen _ _)
                have rc := Lib.run_convert_string_bytes (P := Tryd.prog) V76 9 26 5 ⟨(zL kz).toArray⟩ Tryd.underlying9 Tryd.underlying26 Tryd.underlying5
                obtain ⟨cv77, hcv⟩ : ∃ cv, cv = grownCap V76 (⟨(zL kz).toArray⟩ : ByteArray).size 0 5 := ⟨_, rfl⟩
                rw [← hV, ← hcv, HSZ.out] at rc
                clear hcv
                have HV := Lib.hid hV
                clear hV
                have OWN := Lib.hid (OWN.out.over y)
                have BOX := Lib.hid (BOX.out.ext y)
                have X := Lib.hid (X.out.trans y)
                go_simp
                refine hK.out _ _ X.out (fun h77 => ?_)
                clear hK K y HV rc
                (try simp only [Act.put, List.setIfInBounds_toArray, List.set_cons_zero, List.set_cons_succ])
                refine wpAnyH_ready (rs := [14]) (by kernel_rfl) (by simp) ?_
                refine AllReadyH.cons (o := ?_) ?_ (fun K hK => ?_) AllReadyH.nil
                rotate_left
                · simp only [List.getElem?_toArray, List.getElem?_cons_zero, List.getElem?_cons_succ]; rfl
                obtain ⟨v78, V78, rn, on, gn, bn⟩ := run_bytes14 OWN.out (some ⟨V76.heap.size, 0, none⟩) (lz) (cv77) (zL kz) (CNV.out) (HLZ.out) (BD.out) 26
                refine step_ran (.tmp 80) (.tmp 89) rfl (by kernel_rfl) rn ?_
                have BOX := Lib.hid (bn _ _ BOX.out)
                have X := Lib.hid on.2
                have OWN := Lib.hid on
                refine hK.out _ _ X.out (fun h78 => ?_)
                clear hK K rn on gn bn
                (try simp only [Act.put, List.setIfInBounds_toArray, List.set_cons_zero, List.set_cons_succ])
                refine wpAnyH_ready (rs := [15]) (by kernel_rfl) (by simp) ?_
                refine AllReadyH.cons (o := ?_) ?_ (fun K hK => ?_) AllReadyH.nil
                rotate_left
                · simp only [List.getElem?_toArray, List.getElem?_cons_zero, List.getElem?_cons_succ]; rfl
                have ow := OWN.out
                rw [RE.out] at ow
                obtain ⟨A6, c6, hv, hc6, hs6⟩ := ow.seen
                clear ow
                subst hv
                have PQ := Lib.hid (parse_new A6 _ _ c6 V78 hs6 rfl (BT.out) hc6 (HT.out.ext X.out))
                clear hs6 hc6
                go_simp
                refine PQ.out.mono ?_
                rintro e V79 ⟨A7, c7, rfl, y, _, sn7, fr7⟩
                have SN7 := Lib.hid sn7
                have NE := Lib.hid (show ∀ ad, A7 = some ad → V0.heap.size ≠ ad.block from fun ad e => by have := fr7 ad e; have := BOX.out.lt; omega)
                have F7 := Lib.hid (fun (cs : List Value) => seenP_sets NE.out cs 0 _ sn7)
                have BOX := Lib.hid (BOX.out.ext y)
                have X := Lib.hid (X.out.trans y)
                refine hK.out _ _ X.out (fun h79 => ?_)
                clear hK K y sn7 fr7 PQ OWN
                (try simp only [Act.put, List.setIfInBounds_toArray, List.set_cons_zero, List.set_cons_succ])
                refine wpAnyH_take (i := 16) (oi := ?_) (v := ?_) ?_ (by kernel_rfl) (by kernel_rfl) (by kernel_rfl) ?_ ?_ h79 ?_
                rotate_left 2
                · simp only [List.getElem?_toArray, List.getElem?_cons_zero, List.getElem?_cons_succ]; rfl
                · exact fun _ _ _ h => h
                · refine Or.inl ⟨by rfl, ?_⟩
                  intro w hSw
                  (try dsimp only at hSw)
                  go_simp
                  (try with_reducible rfl)
                (try simp only [Act.put, List.setIfInBounds_toArray, List.set_cons_zero, List.set_cons_succ])
                refine wpAnyH_take (i := 17) (oi := ?_) (v := ?_) ?_ (by kernel_rfl) (by kernel_rfl) (by kernel_rfl) ?_ ?_ h79 ?_
                rotate_left 2
                · simp only [List.getElem?_toArray, List.getElem?_cons_zero, List.getElem?_cons_succ]; rfl
                · exact fun _ _ _ h => h
                · refine Or.inl ⟨by rfl, ?_⟩
                  intro w hSw
                  (try dsimp only at hSw)
                  go_simp
                  (try with_reducible rfl)
                (try simp only [Act.put, List.setIfInBounds_toArray, List.set_cons_zero, List.set_cons_succ])
                refine wpAnyH_take (i := 18) (oi := ?_) (v := ?_) ?_ (by kernel_rfl) (by kernel_rfl) (by kernel_rfl) ?_ ?_ h79 ?_
                rotate_left 2
                · simp only [List.getElem?_toArray, List.getElem?_cons_zero, List.getElem?_cons_succ]; rfl
                · exact fun _ _ _ h => h
                · refine Or.inl ⟨by rfl, ?_⟩
                  intro w hSw
                  (try dsimp only at hSw)
                  go_simp
                  (try with_reducible rfl)
                (try simp only [Act.put, List.setIfInBounds_toArray, List.set_cons_zero, List.set_cons_succ])
                refine wpAnyH_ready (rs := [20]) (by kernel_rfl) (by simp) ?_
                refine AllReadyH.cons (o := ?_) ?_ (fun K hK => ?_) AllReadyH.nil
                rotate_left
                · simp only [List.getElem?_toArray, List.getElem?_cons_zero, List.getElem?_cons_succ]; rfl
                refine step_store 24 (.tmp 16) (.tmp 92) rfl (V0.heap.size) _ rfl rfl BOX.out.there lay_info (all_oneCell_toArray (layC_one _ _ _)) (by kernel_rfl) ?_
                obtain ⟨V80, hV⟩ : ∃ V80, V80 = V79.setCells (V0.heap.size) 0 (layC (lP R) A7 c7) := ⟨_, rfl⟩
                have X := Lib.hid (show Ext w5b V80 by rw [hV]; exact ext_setCells BLE.out _ _ _ X.out)
                have K7 := Lib.hid (show Blk V80 (V0.heap.size) 24 (layC (lP R) A7 c7) by rw [hV]; exact blk_setCells BOX.out _ rfl)
                have S7 := Lib.hid (show SeenP V80 A7 (lP R).n (lP R).sh by rw [hV]; exact F7.out _)
                (try change K _ (V79.setCells (V0.heap.size) 0 (layC (lP R) A7 c7)))
                rw [← hV]
                refine hK.out _ _ X.out (fun h80 => ?_)
                clear hK K hV
                (try simp only [Act.put])
                refine wpAnyH_take (i := 21) (oi := ?_) (v := ?_) ?_ (by kernel_rfl) (by kernel_rfl) (by kernel_rfl) ?_ ?_ h80 ?_
                rotate_left 2
                · simp only [List.getElem?_toArray, List.getElem?_cons_zero, List.getElem?_cons_succ]; rfl
                · exact fun _ _ _ h => h
                · refine Or.inl ⟨by rfl, ?_⟩
                  intro w hSw
                  (try dsimp only at hSw)
                  go_simp
                  (try with_reducible rfl)
                (try simp only [Act.put, List.setIfInBounds_toArray, List.set_cons_zero, List.set_cons_succ])
                refine wpAnyH_done (by kernel_rfl) ?_ _
                refine NoPanic.normal ?_
                clear OK PR
                go_wp2_with fail
                go_meet
                exact ⟨V0.heap.size, A7, c7, _, rfl, rfl, K7.out, S7.out, X.out, rfl⟩
              · refine AllReadyH.cons (o := ?_) ?_ (fun K hK => ?_) AllReadyH.nil
                rotate_left
                · simp only [List.getElem?_toArray, List.getElem?_cons_zero, List.getElem?_cons_succ]; rfl
                obtain ⟨V81, hV⟩ : ∃ V81, V81 = Lib.bytesWorld V75 5 ⟨(zL kz).toArray⟩ := ⟨_, rfl⟩
                have y : Ext V75 V81 := by rw [hV]; exact ext_bytes _ _
                have CNV := Lib.hid (show SeenB V81 (some ⟨V75.heap.size, 0, none⟩) (zL kz) by rw [hV]; exact conv_seen _ _)
                have rc := Lib.run_convert_string_bytes (P := Tryd.prog) V75 9 26 5 ⟨(zL kz).toArray⟩ Tryd.underlying9 Tryd.underlying26 Tryd.underlying5
                obtain ⟨cv81, hcv⟩ : ∃ cv, cv = grownCap V75 (⟨(zL kz).toArray⟩ : ByteArray).size 0 5 := ⟨_, rfl⟩
                rw [← hV, ← hcv, HSZ.out] at rc
                clear hcv
                have HV := Lib.hid hV
                clear hV
                have OWN := Lib.hid (OWN.out.over y)
                have CNE := Lib.hid (show ¬ V74.heap.size = V75.heap.size from Nat.ne_of_lt OLT.out)
                have OLT := Lib.hid (Nat.lt_of_lt_of_le OLT.out y.size)
                have BOX := Lib.hid (BOX.out.ext y)
                have X := Lib.hid (X.out.trans y)
                go_simp
                refine hK.out _ _ X.out (fun h81 => ?_)
                clear hK K y HV rc
                (try simp only [Act.put, List.setIfInBounds_toArray, List.set_cons_zero, List.set_cons_succ])
                refine wpAnyH_ready (rs := [4]) (by kernel_rfl) (by simp) ?_
                refine AllReadyH.cons (o := ?_) ?_ (fun K hK => ?_) AllReadyH.nil
                rotate_left
                · simp only [List.getElem?_toArray, List.getElem?_cons_zero, List.getElem?_cons_succ]; rfl
                obtain ⟨v82, V82, rn, on, gn, bn⟩ := run_bytes14 OWN.out (A2) (at') (c2) (T.take at') (TAKE.out _ X.out) (NT.out) (BC.out) 26
                refine step_ran (.tmp 76) (.tmp 79) rfl (by kernel_rfl) rn ?_
                have BOX := Lib.hid (bn _ _ BOX.out)
                have CNV := Lib.hid (seen_grown CNV.out gn CNE.out)
                have X := Lib.hid on.2
                have OWN := Lib.hid on
                refine hK.out _ _ X.out (fun h82 => ?_)
                clear hK K rn on gn bn
                (try simp only [Act.put, List.setIfInBounds_toArray, List.set_cons_zero, List.set_cons_succ])
                refine wpAnyH_ready (rs := [14]) (by kernel_rfl) (by simp) ?_
                refine AllReadyH.cons (o := ?_) ?_ (fun K hK => ?_) AllReadyH.nil
                rotate_left
                · simp only [List.getElem?_toArray, List.getElem?_cons_zero, List.getElem?_cons_succ]; rfl
                obtain ⟨v83, V83, rn, on, gn, bn⟩ := run_bytes14 OWN.out (some ⟨V75.heap.size, 0, none⟩) (lz) (cv81) (zL kz) (CNV.out) (HLZ.out) (BD.out) 26
                refine step_ran (.tmp 80) (.tmp 89) rfl (by kernel_rfl) rn ?_
                have BOX := Lib.hid (bn _ _ BOX.out)
                have X := Lib.hid on.2
                have OWN := Lib.hid on
                refine hK.out _ _ X.out (fun h83 => ?_)
                clear hK K rn on gn bn
                (try simp only [Act.put, List.setIfInBounds_toArray, List.set_cons_zero, List.set_cons_succ])
                refine wpAnyH_ready (rs := [15]) (by kernel_rfl) (by simp) ?_
                refine AllReadyH.cons (o := ?_) ?_ (fun K hK => ?_) AllReadyH.nil
                rotate_left
                · simp only [List.getElem?_toArray, List.getElem?_cons_zero, List.getElem?_cons_succ]; rfl
                have ow := OWN.out
                rw [RE.out] at ow
                obtain ⟨A6, c6, hv, hc6, hs6⟩ := ow.seen
                clear ow
                subst hv
                have PQ := Lib.hid (parse_new A6 _ _ c6 V83 hs6 rfl (BT.out) hc6 (HT.out.ext X.out))
                clear hs6 hc6
                go_simp
                refine PQ.out.mono ?_
                rintro e V84 ⟨A7, c7, rfl, y, _, sn7, fr7⟩
                have SN7 := Lib.hid sn7
                have NE := Lib.hid (show ∀ ad, A7 = some ad → V0.heap.size ≠ ad.block from fun ad e => by have := fr7 ad e; have := BOX.out.lt; omega)
                have F7 := Lib.hid (fun (cs : List Value) => seenP_sets NE.out cs 0 _ sn7)
                have BOX := Lib.hid (BOX.out.ext y)
                have X := Lib.hid (X.out.trans y)
                refine hK.out _ _ X.out (fun h84 => ?_)
                clear hK K y sn7 fr7 PQ OWN
                (try simp only [Act.put, List.setIfInBounds_toArray, List.set_cons_zero, List.set_cons_succ])
                refine wpAnyH_take (i := 16) (oi := ?_) (v := ?_) ?_ (by kernel_rfl) (by kernel_rfl) (by kernel_rfl) ?_ ?_ h84 ?_
                rotate_left 2
                · simp only [List.getElem?_toArray, List.getElem?_cons_zero, List.getElem?_cons_succ]; rfl
                · exact fun _ _ _ h => h
                · refine Or.inl ⟨by rfl, ?_⟩
                  intro w hSw
                  (try dsimp only at hSw)
                  go_simp
                  (try with_reducible rfl)
                (try simp only [Act.put, List.setIfInBounds_toArray, List.set_cons_zero, List.set_cons_succ])
                refine wpAnyH_take (i := 17) (oi := ?_) (v := ?_) ?_ (by kernel_rfl) (by kernel_rfl) (by kernel_rfl) ?_ ?_ h84 ?_
                rotate_left 2
                · simp only [List.getElem?_toArray, List.getElem?_cons_zero, List.getElem?_cons_succ]; rfl
                · exact fun _ _ _ h => h
                · refine Or.inl ⟨by rfl, ?_⟩
                  intro w hSw
                  (try dsimp only at hSw)
                  go_simp
                  (try with_reducible rfl)
                (try simp only [Act.put, List.setIfInBounds_toArray, List.set_cons_zero, List.set_cons_succ])
                refine wpAnyH_take (i := 18) (oi := ?_) (v := ?_) ?_ (by kernel_rfl) (by kernel_rfl) (by kernel_rfl) ?_ ?_ h84 ?_
                rotate_left 2
                · simp only [List.getElem?_toArray, List.getElem?_cons_zero, List.getElem?_cons_succ]; rfl
                · exact fun _ _ _ h => h
                · refine Or.inl ⟨by rfl, ?_⟩
                  intro w hSw
                  (try dsimp only at hSw)
                  go_simp
                  (try with_reducible rfl)
                (try simp only [Act.put, List.setIfInBounds_toArray, List.set_cons_zero, List.set_cons_succ])
                refine wpAnyH_ready (rs := [20]) (by kernel_rfl) (by simp) ?_
                refine AllReadyH.cons (o := ?_) ?_ (fun K hK => ?_) AllReadyH.nil
                rotate_left
                · simp only [List.getElem?_toArray, List.getElem?_cons_zero, List.getElem?_cons_succ]; rfl
                refine step_store 24 (.tmp 16) (.tmp 92) rfl (V0.heap.size) _ rfl rfl BOX.out.there lay_info (all_oneCell_toArray (layC_one _ _ _)) (by kernel_rfl) ?_
                obtain ⟨V85, hV⟩ : ∃ V85, V85 = V84.setCells (V0.heap.size) 0 (layC (lP R) A7 c7) := ⟨_, rfl⟩
                have X := Lib.hid (show Ext w5b V85 by rw [hV]; exact ext_setCells BLE.out _ _ _ X.out)
                have K7 := Lib.hid (show Blk V85 (V0.heap.size) 24 (layC (lP R) A7 c7) by rw [hV]; exact blk_setCells BOX.out _ rfl)
                have S7 := Lib.hid (show SeenP V85 A7 (lP R).n (lP R).sh by rw [hV]; exact F7.out _)
                (try change K _ (V84.setCells (V0.heap.size) 0 (layC (lP R) A7 c7)))
                rw [← hV]
                refine hK.out _ _ X.out (fun h85 => ?_)
                clear hK K hV
                (try simp only [Act.put])
                refine wpAnyH_take (i := 21) (oi := ?_) (v := ?_) ?_ (by kernel_rfl) (by kernel_rfl) (by kernel_rfl) ?_ ?_ h85 ?_
                rotate_left 2
                · simp only [List.getElem?_toArray, List.getElem?_cons_zero, List.getElem?_cons_succ]; rfl
                · exact fun _ _ _ h => h
                · refine Or.inl ⟨by rfl, ?_⟩
                  intro w hSw
                  (try dsimp only at hSw)
                  go_simp
                  (try with_reducible rfl)
                (try simp only [Act.put, List.setIfInBounds_toArray, List.set_cons_zero, List.set_cons_succ])
                refine wpAnyH_done (by kernel_rfl) ?_ _
                refine NoPanic.normal ?_
                clear OK PR
                go_wp2_with fail
                go_meet
                exact ⟨V0.heap.size, A7, c7, _, rfl, rfl, K7.out, S7.out, X.out, rfl⟩
            · refine AllReadyH.cons (o := ?_) ?_ (fun K hK => ?_) AllReadyH.nil
              rotate_left
              · simp only [List.getElem?_toArray, List.getElem?_cons_zero, List.getElem?_cons_succ]; rfl
              obtain ⟨V86, hV⟩ : ∃ V86, V86 = Lib.bytesWorld V74 5 ⟨(zL kz).toArray⟩ := ⟨_, rfl⟩
              have y : Ext V74 V86 := by rw [hV]; exact ext_bytes _ _
              have CNV := Lib.hid (show SeenB V86 (some ⟨V74.heap.size, 0, none⟩) (zL kz) by rw [hV]; exact conv_seen _ _)
              have rc := Lib.run_convert_string_bytes (P := Tryd.prog) V74 9 26 5 ⟨(zL kz).toArray⟩ Tryd.underlying9 Tryd.underlying26 Tryd.underlying5
              obtain ⟨cv86, hcv⟩ : ∃ cv, cv = grownCap V74 (⟨(zL kz).toArray⟩ : ByteArray).size 0 5 := ⟨_, rfl⟩
              rw [← hV, ← hcv, HSZ.out] at rc
              clear hcv
              have HV := Lib.hid hV
              clear hV
              have CLT := Lib.hid (show V74.heap.size < V86.heap.size by rw [HV.out, Lib.bytesWorld_size]; exact Nat.lt_succ_self _)
              have BOX := Lib.hid (BOX.out.ext y)
              have X := Lib.hid (X.out.trans y)
              go_simp
              refine hK.out _ _ X.out (fun h86 => ?_)
              clear hK K y HV rc
              (try simp only [Act.put, List.setIfInBounds_toArray, List.set_cons_zero, List.set_cons_succ])
              refine wpAnyH_ready (rs := [0]) (by kernel_rfl) (by simp) ?_
              refine AllReadyH.cons (o := ?_) ?_ (fun K hK => ?_) AllReadyH.nil
              rotate_left
              · simp only [List.getElem?_toArray, List.getElem?_cons_zero]; rfl
              obtain ⟨V87, hV⟩ : ∃ V87, V87 = V86.alloc (.cells #[] 5) := ⟨_, rfl⟩
              have y : Ext V86 V87 := by rw [hV]; exact (Ext.refl _).alloc _
              have OWN := Lib.hid (show OwnB 5 w5b V87 (.slice (some ⟨V86.heap.size, 0, none⟩) 0 0) [] by rw [hV]; exact OwnB.lit 5 w5b V86 [] #[] 0 rfl rfl (by simp) X.out)
              have BOX := Lib.hid (BOX.out.ext y)
              have OLT := Lib.hid (show V86.heap.size < V87.heap.size by rw [hV]; simp)
              have CNE := Lib.hid (show ¬ V86.heap.size = V74.heap.size from Nat.ne_of_gt CLT.out)
              have CNV := Lib.hid (CNV.out.ext y)
              have X := Lib.hid (X.out.trans y)
              go_simp
              rw [← hV]
              refine hK.out _ _ X.out (fun h87 => ?_)
              clear hK K y hV
              (try simp only [Act.put, List.setIfInBounds_toArray, List.set_cons_zero, List.set_cons_succ])
              refine wpAnyH_ready (rs := [4]) (by kernel_rfl) (by simp) ?_
              refine AllReadyH.cons (o := ?_) ?_ (fun K hK => ?_) AllReadyH.nil
              rotate_left
              · simp only [List.getElem?_toArray, List.getElem?_cons_zero, List.getElem?_cons_succ]; rfl
              obtain ⟨v88, V88, rn, on, gn, bn⟩ := run_bytes14 OWN.out (A2) (at') (c2) (T.take at') (TAKE.out _ X.out) (NT.out) (BC.out) 26
              refine step_ran (.tmp 76) (.tmp 79) rfl (by kernel_rfl) rn ?_
              have BOX := Lib.hid (bn _ _ BOX.out)
              have CNV := Lib.hid (seen_grown CNV.out gn CNE.out)
              have X := Lib.hid on.2
              have OWN := Lib.hid on
              refine hK.out _ _ X.out (fun h88 => ?_)
              clear hK K rn on gn bn
              (try simp only [Act.put, List.setIfInBounds_toArray, List.set_cons_zero, List.set_cons_succ])
              refine wpAnyH_ready (rs := [14]) (by kernel_rfl) (by simp) ?_
              refine AllReadyH.cons (o := ?_) ?_ (fun K hK => ?_) AllReadyH.nil
              rotate_left
              · simp only [List.getElem?_toArray, List.getElem?_cons_zero, List.getElem?_cons_succ]; rfl
              obtain ⟨v89, V89, rn, on, gn, bn⟩ := run_bytes14 OWN.out (some ⟨V74.heap.size, 0, none⟩) (lz) (cv86) (zL kz) (CNV.out) (HLZ.out) (BD.out) 26
              refine step_ran (.tmp 80) (.tmp 89) rfl (by kernel_rfl) rn ?_
              have BOX := Lib.hid (bn _ _ BOX.out)
              have X := Lib.hid on.2
              have OWN := Lib.hid on
              refine hK.out _ _ X.out (fun h89 => ?_)
              clear hK K rn on gn bn
              (try simp only [Act.put, List.setIfInBounds_toArray, List.set_cons_zero, List.set_cons_succ])
              refine wpAnyH_ready (rs := [15]) (by kernel_rfl) (by simp) ?_
              refine AllReadyH.cons (o := ?_) ?_ (fun K hK => ?_) AllReadyH.nil
              rotate_left
              · simp only [List.getElem?_toArray, List.getElem?_cons_zero, List.getElem?_cons_succ]; rfl
              have ow := OWN.out
              rw [RE.out] at ow
              obtain ⟨A6, c6, hv, hc6, hs6⟩ := ow.seen
              clear ow
              subst hv
              have PQ := Lib.hid (parse_new A6 _ _ c6 V89 hs6 rfl (BT.out) hc6 (HT.out.ext X.out))
              clear hs6 hc6
              go_simp
              refine PQ.out.mono ?_
              rintro e V90 ⟨A7, c7, rfl, y, _, sn7, fr7⟩
              have SN7 := Lib.hid sn7
              have NE := Lib.hid (show ∀ ad, A7 = some ad → V0.heap.size ≠ ad.block from fun ad e => by have := fr7 ad e; have := BOX.out.lt; omega)
              have F7 := Lib.hid (fun (cs : List Value) => seenP_sets NE.out cs 0 _ sn7)
              have BOX := Lib.hid (BOX.out.ext y)
              have X := Lib.hid (X.out.trans y)
              refine hK.out _ _ X.out (fun h90 => ?_)
              clear hK K y sn7 fr7 PQ OWN
              (try simp only [Act.put, List.setIfInBounds_toArray, List.set_cons_zero, List.set_cons_succ])
              refine wpAnyH_take (i := 16) (oi := ?_) (v := ?_) ?_ (by kernel_rfl) (by kernel_rfl) (by kernel_rfl) ?_ ?_ h90 ?_
              rotate_left 2
              · simp only [List.getElem?_toArray, List.getElem?_cons_zero, List.getElem?_cons_succ]; rfl
              · exact fun _ _ _ h => h
              · refine Or.inl ⟨by rfl, ?_⟩
                intro w hSw
                (try dsimp only at hSw)
                go_simp
                (try with_reducible rfl)
              (try simp only [Act.put, List.setIfInBounds_toArray, List.set_cons_zero, List.set_cons_succ])
              refine wpAnyH_take (i := 17) (oi := ?_) (v := ?_) ?_ (by kernel_rfl) (by kernel_rfl) (by kernel_rfl) ?_ ?_ h90 ?_
              rotate_left 2
              · simp only [List.getElem?_toArray, List.getElem?_cons_zero, List.getElem?_cons_succ]; rfl
              · exact fun _ _ _ h => h
              · refine Or.inl ⟨by rfl, ?_⟩
                intro w hSw
                (try dsimp only at hSw)
                go_simp
                (try with_reducible rfl)
              (try simp only [Act.put, List.setIfInBounds_toArray, List.set_cons_zero, List.set_cons_succ])
              refine wpAnyH_take (i := 18) (oi := ?_) (v := ?_) ?_ (by kernel_rfl) (by kernel_rfl) (by kernel_rfl) ?_ ?_ h90 ?_
              rotate_left 2
              · simp only [List.getElem?_toArray, List.getElem?_cons_zero, List.getElem?_cons_succ]; rfl
              · exact fun _ _ _ h => h
              · refine Or.inl ⟨by rfl, ?_⟩
                intro w hSw
                (try dsimp only at hSw)
                go_simp
                (try with_reducible rfl)
              (try simp only [Act.put, List.setIfInBounds_toArray, List.set_cons_zero, List.set_cons_succ])
              refine wpAnyH_ready (rs := [20]) (by kernel_rfl) (by simp) ?_
              refine AllReadyH.cons (o := ?_) ?_ (fun K hK => ?_) AllReadyH.nil
              rotate_left
              · simp only [List.getElem?_toArray, List.getElem?_cons_zero, List.getElem?_cons_succ]; rfl
              refine step_store 24 (.tmp 16) (.tmp 92) rfl (V0.heap.size) _ rfl rfl BOX.out.there lay_info (all_oneCell_toArray (layC_one _ _ _)) (by kernel_rfl) ?_
              obtain ⟨V91, hV⟩ : ∃ V91, V91 = V90.setCells (V0.heap.size) 0 (layC (lP R) A7 c7) := ⟨_, rfl⟩
              have X := Lib.hid (show Ext w5b V91 by rw [hV]; exact ext_setCells BLE.out _ _ _ X.out)
              have K7 := Lib.hid (show Blk V91 (V0.heap.size) 24 (layC (lP R) A7 c7) by rw [hV]; exact blk_setCells BOX.out _ rfl)
              have S7 := Lib.hid (show SeenP V91 A7 (lP R).n (lP R).sh by rw [hV]; exact F7.out _)
              (try change K _ (V90.setCells (V0.heap.size) 0 (layC (lP R) A7 c7)))
              rw [← hV]
              refine hK.out _ _ X.out (fun h91 => ?_)
              clear hK K hV
              (try simp only [Act.put])
              refine wpAnyH_take (i := 21) (oi := ?_) (v := ?_) ?_ (by kernel_rfl) (by kernel_rfl) (by kernel_rfl) ?_ ?_ h91 ?_
              rotate_left 2
              · simp only [List.getElem?_toArray, List.getElem?_cons_zero, List.getElem?_cons_succ]; rfl
              · exact fun _ _ _ h => h
              · refine Or.inl ⟨by rfl, ?_⟩
                intro w hSw
                (try dsimp only at hSw)
                go_simp
                (try with_reducible rfl)
              (try simp only [Act.put, List.setIfInBounds_toArray, List.set_cons_zero, List.set_cons_succ])
              refine wpAnyH_done (by kernel_rfl) ?_ _
              refine NoPanic.normal ?_
              clear OK PR
              go_wp2_with fail
              go_meet
              exact ⟨V0.heap.size, A7, c7, _, rfl, rfl, K7.out, S7.out, X.out, rfl⟩
      case rest =>
        obtain ⟨b3, A7, c7, wn, rfl, rfl, k7, s7, x7, rfl⟩ := hcut
        obtain ⟨M3, hM, hQ⟩ := PR.out
        rw [show lP R = M3 by rw [lP, hM]; rfl] at k7 s7
        rw [show zP R = 0 by rw [zP, hM]; rfl]
        have K3 := Lib.hid k7
        have SM3 := Lib.hid s7
        have K1 := Lib.hid (K1.out.ext x7)
        have K2 := Lib.hid (K2.out.ext x7)
        have SM := Lib.hid (SM.out.ext x7)
        have SM2 := Lib.hid (SM2.out.ext x7)
        have X := Lib.hid (X.out.trans x7)
        have QM3 := Lib.hid hQ
        clear k7 s7 x7 hM hQ PR CELL BC BD BT RE TAKE
        have xb := Lib.hid (boxW_ext wn (DW q) none 0)
        have K4 := Lib.hid (boxW_blk wn (DW q) none 0)
        go_upto_region 17 with (refine wpList_boxW rfl _ _ rfl wn rfl (DW q) none 0 rfl rfl ?_)
        generalize boxW wn (DW q) none 0 = wb at *
        generalize wn.heap.size = b4 at *
        have xb := xb.out
        have K1 := Lib.hid (K1.out.ext xb)
        have K2 := Lib.hid (K2.out.ext xb)
        have K3 := Lib.hid (K3.out.ext xb)
        have X := Lib.hid (X.out.trans xb)
        have SAME1 := Lib.hid (rsame_yes M (DW q) A3 none c3 0 wb QM.out.symm (SM.out.ext xb) SeenP.nil (by rw [← QM.out.1]; exact Nat.zero_le _))
        have SAME2 := Lib.hid (fun w' (x : Ext wb w') => rsame_yes M2 (DW q) A5 none c5 0 w' QM2.out.symm ((SM2.out.ext xb).ext x) SeenP.nil (by rw [← QM2.out.1]; exact Nat.zero_le _))
        have SAME3 := Lib.hid (fun w' (x : Ext wb w') => rsame_yes M3 (DW q) A7 none c7 0 w' QM3.out.symm ((SM3.out.ext xb).ext x) SeenP.nil (by rw [← QM3.out.1]; exact Nat.zero_le _))
        clear xb SM SM2 SM3
        go_wp2_with (first | (refine wpList_getW (by kernel_rfl) _ rfl b1 rfl K1.out ?_) | (refine wpList_getW (by kernel_rfl) _ rfl b2 rfl K2.out ?_) | (refine wpList_getW (by kernel_rfl) _ rfl b3 rfl K3.out ?_) | (refine wpList_getW (by kernel_rfl) _ rfl b4 rfl K4.out ?_) | fail)
        refine SAME1.out.mono ?_
        rintro e w7 ⟨rfl, x7⟩
        have K2 := Lib.hid (K2.out.ext x7)
        have K3 := Lib.hid (K3.out.ext x7)
        have K4 := Lib.hid (K4.out.ext x7)
        have SAME2 := Lib.hid (SAME2.out _ x7)
        have SAME3 := Lib.hid (fun w' (x : Ext w7 w') => SAME3.out w' (x7.trans x))
        have X := Lib.hid (X.out.trans x7)
        clear x7 K1 SAME1
        go_wp2_with (first | (refine wpList_getW (by kernel_rfl) _ rfl b1 rfl K1.out ?_) | (refine wpList_getW (by kernel_rfl) _ rfl b2 rfl K2.out ?_) | (refine wpList_getW (by kernel_rfl) _ rfl b3 rfl K3.out ?_) | (refine wpList_getW (by kernel_rfl) _ rfl b4 rfl K4.out ?_) | fail)
        refine SAME2.out.mono ?_
        rintro e w8 ⟨rfl, x8⟩
        have K3 := Lib.hid (K3.out.ext x8)
        have K4 := Lib.hid (K4.out.ext x8)
        have SAME3 := Lib.hid (SAME3.out _ x8)
        have X := Lib.hid (X.out.trans x8)
        clear x8 K2 SAME2
        go_wp2_with (first | (refine wpList_getW (by kernel_rfl) _ rfl b1 rfl K1.out ?_) | (refine wpList_getW (by kernel_rfl) _ rfl b2 rfl K2.out ?_) | (refine wpList_getW (by kernel_rfl) _ rfl b3 rfl K3.out ?_) | (refine wpList_getW (by kernel_rfl) _ rfl b4 rfl K4.out ?_) | fail)
        refine SAME3.out.mono ?_
        rintro e w9 ⟨rfl, x9⟩
        have X9 := Lib.hid (X.out.trans x9)
        clear x9 K3 K4 SAME3
        go_wp2_with fail
        go_ret
        exact ⟨rfl, X9.out⟩
theorem walk (a : Int) (ha : 0 ≤ a ∧ a ≤ 4294967295) (z : Int) (hz : 0 ≤ z ∧ z ≤ 255) (w : World) (hT : Home w) :
    Calls Tryd.prog 6 #[.int .u32 a, .int .u8 z] w (Ret w (.bool true)) := core a ha.1 ha.2 z hz.1 hz.2 w hT

set_option maxRecDepth 100000 in
theorem lifted (os : Os) (started : os.Started) (H : Type) (enc : TypeId × Value → H) :
    ReturnsInHanded {} Tryd.checked os 6 .any (fun w args => (Rows.paramWidthSpec.pre enc Tryd.prog Tryd.f6 [] false w args ∧ laidMetH Tryd.prog doorLaid w) ∧ sizedMet enc Tryd.prog Tryd.f6 (OpenSpec.ofChange Rows.paramWidthSpec) false w args)
      (Rows.paramWidthSpec.post enc Tryd.prog Tryd.f6 false true false false) := by
  refine law_liftH started (by kernel_rfl) Tryd.func6 rfl rfl Tryd.underlying4 (by kernel_rfl) ?_
    (ChangeSpec.witness_shaped (enc := enc) (C := Tryd.checked) (os := os) (X := fun w _ => laidMetH Tryd.prog doorLaid w) false (World.laidAll Tryd.prog os doorLaid) #[.int .u32 0, .int .u8 0] 8 (World.laidAll_os _ _ _)
      (World.shaped_of_ZipB (by kernel_rfl) (by kernel_rfl)) (by kernel_rfl) (by kernel_rfl) (by kernel_rfl) (laidStart os _)) ?_
  · intro H ds h
    match ds, h with
    | [_, _], _ => rfl
  · intro W base args ds p hval hA hlt hT
    rw [Tryd.params6] at hA hval
    obtain ⟨v0, vs0, d0, ds0, p0, q0, hargs, rfl, rfl, h0, r0⟩ := trodAll_cons hA
    obtain ⟨v1, vs1, d1, ds1, p1, q1, rfl, rfl, rfl, h1, r1⟩ := trodAll_cons r0
    obtain ⟨rfl, rfl, rfl⟩ := trodAll_nil r1
    obtain rfl : args = #[v0, v1] := by cases args; simp_all
    obtain ⟨a0, rfl, rfl, rfl, wf0⟩ := open_int Tryd.underlying37 (hval 0 37 v0 rfl rfl) h0
    obtain ⟨a1, rfl, rfl, rfl, wf1⟩ := open_int Tryd.underlying5 (hval 1 5 v1 rfl rfl) h1
    exact walk a0 (bounds_u32 wf0) a1 (bounds_u8 wf1) W hT

theorem bare : Rows.ParamWidthSaid :=
  OpenClaim.holds_of_wide 6 Tryd.f6 rfl rfl rfl rfl rfl rfl rfl ⟨rfl, rfl, rfl, rfl, rfl⟩ rfl rfl rfl rfl rfl (by kernel_rfl) Tryd.func6 (by kernel_rfl)
    (of_decide_eq_true (by kernel_rfl)) (by unfold Func.isWrapper; first | (rw [if_pos (by decide +kernel)]; kernel_rfl) | (rw [if_neg (by decide +kernel)]; exact ⟨rfl, rfl⟩))
    (fun os started H enc _ => lifted os started H enc)
theorem holds : Rows.ParamWidthCardSaid :=
  Claim7.holds_tied_plain_at .later [] [.data, .data, .data, .data, .sentinel, .sentinel, .data, .pinned] true Rows.paramWidthCard.stood.harness true bare (fun _ h => by cases h) (by kernel_rfl) (fun _ h => by cases h) paramWidth_row_tie rfl ⟨rfl, rfl⟩ (by kernel_rfl) rfl
    (fun f fn hf hfn => by
      obtain rfl : f = 6 := Option.some.inj ((show Tryd.prog.funcNamed "compositor/compositorlaw14.ParamWidth" = some 6 by kernel_rfl).symm.trans hf) |>.symm
      obtain rfl : fn = Tryd.f6 := (Option.some.inj (Tryd.func6.symm.trans hfn)).symm
      exact ⟨by kernel_rfl, standsIn (ts := [37, 5]) (by kernel_rfl) (by rw [Tryd.params6])⟩)
    (by kernel_rfl)
end ParamWidth
end Go.Proofs.YteflkagilhmeiaaDoor

