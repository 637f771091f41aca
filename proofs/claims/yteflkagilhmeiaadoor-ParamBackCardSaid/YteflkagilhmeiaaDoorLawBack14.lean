/- ParamBack: layouts are read as they were written, and what was read is written so that it is read again: for every input. Written by gen14/back.py. -/
import Derived.Test.YteflkagilhmeiaaDoorUni14
namespace Go.Proofs.YteflkagilhmeiaaDoor
open Go.ChangeShapes Go.WideShapes Go.ChangeAt Go.RowKit Go.Deep
namespace ParamBack
open L14

set_option maxRecDepth 100000 in
theorem big (L : LayD) (A : Option Addr) (c : Nat) (B : Option Addr) (n d : Nat) (w : World) (hT : Home w) (h : 100 < L.n ∨ 2000 < n) :
    Calls Tryd.prog 4 #[.agg (layC L A c).toArray, .slice B n d] w (Ret w (.bool true)) := by
  obtain ⟨WA, hWA⟩ : ∃ WA, WA = w.alloc (.cells (layC L A c).toArray 24) := ⟨_, rfl⟩
  have x0 : Ext w WA := by rw [hWA]; exact (Ext.refl _).alloc _
  have K0 := Lib.hid (show Blk WA w.heap.size 24 (layC L A c) by rw [hWA]; exact Blk.lit _ _ _ _ rfl)
  have X := Lib.hid x0
  have AW := Lib.hid (awake_any WA (hT.ext x0))
  have hor : (decide ((100 : Int) < (L.n : Int)) || decide ((2000 : Int) < (n : Int))) = true := by simp; omega
  clear hT x0
  go_enter Tryd.func4, Tryd.ntmps4
  go_upto_region 1 with (fail)
  rw [← hWA]
  clear hWA
  generalize w.heap.size = b0 at *
  go_wp2_with fail
  refine AW.out.mono ?_
  rintro e w1 ⟨rfl, x1⟩
  have X := Lib.hid (X.out.trans x1)
  have a4 : w1.cell? ⟨b0, 4, none⟩ = some (.slice A L.n c) := (K0.out.ext x1).cell 4
  clear x1 AW
  by_cases h1 : (100 : Int) < (L.n : Int)
  · go_wp2_with fail
    go_ret
    exact ⟨rfl, X.out⟩
  · have h2 : (2000 : Int) < (n : Int) := by omega
    go_wp2_with fail
    go_ret
    exact ⟨rfl, X.out⟩
set_option maxRecDepth 100000 in
set_option maxHeartbeats 16000000 in
theorem core (L : LayD) (A : Option Addr) (c : Nat) (ok : LayOk L c) (B : Option Addr) (t : List UInt8) (n d : Nat) (w : World) (sn : SeenP w A L.n L.sh) (hb : SeenB w B t) (hT : Home w) (hn : n = t.length) (hd : n ≤ d) (hl : L.n ≤ 100) (ht : n ≤ 2000) :
    Calls Tryd.prog 4 #[.agg (layC L A c).toArray, .slice B n d] w (Ret w (.bool true)) := by
  obtain ⟨WA, hWA⟩ : ∃ WA, WA = w.alloc (.cells (layC L A c).toArray 24) := ⟨_, rfl⟩
  have x0 : Ext w WA := by rw [hWA]; exact (Ext.refl _).alloc _
  have K0 := Lib.hid (show Blk WA w.heap.size 24 (layC L A c) by rw [hWA]; exact Blk.lit _ _ _ _ rfl)
  have X := Lib.hid x0
  have SN := Lib.hid (sn.ext x0)
  have HB := Lib.hid (hb.ext x0)
  have HT := Lib.hid (hT.ext x0)
  have AW := Lib.hid (awake_any WA HT.out)
  have OK := Lib.hid ok
  have WR := Lib.hid (wrote ok)
  have HN := Lib.hid hn
  have hl64 : (L.n : Int) ≤ 100 := by omega
  have ht64 : (n : Int) ≤ 2000 := by omega
  clear sn hb hT hn x0 ok
  go_enter Tryd.func4, Tryd.ntmps4
  go_upto_region 1 with (fail)
  rw [← hWA]
  clear hWA
  generalize w.heap.size = b0 at *
  go_wp2_with fail
  refine AW.out.mono ?_
  rintro e w1 ⟨rfl, x1⟩
  clear AW
  have SN := Lib.hid (SN.out.ext x1)
  have HB := Lib.hid (HB.out.ext x1)
  have HT := Lib.hid (HT.out.ext x1)
  have K0 := Lib.hid (K0.out.ext x1)
  have X := Lib.hid (X.out.trans x1)
  clear x1
  have a4 : w1.cell? ⟨b0, 4, none⟩ = some (.slice A L.n c) := K0.out.cell 4
  have CW := Lib.hid (write_uni L A c w1 OK.out SN.out HT.out)
  go_upto_region 4 with (fail)
  clear a4
  go_wp2_with (first | (refine wpList_getW (by kernel_rfl) _ rfl b0 rfl K0.out ?_) | fail)
  refine CW.out.mono ?_
  rintro e w2 ⟨x2, A2, n2, c2, rfl, h2, hc2, hm2, s2⟩
  clear CW
  have S2 := Lib.hid s2
  clear s2
  have SN := Lib.hid (SN.out.ext x2)
  have HB := Lib.hid (HB.out.ext x2)
  have HT := Lib.hid (HT.out.ext x2)
  have K0 := Lib.hid (K0.out.ext x2)
  have X := Lib.hid (X.out.trans x2)
  have CP := Lib.hid (parse_uni A2 (tW L) n2 c2 w2 S2.out h2 (by have := text_len OK.out; omega) hc2 HT.out)
  have TL := Lib.hid (text_len OK.out)
  clear x2 S2 h2 hc2 hm2
  go_wp2_with fail
  refine CP.out.mono ?_
  rintro e w3 ⟨x3, A3, c3, rfl, ok3, sn3⟩
  clear CP
  have SM := Lib.hid sn3
  clear ok3 sn3
  have SN := Lib.hid (SN.out.ext x3)
  have HB := Lib.hid (HB.out.ext x3)
  have HT := Lib.hid (HT.out.ext x3)
  have K0 := Lib.hid (K0.out.ext x3)
  have X := Lib.hid (X.out.trans x3)
  clear x3
  obtain ⟨M, hM⟩ : ∃ M, M = lP (tW L) := ⟨_, rfl⟩
  obtain ⟨z, hz⟩ : ∃ z, z = zP (tW L) := ⟨_, rfl⟩
  obtain ⟨y, hy⟩ : ∃ y, y = zW L := ⟨_, rfl⟩
  rw [← hM] at SM WR
  rw [← hz, ← hy] at WR
  rw [← hM, ← hz, ← hy]
  clear hM hz hy
  have xb := Lib.hid (boxW_ext w3 M A3 c3)
  have K1 := Lib.hid (boxW_blk w3 M A3 c3)
  go_upto_region 6 with (refine wpList_boxW rfl _ _ rfl w3 rfl M A3 c3 rfl rfl ?_)
  generalize boxW w3 M A3 c3 = w3b at *
  generalize w3.heap.size = b1 at *
  have xb := xb.out
  have SN := Lib.hid (SN.out.ext xb)
  have HB := Lib.hid (HB.out.ext xb)
  have HT := Lib.hid (HT.out.ext xb)
  have SM := Lib.hid (SM.out.ext xb)
  have K0 := Lib.hid (K0.out.ext xb)
  have X := Lib.hid (X.out.trans xb)
  clear xb
  have SAME := Lib.hid (show Calls Tryd.prog 13 #[.agg (layC L A c).toArray, .agg (layC M A3 c3).toArray] w3b (fun e w' => (∃ b, e = .returned (.bool b) ∧ (mayL L = true → b = true)) ∧ Ext w3b w') by
    rcases WR.out with ⟨_, _, _, h4⟩ | ⟨h1, _, _, h4⟩
    · refine (rsame_yes L M A A3 c c3 w3b h4 SN.out SM.out (by omega)).mono ?_
      rintro e w' ⟨rfl, x⟩
      exact ⟨⟨true, rfl, fun _ => rfl⟩, x⟩
    · refine (rsame_zero L M A A3 c c3 w3b (by rw [h4]; rfl) SN.out SM.out).mono ?_
      rintro e w' ⟨⟨b, rfl⟩, x⟩
      exact ⟨⟨b, rfl, fun h => by rw [h1] at h; cases h⟩, x⟩)
  go_wp2_with (first | (refine wpList_getW (by kernel_rfl) _ rfl b0 rfl K0.out ?_) | (refine wpList_getW (by kernel_rfl) _ rfl b1 rfl K1.out ?_) | fail)
  refine SAME.out.mono ?_
  rintro e w4 ⟨⟨b, rfl, hb⟩, x4⟩
  clear SAME
  have SN := Lib.hid (SN.out.ext x4)
  have HB := Lib.hid (HB.out.ext x4)
  have HT := Lib.hid (HT.out.ext x4)
  have SM := Lib.hid (SM.out.ext x4)
  have K0 := Lib.hid (K0.out.ext x4)
  have K1 := Lib.hid (K1.out.ext x4)
  have X := Lib.hid (X.out.trans x4)
  clear x4
  have CK := Lib.hid (check_uni L A c w4 OK.out SN.out HT.out)
  have WR2 := Lib.hid (show (mayL L = true ∧ y = 0 ∧ z = 0 ∧ b = true) ∨ (mayL L = false ∧ y = 140) from WR.out.elim (fun h => .inl ⟨h.1, h.2.1, h.2.2.1, hb h.1⟩) (fun h => .inr ⟨h.1, h.2.1⟩))
  clear hb WR
  rcases WR2.out with ⟨h1, rfl, rfl, rfl⟩ | ⟨h1, rfl⟩
  · rw [h1] at CK
    go_wp2_with (first | (refine wpList_getW (by kernel_rfl) _ rfl b0 rfl K0.out ?_) | fail)
    refine CK.out.mono ?_
    rintro e w5 ⟨rfl, x5⟩
    clear CK
    have SN := Lib.hid (SN.out.ext x5)
    have HB := Lib.hid (HB.out.ext x5)
    have HT := Lib.hid (HT.out.ext x5)
    have K0 := Lib.hid (K0.out.ext x5)
    have X := Lib.hid (X.out.trans x5)
    clear x5
    have CT := Lib.hid (parse_uni B t n d w5 HB.out HN.out (by omega) hd HT.out)
    go_wp2_with fail
    refine CT.out.mono ?_
    rintro e w6 ⟨x6, A6, c6, rfl, ok6, sn6⟩
    clear CT
    have SN := Lib.hid (SN.out.ext x6)
    have HB := Lib.hid (HB.out.ext x6)
    have HT := Lib.hid (HT.out.ext x6)
    have K0 := Lib.hid (K0.out.ext x6)
    have X := Lib.hid (X.out.trans x6)
    clear x6
    have AG := Lib.hid (again ok6)
    have OK6 := Lib.hid ok6
    have SN6 := Lib.hid sn6
    have F6 := Lib.hid (read_few t)
    clear ok6 sn6
    obtain ⟨N, hN⟩ : ∃ N, N = lP t := ⟨_, rfl⟩
    obtain ⟨zn, hz⟩ : ∃ zn, zn = zP t := ⟨_, rfl⟩
    rw [← hN] at AG OK6 SN6 F6
    rw [← hz] at AG
    rw [← hN, ← hz]
    clear hN hz
    have xb := Lib.hid (boxW_ext w6 N A6 c6)
    have K2 := Lib.hid (boxW_blk w6 N A6 c6)
    go_upto_region 10 with (refine wpList_boxW rfl _ _ rfl w6 rfl N A6 c6 rfl rfl ?_)
    generalize boxW w6 N A6 c6 = w6b at *
    generalize w6.heap.size = b2 at *
    have xb := xb.out
    have SN := Lib.hid (SN.out.ext xb)
    have HB := Lib.hid (HB.out.ext xb)
    have HT := Lib.hid (HT.out.ext xb)
    have SN6 := Lib.hid (SN6.out.ext xb)
    have K0 := Lib.hid (K0.out.ext xb)
    have X := Lib.hid (X.out.trans xb)
    clear xb
    have CW := Lib.hid (write_uni N A6 c6 w6b OK6.out SN6.out HT.out)
    go_wp2_with (first | (refine wpList_getW (by kernel_rfl) _ rfl b0 rfl K0.out ?_) | (refine wpList_getW (by kernel_rfl) _ rfl b2 rfl K2.out ?_) | fail)
    refine CW.out.mono ?_
    rintro e w7 ⟨x7, A7, n7, c7, rfl, h7, hc7, _, s7⟩
    clear CW
    have SN := Lib.hid (SN.out.ext x7)
    have HB := Lib.hid (HB.out.ext x7)
    have HT := Lib.hid (HT.out.ext x7)
    have SN6 := Lib.hid (SN6.out.ext x7)
    have K0 := Lib.hid (K0.out.ext x7)
    have K2 := Lib.hid (K2.out.ext x7)
    have X := Lib.hid (X.out.trans x7)
    have CP := Lib.hid (parse_uni A7 (tW N) n7 c7 w7 s7 h7 (by have := text_len OK6.out; omega) hc7 HT.out)
    clear x7 s7 h7 hc7
    go_wp2_with fail
    refine CP.out.mono ?_
    rintro e w8 ⟨x8, A8, c8, rfl, _, sn8⟩
    clear CP
    have SN8 := Lib.hid sn8
    clear sn8
    have SN := Lib.hid (SN.out.ext x8)
    have HB := Lib.hid (HB.out.ext x8)
    have HT := Lib.hid (HT.out.ext x8)
    have SN6 := Lib.hid (SN6.out.ext x8)
    have K0 := Lib.hid (K0.out.ext x8)
    have K2 := Lib.hid (K2.out.ext x8)
    have X := Lib.hid (X.out.trans x8)
    clear x8
    obtain ⟨O, hO⟩ : ∃ O, O = lP (tW N) := ⟨_, rfl⟩
    obtain ⟨zo, hz⟩ : ∃ zo, zo = zP (tW N) := ⟨_, rfl⟩
    obtain ⟨yn, hy⟩ : ∃ yn, yn = zW N := ⟨_, rfl⟩
    rw [← hO] at AG SN8
    rw [← hz, ← hy] at AG
    rw [← hO, ← hz, ← hy]
    clear hO hz hy
    have xb := Lib.hid (boxW_ext w8 O A8 c8)
    have K3 := Lib.hid (boxW_blk w8 O A8 c8)
    go_upto_region 12 with (refine wpList_boxW rfl _ _ rfl w8 rfl O A8 c8 rfl rfl ?_)
    generalize boxW w8 O A8 c8 = w8b at *
    generalize w8.heap.size = b3 at *
    have xb := xb.out
    have SN := Lib.hid (SN.out.ext xb)
    have HB := Lib.hid (HB.out.ext xb)
    have HT := Lib.hid (HT.out.ext xb)
    have SN6 := Lib.hid (SN6.out.ext xb)
    have SN8 := Lib.hid (SN8.out.ext xb)
    have K0 := Lib.hid (K0.out.ext xb)
    have K2 := Lib.hid (K2.out.ext xb)
    have X := Lib.hid (X.out.trans xb)
    clear xb
    have SAME := Lib.hid (rsame_yes N O A6 A8 c6 c8 w8b AG.out.1 SN6.out SN8.out (by have := F6.out; omega))
    go_wp2_with (first | (refine wpList_getW (by kernel_rfl) _ rfl b0 rfl K0.out ?_) | (refine wpList_getW (by kernel_rfl) _ rfl b2 rfl K2.out ?_) | (refine wpList_getW (by kernel_rfl) _ rfl b3 rfl K3.out ?_) | fail)
    refine SAME.out.mono ?_
    rintro e w9 ⟨rfl, x9⟩
    clear SAME
    have X := Lib.hid (X.out.trans x9)
    clear x9
    rcases AG.out.2 with rfl | ⟨rfl, rfl, rfl⟩
    · go_wp2_with fail
      go_ret
      exact ⟨rfl, X.out⟩
    · go_wp2_with fail
      go_ret
      exact ⟨rfl, X.out⟩
  · rw [h1] at CK
    go_wp2_with (first | (refine wpList_getW (by kernel_rfl) _ rfl b0 rfl K0.out ?_) | fail)
    refine CK.out.mono ?_
    rintro e w5 ⟨rfl, x5⟩
    clear CK
    have SN := Lib.hid (SN.out.ext x5)
    have HB := Lib.hid (HB.out.ext x5)
    have HT := Lib.hid (HT.out.ext x5)
    have K0 := Lib.hid (K0.out.ext x5)
    have X := Lib.hid (X.out.trans x5)
    clear x5
    have CT := Lib.hid (parse_uni B t n d w5 HB.out HN.out (by omega) hd HT.out)
    go_wp2_with fail
    refine CT.out.mono ?_
    rintro e w6 ⟨x6, A6, c6, rfl, ok6, sn6⟩
    clear CT
    have SN := Lib.hid (SN.out.ext x6)
    have HB := Lib.hid (HB.out.ext x6)
    have HT := Lib.hid (HT.out.ext x6)
    have K0 := Lib.hid (K0.out.ext x6)
    have X := Lib.hid (X.out.trans x6)
    clear x6
    have AG := Lib.hid (again ok6)
    have OK6 := Lib.hid ok6
    have SN6 := Lib.hid sn6
    have F6 := Lib.hid (read_few t)
    clear ok6 sn6
    obtain ⟨N, hN⟩ : ∃ N, N = lP t := ⟨_, rfl⟩
    obtain ⟨zn, hz⟩ : ∃ zn, zn = zP t := ⟨_, rfl⟩
    rw [← hN] at AG OK6 SN6 F6
    rw [← hz] at AG
    rw [← hN, ← hz]
    clear hN hz
    have xb := Lib.hid (boxW_ext w6 N A6 c6)
    have K2 := Lib.hid (boxW_blk w6 N A6 c6)
    go_upto_region 10 with (refine wpList_boxW rfl _ _ rfl w6 rfl N A6 c6 rfl rfl ?_)
    generalize boxW w6 N A6 c6 = w6b at *
    generalize w6.heap.size = b2 at *
    have xb := xb.out
    have SN := Lib.hid (SN.out.ext xb)
    have HB := Lib.hid (HB.out.ext xb)
    have HT := Lib.hid (HT.out.ext xb)
    have SN6 := Lib.hid (SN6.out.ext xb)
    have K0 := Lib.hid (K0.out.ext xb)
    have X := Lib.hid (X.out.trans xb)
    clear xb
    have CW := Lib.hid (write_uni N A6 c6 w6b OK6.out SN6.out HT.out)
    go_wp2_with (first | (refine wpList_getW (by kernel_rfl) _ rfl b0 rfl K0.out ?_) | (refine wpList_getW (by kernel_rfl) _ rfl b2 rfl K2.out ?_) | fail)
    refine CW.out.mono ?_
    rintro e w7 ⟨x7, A7, n7, c7, rfl, h7, hc7, _, s7⟩
    clear CW
    have SN := Lib.hid (SN.out.ext x7)
    have HB := Lib.hid (HB.out.ext x7)
    have HT := Lib.hid (HT.out.ext x7)
    have SN6 := Lib.hid (SN6.out.ext x7)
    have K0 := Lib.hid (K0.out.ext x7)
    have K2 := Lib.hid (K2.out.ext x7)
    have X := Lib.hid (X.out.trans x7)
    have CP := Lib.hid (parse_uni A7 (tW N) n7 c7 w7 s7 h7 (by have := text_len OK6.out; omega) hc7 HT.out)
    clear x7 s7 h7 hc7
    go_wp2_with fail
    refine CP.out.mono ?_
    rintro e w8 ⟨x8, A8, c8, rfl, _, sn8⟩
    clear CP
    have SN8 := Lib.hid sn8
    clear sn8
    have SN := Lib.hid (SN.out.ext x8)
    have HB := Lib.hid (HB.out.ext x8)
    have HT := Lib.hid (HT.out.ext x8)
    have SN6 := Lib.hid (SN6.out.ext x8)
    have K0 := Lib.hid (K0.out.ext x8)
    have K2 := Lib.hid (K2.out.ext x8)
    have X := Lib.hid (X.out.trans x8)
    clear x8
    obtain ⟨O, hO⟩ : ∃ O, O = lP (tW N) := ⟨_, rfl⟩
    obtain ⟨zo, hz⟩ : ∃ zo, zo = zP (tW N) := ⟨_, rfl⟩
    obtain ⟨yn, hy⟩ : ∃ yn, yn = zW N := ⟨_, rfl⟩
    rw [← hO] at AG SN8
    rw [← hz, ← hy] at AG
    rw [← hO, ← hz, ← hy]
    clear hO hz hy
    have xb := Lib.hid (boxW_ext w8 O A8 c8)
    have K3 := Lib.hid (boxW_blk w8 O A8 c8)
    go_upto_region 12 with (refine wpList_boxW rfl _ _ rfl w8 rfl O A8 c8 rfl rfl ?_)
    generalize boxW w8 O A8 c8 = w8b at *
    generalize w8.heap.size = b3 at *
    have xb := xb.out
    have SN := Lib.hid (SN.out.ext xb)
    have HB := Lib.hid (HB.out.ext xb)
    have HT := Lib.hid (HT.out.ext xb)
    have SN6 := Lib.hid (SN6.out.ext xb)
    have SN8 := Lib.hid (SN8.out.ext xb)
    have K0 := Lib.hid (K0.out.ext xb)
    have K2 := Lib.hid (K2.out.ext xb)
    have X := Lib.hid (X.out.trans xb)
    clear xb
    have SAME := Lib.hid (rsame_yes N O A6 A8 c6 c8 w8b AG.out.1 SN6.out SN8.out (by have := F6.out; omega))
    go_wp2_with (first | (refine wpList_getW (by kernel_rfl) _ rfl b0 rfl K0.out ?_) | (refine wpList_getW (by kernel_rfl) _ rfl b2 rfl K2.out ?_) | (refine wpList_getW (by kernel_rfl) _ rfl b3 rfl K3.out ?_) | fail)
    refine SAME.out.mono ?_
    rintro e w9 ⟨rfl, x9⟩
    clear SAME
    have X := Lib.hid (X.out.trans x9)
    clear x9
    rcases AG.out.2 with rfl | ⟨rfl, rfl, rfl⟩
    · go_wp2_with fail
      go_ret
      exact ⟨rfl, X.out⟩
    · go_wp2_with fail
      go_ret
      exact ⟨rfl, X.out⟩
theorem walk (D0 : LayD) (A0 : Option Addr) (c0 : Nat) (ok0 : LayOk D0 c0) (A1 : Option Addr) (l1 : List UInt8) (c1 : Nat) (hc1 : l1.length ≤ c1) (_ : c1 ≤ maxLen) (w : World) (h0 : SeenP w A0 D0.n D0.sh) (h1 : SeenB w A1 l1) (hT : Home w) :
    Calls Tryd.prog 4 #[layV D0 A0 c0, .slice A1 l1.length c1] w (Ret w (.bool true)) := by
  by_cases hl : D0.n ≤ 100
  · by_cases ht : l1.length ≤ 2000
    · exact core D0 A0 c0 ok0 A1 l1 l1.length c1 w h0 h1 hT rfl hc1 hl ht
    · exact big D0 A0 c0 A1 l1.length c1 w hT (.inr (by omega))
  · exact big D0 A0 c0 A1 l1.length c1 w hT (.inl (by omega))

set_option maxRecDepth 100000 in
theorem lifted (os : Os) (started : os.Started) (H : Type) (enc : TypeId × Value → H) :
    ReturnsInHanded {} Tryd.checked os 4 .any (fun w args => (Rows.paramBackSpec.pre enc Tryd.prog Tryd.f4 [] false w args ∧ laidMetH Tryd.prog doorLaid w) ∧ sizedMet enc Tryd.prog Tryd.f4 (OpenSpec.ofChange Rows.paramBackSpec) false w args)
      (Rows.paramBackSpec.post enc Tryd.prog Tryd.f4 false true false false) := by
  refine law_liftH started (by kernel_rfl) Tryd.func4 rfl rfl Tryd.underlying4 (by kernel_rfl) ?_
    (ChangeSpec.witness_shaped (enc := enc) (C := Tryd.checked) (os := os) (X := fun w _ => laidMetH Tryd.prog doorLaid w) false (World.laidAll Tryd.prog os doorLaid) #[.agg #[.int .i64 0, .int .i64 0, .int .i64 0, .int .i64 0, .slice none 0 0, .int .i64 0, .int .i64 0, .int .i64 0, .int .i64 0, .int .i64 0, .int .i64 0, .int .i64 0, .int .i64 0, .int .i64 0, .int .i64 0, .int .i64 0, .int .i64 0, .int .i64 0, .int .i64 0, .int .i64 0, .int .i64 0], .slice none 0 0] 8 (World.laidAll_os _ _ _)
      (World.shaped_of_ZipB (by kernel_rfl) (by kernel_rfl)) (by kernel_rfl) (by kernel_rfl) (by kernel_rfl) (laidStart os _)) ?_
  · intro H ds h
    match ds, h with
    | [_, _], _ => rfl
  · intro W base args ds p hval hA hlt hT
    rw [Tryd.params4] at hA hval
    obtain ⟨v0, vs0, d0, ds0, p0, q0, hargs, rfl, rfl, h0, r0⟩ := trodAll_cons hA
    obtain ⟨v1, vs1, d1, ds1, p1, q1, rfl, rfl, rfl, h1, r1⟩ := trodAll_cons r0
    obtain ⟨rfl, rfl, rfl⟩ := trodAll_nil r1
    obtain rfl : args = #[v0, v1] := by cases args; simp_all
    obtain ⟨D0, A0, c0, rfl, ok0, hs0⟩ := arg_layout (hval 0 24 v0 rfl rfl) h0
    obtain ⟨A1, l1, c1, rfl, hc1, hm1, hs1⟩ := seen_bytes Tryd.underlying26 Tryd.underlying5 (by kernel_rfl) (hval 1 26 v1 rfl rfl) h1
    exact walk D0 A0 c0 ok0 A1 l1 c1 hc1 hm1 W hs0 hs1 hT

theorem bare : Rows.ParamBackSaid :=
  OpenClaim.holds_of_wide 4 Tryd.f4 rfl rfl rfl rfl rfl rfl rfl ⟨rfl, rfl, rfl, rfl, rfl⟩ rfl rfl rfl rfl rfl (by kernel_rfl) Tryd.func4 (by kernel_rfl)
    (of_decide_eq_true (by kernel_rfl)) (by unfold Func.isWrapper; first | (rw [if_pos (by decide +kernel)]; kernel_rfl) | (rw [if_neg (by decide +kernel)]; exact ⟨rfl, rfl⟩))
    (fun os started H enc _ => lifted os started H enc)
theorem holds : Rows.ParamBackCardSaid :=
  Claim7.holds_tied_plain_at .later [] [.data, .data, .data, .data, .sentinel, .sentinel, .data, .pinned] true Rows.paramBackCard.stood.harness true bare (fun _ h => by cases h) (by kernel_rfl) (fun _ h => by cases h) paramBack_row_tie rfl ⟨rfl, rfl⟩ (by kernel_rfl) rfl
    (fun f fn hf hfn => by
      obtain rfl : f = 4 := Option.some.inj ((show Tryd.prog.funcNamed "compositor/compositorlaw14.ParamBack" = some 4 by kernel_rfl).symm.trans hf) |>.symm
      obtain rfl : fn = Tryd.f4 := (Option.some.inj (Tryd.func4.symm.trans hfn)).symm
      exact ⟨by kernel_rfl, standsIn (ts := [24, 26]) (by kernel_rfl) (by rw [Tryd.params4])⟩)
    (by kernel_rfl)
end ParamBack
end Go.Proofs.YteflkagilhmeiaaDoor

