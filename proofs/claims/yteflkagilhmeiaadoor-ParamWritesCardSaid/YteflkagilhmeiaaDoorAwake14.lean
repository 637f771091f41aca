/- What all statements of layer 14 begin with: it is so. -/
import Derived.Test.YteflkagilhmeiaaDoorBox14
namespace Go.Proofs.YteflkagilhmeiaaDoor
open Go.RowKit
namespace L14

set_option maxRecDepth 100000 in
set_option maxHeartbeats 8000000 in
theorem awake_any (w : World) (hT : Home w) : Calls Tryd.prog 7 #[] w (Ret w (.bool true)) := by
  have HT := Lib.hid hT
  clear hT
  obtain ⟨M1, p1, q1⟩ := t1_parse
  have QW := Lib.hid (show writeL M1 = some TW by rw [writeL, ← q1.mayL, d1_may, if_pos rfl, ← q1.textL, tw_text])
  have QC := Lib.hid (show mayL M1 = true by rw [← q1.mayL, d1_may])
  have Q0 := Lib.hid (show M1.v 0 = 100 from (q1.2.1 0 (by decide) (by decide)).symm)
  have Qn := Lib.hid (show M1.n = 1 from q1.1.symm)
  have Qs := Lib.hid (show M1.sh 0 = (3, 50) from (q1.2.2 0 (by decide)).symm)
  clear q1
  have kc := fun (w : World) (C : Array Value) (n c : Nat) => Lib.run_convert_bytes_const (P := Tryd.prog) w 26 5 C n c Tryd.underlying26 Tryd.underlying5
  go_enter Tryd.func7, Tryd.ntmps7
  go_wp2_with fail
  refine (parse_any (some ⟨w.heap.size, 0, none⟩) T1 21 21 _ (seen_marked w _ T1 5 _ rfl) rfl (by omega) (Nat.le_refl _) (HT.out.ext ((Ext.refl _).alloc _))).mono ?_
  rintro e w1 ⟨L, A, c, z, rfl, ok, sn, x1, _, hm⟩
  rw [p1] at hm
  obtain ⟨rfl, rfl⟩ := hm
  clear p1
  have X1 := Lib.hid (((Ext.refl w).alloc _).trans x1)
  clear x1
  have xb := Lib.hid (boxW_ext w1 L A c)
  have kb := Lib.hid (boxW_blk w1 L A c)
  have OK := Lib.hid ok
  have SN := Lib.hid sn
  clear ok sn
  go_upto_region 2 with (refine wpList_boxW rfl _ _ rfl w1 rfl L A c rfl rfl ?_)
  generalize boxW w1 L A c = W2 at *
  generalize w1.heap.size = b1 at *
  have K2 := kb
  have X2 := Lib.hid (X1.out.trans xb.out)
  have SN := Lib.hid (SN.out.ext xb.out)
  have HT2 := Lib.hid (HT.out.ext X2.out)
  clear xb kb X1 HT
  have CW := Lib.hid (write_any L A c W2 OK.out SN.out HT2.out)
  rw [QW.out] at CW
  go_wp2_with (refine wpList_getW (by kernel_rfl) _ rfl b1 rfl K2.out ?_)
  refine CW.out.mono ?_
  rintro e w3 ⟨x3, A3, n3, c3, rfl, h3, _, _, s3⟩
  have K2 := Lib.hid (K2.out.ext x3)
  have SN := Lib.hid (SN.out.ext x3)
  have HT2 := Lib.hid (HT2.out.ext x3)
  have X := Lib.hid (X2.out.trans x3)
  have S3 := Lib.hid s3
  have H3 := Lib.hid h3
  clear x3 s3 h3 X2 CW
  go_wp2_with fail
  refine (parse_any (some ⟨w3.heap.size, 0, none⟩) T2 20 20 _ (seen_marked w3 _ T2 5 _ rfl) rfl (by omega) (Nat.le_refl _) (HT2.out.ext ((Ext.refl _).alloc _))).mono ?_
  rintro e w4 ⟨L4, A4, c4, z4, rfl, _, _, x4, _, hm⟩
  rw [t2_parse] at hm
  obtain ⟨rfl, rfl⟩ := hm
  have xa := ((Ext.refl w3).alloc _).trans x4
  clear x4
  have K2 := Lib.hid (K2.out.ext xa)
  have SN := Lib.hid (SN.out.ext xa)
  have HT2 := Lib.hid (HT2.out.ext xa)
  have S3 := Lib.hid (S3.out.ext xa)
  have X := Lib.hid (X.out.trans xa)
  clear xa
  have xb := Lib.hid (boxW_ext w4 LZ A4 c4)
  go_upto_region 4 with (refine wpList_boxW rfl _ _ rfl w4 rfl LZ A4 c4 rfl rfl ?_)
  generalize boxW w4 LZ A4 c4 = w4b at *
  generalize w4.heap.size = bw4 at *
  have xb := xb.out
  have K2 := Lib.hid (K2.out.ext xb)
  have SN := Lib.hid (SN.out.ext xb)
  have HT2 := Lib.hid (HT2.out.ext xb)
  have S3 := Lib.hid (S3.out.ext xb)
  have X := Lib.hid (X.out.trans xb)
  clear xb
  go_wp2_with fail
  refine (parse_any (some ⟨w4b.heap.size, 0, none⟩) T3 9 9 _ (seen_marked w4b _ T3 5 _ rfl) rfl (by omega) (Nat.le_refl _) (HT2.out.ext ((Ext.refl _).alloc _))).mono ?_
  rintro e w5 ⟨L4, A4, c4, z4, rfl, _, _, x4, _, hm⟩
  rw [t3_parse] at hm
  obtain ⟨rfl, rfl⟩ := hm
  have xa := ((Ext.refl w4b).alloc _).trans x4
  clear x4
  have K2 := Lib.hid (K2.out.ext xa)
  have SN := Lib.hid (SN.out.ext xa)
  have HT2 := Lib.hid (HT2.out.ext xa)
  have S3 := Lib.hid (S3.out.ext xa)
  have X := Lib.hid (X.out.trans xa)
  clear xa
  have xb := Lib.hid (boxW_ext w5 LZ A4 c4)
  go_upto_region 5 with (refine wpList_boxW rfl _ _ rfl w5 rfl LZ A4 c4 rfl rfl ?_)
  generalize boxW w5 LZ A4 c4 = w5b at *
  generalize w5.heap.size = bw5 at *
  have xb := xb.out
  have K2 := Lib.hid (K2.out.ext xb)
  have SN := Lib.hid (SN.out.ext xb)
  have HT2 := Lib.hid (HT2.out.ext xb)
  have S3 := Lib.hid (S3.out.ext xb)
  have X := Lib.hid (X.out.trans xb)
  clear xb
  have CZ := Lib.hid (write_any LZ none 0 w5b zero_ok SeenP.nil HT2.out)
  rw [show writeL LZ = none by rw [writeL, mayL_zero]; rfl] at CZ
  go_wp2_with fail
  refine CZ.out.mono ?_
  rintro e w6 ⟨x6, rfl⟩
  clear CZ
  have K2 := Lib.hid (K2.out.ext x6)
  have SN := Lib.hid (SN.out.ext x6)
  have HT2 := Lib.hid (HT2.out.ext x6)
  have S3 := Lib.hid (S3.out.ext x6)
  have X := Lib.hid (X.out.trans x6)
  clear x6
  have u0 : w6.cell? ⟨b1, 0, none⟩ = some (.int .i64 (L.v 0)) := K2.out.cell 0
  have u4 : w6.cell? ⟨b1, 4, none⟩ = some (.slice A L.n c) := K2.out.cell 4
  rw [Q0.out] at u0
  rw [Qn.out] at u4
  obtain ⟨ad, hA, s0, s1⟩ := SN.out.get (show 0 < L.n by rw [Qn.out]; decide)
  rw [Qs.out] at s0 s1
  simp only [Nat.zero_mul, Addr.add_zero'] at s0 s1
  rw [hA] at u4
  have HA := Lib.hid hA
  clear hA
  have hstr := SeenB.str (P := Tryd.prog) S3.out 26 9 5 c3 n3 Tryd.underlying26 Tryd.underlying5 Tryd.underlying9 H3.out
  rw [show (⟨TW.toArray⟩ : ByteArray) = ⟨([119, 105, 100, 116, 104, 32, 49, 48, 48, 10, 115, 112, 97, 99, 101, 32, 48, 32, 48, 32, 48, 10, 115, 104, 97, 112, 101, 32, 51, 32, 53, 48, 10, 104, 97, 110, 103, 32, 48, 32, 48, 10, 112, 97, 114, 116, 115, 32, 48, 32, 48, 10, 98, 97, 100].append [32, 48, 32, 48, 10, 101, 120, 116, 114, 97, 32, 48, 10, 112, 101, 110, 97, 108, 116, 105, 101, 115, 32, 48, 32, 48, 32, 48, 10, 100, 101, 109, 101, 114, 105, 116, 115, 32, 48, 32, 48, 32, 48, 32, 48, 32, 48, 10, 108, 111, 111, 115, 101, 32, 48, 10]).toArray⟩ by decide +kernel] at hstr
  have CK := Lib.hid (check_any L A c w6 OK.out SN.out HT2.out)
  rw [QC.out] at CK
  have CN := Lib.hid (fun (w' : World) (x : Ext w6 w') => check_any LZ none 0 w' zero_ok SeenP.nil (HT2.out.ext x))
  rw [mayL_zero] at CN
  go_upto_region 10 with (fail)
  clear hstr s0 s1 u0 u4
  go_wp2_with (refine wpList_getW (by kernel_rfl) _ rfl b1 rfl K2.out ?_)
  refine CK.out.mono ?_
  rintro e w7 ⟨rfl, x7⟩
  have X7 := Lib.hid x7
  clear x7
  go_wp2_with fail
  refine (CN.out _ X7.out).mono ?_
  rintro e w8 ⟨rfl, x8⟩
  have X8 := Lib.hid x8
  clear x8
  go_wp2_with fail
  go_ret
  exact ⟨rfl, (X.out.trans X7.out).trans X8.out⟩
end L14
end Go.Proofs.YteflkagilhmeiaaDoor

