/- Calls whose answers the document fixes: layer 7. -/
import Derived.Test.YtggedodfkjdegaaAwakeA07
namespace Go.Proofs.Ytggedodfkjdegaa
open Go.RowKit
namespace L07
open L06

set_option maxRecDepth 100000 in
set_option maxHeartbeats 8000000 in
theorem awake_any (w : World) : Calls Try.prog 4 #[] w (Ret w (.bool true)) := by
  go_enter Try.func4, Try.ntmps4
  go_wp2_with fail
  obtain ⟨V, hV⟩ : ∃ V, V = ((((((w.alloc (.cells #[.int .i64 1, .int .i64 0, .int .i64 0, .int .i64 0, .int .i64 0, .int .i64 0] 35)).alloc (.cells #[.int .i64 0, .int .i64 524288] 3)).alloc (.cells #[.int .i64 0] 3)).alloc (.cells #[.int .i64 0] 3)).alloc (.cells #[.int .i64 0] 3)).alloc (.cells #[.int .i64 0, .int .i64 1048576, .int .i64 65, .slice (some ⟨w.heap.size, 0, none⟩) 1 1, .slice (some ⟨w.heap.size + 1, 0, none⟩) 2 2, .slice (some ⟨w.heap.size + 1 + 1, 0, none⟩) 1 1, .slice (some ⟨w.heap.size + 1 + 1 + 1, 0, none⟩) 1 1, .slice (some ⟨w.heap.size + 1 + 1 + 1 + 1, 0, none⟩) 1 1, .slice none 0 0, .slice none 0 0, .slice none 0 0] 28)) := ⟨_, rfl⟩
  rw [← hV]
  have XV : Ext w V := by rw [hV]; exact (((((((Ext.refl _).alloc _).alloc _).alloc _).alloc _).alloc _).alloc _)
  have k0 : Blk V (w.heap.size) 35 [.int .i64 1, .int .i64 0, .int .i64 0, .int .i64 0, .int .i64 0, .int .i64 0] := by rw [hV]; exact (Blk.lit _ _ _ _ (by simp)).ext ((((((Ext.refl _).alloc _).alloc _).alloc _).alloc _).alloc _)
  have k1 : Blk V (w.heap.size + 1) 3 [.int .i64 0, .int .i64 524288] := by rw [hV]; exact (Blk.lit _ _ _ _ (by simp)).ext (((((Ext.refl _).alloc _).alloc _).alloc _).alloc _)
  have k2 : Blk V (w.heap.size + 1 + 1) 3 [.int .i64 0] := by rw [hV]; exact (Blk.lit _ _ _ _ (by simp)).ext ((((Ext.refl _).alloc _).alloc _).alloc _)
  have k3 : Blk V (w.heap.size + 1 + 1 + 1) 3 [.int .i64 0] := by rw [hV]; exact (Blk.lit _ _ _ _ (by simp)).ext (((Ext.refl _).alloc _).alloc _)
  have k4 : Blk V (w.heap.size + 1 + 1 + 1 + 1) 3 [.int .i64 0] := by rw [hV]; exact (Blk.lit _ _ _ _ (by simp)).ext ((Ext.refl _).alloc _)
  have kf : Blk V (w.heap.size + 1 + 1 + 1 + 1 + 1) 28 [.int .i64 0, .int .i64 1048576, .int .i64 65, .slice (some ⟨w.heap.size, 0, none⟩) 1 1, .slice (some ⟨w.heap.size + 1, 0, none⟩) 2 2, .slice (some ⟨w.heap.size + 1 + 1, 0, none⟩) 1 1, .slice (some ⟨w.heap.size + 1 + 1 + 1, 0, none⟩) 1 1, .slice (some ⟨w.heap.size + 1 + 1 + 1 + 1, 0, none⟩) 1 1, .slice none 0 0, .slice none 0 0, .slice none 0 0] := by rw [hV]; exact (Blk.lit _ _ _ _ (by simp)).ext (Ext.refl _)
  clear hV
  generalize w.heap.size = s at *
  have sn := a_seen V s k0 k1 k2 k3 k4
  have SN := Lib.hid (fun w' (x : Ext V w') => sn.ext x)
  have OK := a_ok s
  have WY := twrite_yes aD (aP s) V OK sn a_yes
  rw [font_a] at WY
  have WY := Lib.hid WY
  have KF := Lib.hid kf
  clear k0 k1 k2 k3 k4 sn kf
  refine WY.out.mono ?_; rintro e w1 ⟨A1, c1, rfl, hc1, s1, x1⟩
  clear WY
  obtain ⟨n1, hn1⟩ : ∃ n1, n1 = (writeB aD).length := ⟨_, rfl⟩
  have RD := Lib.hid (tread_any A1 (writeB aD) c1 w1 s1 hc1 (by rw [a_len]; omega))
  rw [← hn1] at RD hc1 ⊢
  have HN := Lib.hid hn1
  have HS := Lib.hid s1
  clear hn1 s1
  go_wp2_with fail
  refine RD.out.mono ?_
  clear RD
  rintro e w2 (⟨D, P, rfl, ok2, sn2, x2, ck2, wr2⟩ | ⟨rfl, no, _⟩)
  · have same := write_inj a_yes ck2 wr2.symm
    have X2 := x1.trans x2
    obtain ⟨v3, u3, r3, o3, _⟩ := run_putB (P := Try.prog) 22 22 5 Try.underlying22 uint8_info (OwnB.lit 5 (w2.alloc (.cells #[.int .i64 D.sum, .int .i64 D.design, .int .i64 D.first, .slice P.xc D.nc P.zc, .slice P.xw D.nw P.zw, .slice P.xh D.nh P.zh, .slice P.xd D.nd P.zd, .slice P.xi D.ni P.zi, .slice P.xs D.ns P.zs, .slice P.xk D.nk P.zk, .slice P.xp D.np P.zp] 28)) (w2.alloc (.cells #[.int .i64 D.sum, .int .i64 D.design, .int .i64 D.first, .slice P.xc D.nc P.zc, .slice P.xw D.nw P.zw, .slice P.xh D.nh P.zh, .slice P.xd D.nd P.zd, .slice P.xi D.ni P.zi, .slice P.xs D.ns P.zs, .slice P.xk D.nk P.zk, .slice P.xp D.np P.zp] 28)) [] #[] 0 rfl rfl (by simp) (Ext.refl _)) A1 (writeB aD) n1 c1 (HS.out.ext ((x2.alloc _).alloc _)) HN.out (by rw [a_len]; simp)
    obtain ⟨v4, u4, r4, o4, _⟩ := run_putB (P := Try.prog) 22 22 5 Try.underlying22 uint8_info (OwnB.over o3 ((Ext.refl u3).alloc (.cells #[.int .u8 0] 5))) (some ⟨u3.heap.size, 0, none⟩) [0] 1 1 (lit_seen _ _ _ _ (by simp [bv]) rfl) rfl (by simp [a_len])
    rw [World.size_alloc] at r3
    obtain ⟨A4, c4, rfl, hc4, s4⟩ := o4.seen
    have l57 : (([] ++ writeB aD) ++ [0]).length = 57 := by simp [a_len]
    have RD := Lib.hid (tread_any A4 _ c4 u4 s4 hc4 (by rw [l57]; omega))
    have x4 : Ext w2 u4 := ((Ext.refl w2).alloc _).trans o4.2
    have kG : Blk u4 w2.heap.size 28 [.int .i64 D.sum, .int .i64 D.design, .int .i64 D.first, .slice P.xc D.nc P.zc, .slice P.xw D.nw P.zw, .slice P.xh D.nh P.zh, .slice P.xd D.nd P.zd, .slice P.xi D.ni P.zi, .slice P.xs D.ns P.zs, .slice P.xk D.nk P.zk, .slice P.xp D.np P.zp] := (Blk.lit w2 _ 28 #[.int .i64 D.sum, .int .i64 D.design, .int .i64 D.first, .slice P.xc D.nc P.zc, .slice P.xw D.nw P.zw, .slice P.xh D.nh P.zh, .slice P.xd D.nd P.zd, .slice P.xi D.ni P.zi, .slice P.xs D.ns P.zs, .slice P.xk D.nk P.zk, .slice P.xp D.np P.zp] rfl).ext o4.2
    have SG := Lib.hid (fun w' (x : Ext u4 w') => (sn2.ext x4).ext x)
    have OK2 := Lib.hid ok2
    have X4 := X2.trans x4
    have NO := Lib.hid (long_no l57)
    have H57 := Lib.hid l57
    have SAME := Lib.hid same
    clear o3 o4 s4 l57 hc4 same X2 x1 x2 x4 sn2 ok2 HS wr2 ck2
    unfold fontV at *
    go_wp2_with (first | (at_builtin; refine wpList_ran rfl _ _ rfl r3 ?_) | (at_builtin; refine wpList_ran rfl _ _ rfl r4 ?_))
    refine RD.out.mono ?_
    clear RD r3 r4
    rintro e w5 (⟨_, _, rfl, _, _, _, ck, wr⟩ | ⟨rfl, _, x5⟩)
    · exact absurd ⟨_, ck, wr⟩ NO.out
    rw [font_no]
    have X5 := X4.trans x5
    have kG5 := kG.ext x5
    generalize w2.heap.size = G at *
    go_wp2_with fail
    have WN := twrite_no noD noP (w5.alloc (.cells #[.int .i64 0, .int .i64 0, .int .i64 0, .slice none 0 0, .slice none 0 0, .slice none 0 0, .slice none 0 0, .slice none 0 0, .slice none 0 0, .slice none 0 0, .slice none 0 0] 28)) no_ok (no_seen _) no_no
    rw [font_no] at WN
    refine WN.mono ?_; rintro e w6 ⟨rfl, x6⟩
    clear WN
    have x56 : Ext w5 w6 := ((Ext.refl w5).alloc _).trans x6
    have X6 := X5.trans x56
    have kG6 := kG5.ext x56
    have kf6 := KF.out.ext X6
    have q0 : w6.cell? ⟨s + 1 + 1 + 1 + 1 + 1, 0, none⟩ = some (.int .i64 0) := kf6.cell 0
    have q1 : w6.cell? ⟨s + 1 + 1 + 1 + 1 + 1, 1, none⟩ = some (.int .i64 1048576) := kf6.cell 1
    have q2 : w6.cell? ⟨s + 1 + 1 + 1 + 1 + 1, 2, none⟩ = some (.int .i64 65) := kf6.cell 2
    have q3 : w6.cell? ⟨s + 1 + 1 + 1 + 1 + 1, 3, none⟩ = some (.slice (some ⟨s, 0, none⟩) 1 1) := kf6.cell 3
    have q4 : w6.cell? ⟨s + 1 + 1 + 1 + 1 + 1, 4, none⟩ = some (.slice (some ⟨s + 1, 0, none⟩) 2 2) := kf6.cell 4
    have q5 : w6.cell? ⟨s + 1 + 1 + 1 + 1 + 1, 5, none⟩ = some (.slice (some ⟨s + 1 + 1, 0, none⟩) 1 1) := kf6.cell 5
    have q6 : w6.cell? ⟨s + 1 + 1 + 1 + 1 + 1, 6, none⟩ = some (.slice (some ⟨s + 1 + 1 + 1, 0, none⟩) 1 1) := kf6.cell 6
    have q7 : w6.cell? ⟨s + 1 + 1 + 1 + 1 + 1, 7, none⟩ = some (.slice (some ⟨s + 1 + 1 + 1 + 1, 0, none⟩) 1 1) := kf6.cell 7
    have q8 : w6.cell? ⟨s + 1 + 1 + 1 + 1 + 1, 8, none⟩ = some (.slice none 0 0) := kf6.cell 8
    have q9 : w6.cell? ⟨s + 1 + 1 + 1 + 1 + 1, 9, none⟩ = some (.slice none 0 0) := kf6.cell 9
    have q10 : w6.cell? ⟨s + 1 + 1 + 1 + 1 + 1, 10, none⟩ = some (.slice none 0 0) := kf6.cell 10
    have y0 : w6.cell? ⟨G, 0, none⟩ = some (.int .i64 D.sum) := kG6.cell 0
    have y1 : w6.cell? ⟨G, 1, none⟩ = some (.int .i64 D.design) := kG6.cell 1
    have y2 : w6.cell? ⟨G, 2, none⟩ = some (.int .i64 D.first) := kG6.cell 2
    have y3 : w6.cell? ⟨G, 3, none⟩ = some (.slice P.xc D.nc P.zc) := kG6.cell 3
    have y4 : w6.cell? ⟨G, 4, none⟩ = some (.slice P.xw D.nw P.zw) := kG6.cell 4
    have y5 : w6.cell? ⟨G, 5, none⟩ = some (.slice P.xh D.nh P.zh) := kG6.cell 5
    have y6 : w6.cell? ⟨G, 6, none⟩ = some (.slice P.xd D.nd P.zd) := kG6.cell 6
    have y7 : w6.cell? ⟨G, 7, none⟩ = some (.slice P.xi D.ni P.zi) := kG6.cell 7
    have y8 : w6.cell? ⟨G, 8, none⟩ = some (.slice P.xs D.ns P.zs) := kG6.cell 8
    have y9 : w6.cell? ⟨G, 9, none⟩ = some (.slice P.xk D.nk P.zk) := kG6.cell 9
    have y10 : w6.cell? ⟨G, 10, none⟩ = some (.slice P.xp D.np P.zp) := kG6.cell 10
    clear kG kG5 x6
    go_wp2_with fail
    have SM := same_any aD D (aP s) P w6 a_few (SN.out _ X6) (SG.out _ (x5.trans x56))
    rw [font_a] at SM
    unfold fontV at SM
    refine SM.mono ?_; rintro e w7 ⟨rfl, x7⟩
    rw [SAME.out]
    clear SM SG OK2 kG6 SAME y0 y1 y2 y3 y4 y5 y6 y7 y8 y9 y10
    have X7 := X6.trans x7
    have kf7 := KF.out.ext X7
    have q0 : w7.cell? ⟨s + 1 + 1 + 1 + 1 + 1, 0, none⟩ = some (.int .i64 0) := kf7.cell 0
    have q1 : w7.cell? ⟨s + 1 + 1 + 1 + 1 + 1, 1, none⟩ = some (.int .i64 1048576) := kf7.cell 1
    have q2 : w7.cell? ⟨s + 1 + 1 + 1 + 1 + 1, 2, none⟩ = some (.int .i64 65) := kf7.cell 2
    have q3 : w7.cell? ⟨s + 1 + 1 + 1 + 1 + 1, 3, none⟩ = some (.slice (some ⟨s, 0, none⟩) 1 1) := kf7.cell 3
    have q4 : w7.cell? ⟨s + 1 + 1 + 1 + 1 + 1, 4, none⟩ = some (.slice (some ⟨s + 1, 0, none⟩) 2 2) := kf7.cell 4
    have q5 : w7.cell? ⟨s + 1 + 1 + 1 + 1 + 1, 5, none⟩ = some (.slice (some ⟨s + 1 + 1, 0, none⟩) 1 1) := kf7.cell 5
    have q6 : w7.cell? ⟨s + 1 + 1 + 1 + 1 + 1, 6, none⟩ = some (.slice (some ⟨s + 1 + 1 + 1, 0, none⟩) 1 1) := kf7.cell 6
    have q7 : w7.cell? ⟨s + 1 + 1 + 1 + 1 + 1, 7, none⟩ = some (.slice (some ⟨s + 1 + 1 + 1 + 1, 0, none⟩) 1 1) := kf7.cell 7
    have q8 : w7.cell? ⟨s + 1 + 1 + 1 + 1 + 1, 8, none⟩ = some (.slice none 0 0) := kf7.cell 8
    have q9 : w7.cell? ⟨s + 1 + 1 + 1 + 1 + 1, 9, none⟩ = some (.slice none 0 0) := kf7.cell 9
    have q10 : w7.cell? ⟨s + 1 + 1 + 1 + 1 + 1, 10, none⟩ = some (.slice none 0 0) := kf7.cell 10
    obtain rfl : n1 = 56 := by rw [HN.out]; exact a_len
    clear hc1
    go_wp2_with fail
    have C1 := tcheck_any aD (aP s) w7 OK (SN.out _ X7)
    rw [font_a, a_yes] at C1
    refine C1.mono ?_; rintro e w8 ⟨rfl, x8⟩
    clear C1
    have X8 := X7.trans x8
    go_wp2_with fail
    have C2 := tcheck_any noD noP w8 no_ok (no_seen _)
    rw [font_no, no_no] at C2
    refine C2.mono ?_; rintro e w9 ⟨rfl, x9⟩
    clear C2
    have X9 := X8.trans x9
    have kf9 := KF.out.ext X9
    have q0 : w9.cell? ⟨s + 1 + 1 + 1 + 1 + 1, 0, none⟩ = some (.int .i64 0) := kf9.cell 0
    have q1 : w9.cell? ⟨s + 1 + 1 + 1 + 1 + 1, 1, none⟩ = some (.int .i64 1048576) := kf9.cell 1
    have q2 : w9.cell? ⟨s + 1 + 1 + 1 + 1 + 1, 2, none⟩ = some (.int .i64 65) := kf9.cell 2
    have q3 : w9.cell? ⟨s + 1 + 1 + 1 + 1 + 1, 3, none⟩ = some (.slice (some ⟨s, 0, none⟩) 1 1) := kf9.cell 3
    have q4 : w9.cell? ⟨s + 1 + 1 + 1 + 1 + 1, 4, none⟩ = some (.slice (some ⟨s + 1, 0, none⟩) 2 2) := kf9.cell 4
    have q5 : w9.cell? ⟨s + 1 + 1 + 1 + 1 + 1, 5, none⟩ = some (.slice (some ⟨s + 1 + 1, 0, none⟩) 1 1) := kf9.cell 5
    have q6 : w9.cell? ⟨s + 1 + 1 + 1 + 1 + 1, 6, none⟩ = some (.slice (some ⟨s + 1 + 1 + 1, 0, none⟩) 1 1) := kf9.cell 6
    have q7 : w9.cell? ⟨s + 1 + 1 + 1 + 1 + 1, 7, none⟩ = some (.slice (some ⟨s + 1 + 1 + 1 + 1, 0, none⟩) 1 1) := kf9.cell 7
    have q8 : w9.cell? ⟨s + 1 + 1 + 1 + 1 + 1, 8, none⟩ = some (.slice none 0 0) := kf9.cell 8
    have q9 : w9.cell? ⟨s + 1 + 1 + 1 + 1 + 1, 9, none⟩ = some (.slice none 0 0) := kf9.cell 9
    have q10 : w9.cell? ⟨s + 1 + 1 + 1 + 1 + 1, 10, none⟩ = some (.slice none 0 0) := kf9.cell 10
    go_wp2_with fail
    have C3 := thas_any aD (aP s) 65 w9 OK (SN.out _ X9) ⟨by omega, by omega⟩
    rw [font_a, a_65] at C3
    refine C3.mono ?_; rintro e w10 ⟨rfl, x10⟩
    clear C3
    have X10 := X9.trans x10
    have kf10 := KF.out.ext X10
    have q0 : w10.cell? ⟨s + 1 + 1 + 1 + 1 + 1, 0, none⟩ = some (.int .i64 0) := kf10.cell 0
    have q1 : w10.cell? ⟨s + 1 + 1 + 1 + 1 + 1, 1, none⟩ = some (.int .i64 1048576) := kf10.cell 1
    have q2 : w10.cell? ⟨s + 1 + 1 + 1 + 1 + 1, 2, none⟩ = some (.int .i64 65) := kf10.cell 2
    have q3 : w10.cell? ⟨s + 1 + 1 + 1 + 1 + 1, 3, none⟩ = some (.slice (some ⟨s, 0, none⟩) 1 1) := kf10.cell 3
    have q4 : w10.cell? ⟨s + 1 + 1 + 1 + 1 + 1, 4, none⟩ = some (.slice (some ⟨s + 1, 0, none⟩) 2 2) := kf10.cell 4
    have q5 : w10.cell? ⟨s + 1 + 1 + 1 + 1 + 1, 5, none⟩ = some (.slice (some ⟨s + 1 + 1, 0, none⟩) 1 1) := kf10.cell 5
    have q6 : w10.cell? ⟨s + 1 + 1 + 1 + 1 + 1, 6, none⟩ = some (.slice (some ⟨s + 1 + 1 + 1, 0, none⟩) 1 1) := kf10.cell 6
    have q7 : w10.cell? ⟨s + 1 + 1 + 1 + 1 + 1, 7, none⟩ = some (.slice (some ⟨s + 1 + 1 + 1 + 1, 0, none⟩) 1 1) := kf10.cell 7
    have q8 : w10.cell? ⟨s + 1 + 1 + 1 + 1 + 1, 8, none⟩ = some (.slice none 0 0) := kf10.cell 8
    have q9 : w10.cell? ⟨s + 1 + 1 + 1 + 1 + 1, 9, none⟩ = some (.slice none 0 0) := kf10.cell 9
    have q10 : w10.cell? ⟨s + 1 + 1 + 1 + 1 + 1, 10, none⟩ = some (.slice none 0 0) := kf10.cell 10
    go_wp2_with fail
    have C4 := thas_any aD (aP s) 66 w10 OK (SN.out _ X10) ⟨by omega, by omega⟩
    rw [font_a, a_66] at C4
    refine C4.mono ?_; rintro e w11 ⟨rfl, x11⟩
    clear C4
    go_wp2_with fail
    go_ret
    exact ⟨rfl, XV.trans (X10.trans x11)⟩
  · exact absurd ⟨aD, a_yes, rfl⟩ no
end L07
end Go.Proofs.Ytggedodfkjdegaa

