/- TfmBack: fonts are read as they were written, and bytes that are a font are just its (at most three hundred of each; six thousand bytes): for every input. -/
import Derived.Test.YtlbliidgmkipbaaAwake07
import Derived.OpenShut
namespace Go.Proofs.Ytlbliidgmkipbaa
open Go.ChangeShapes Go.WideShapes Go.ChangeAt Go.RowKit Go.Deep
namespace TfmBack
open L06 L07

theorem few_len {D : FontD} (h : fewB D = true) : (writeB D).length ≤ 10000 := by
  have hl : (writeB D).length = 24 + 4 * (2 + D.nc + D.nw + D.nh + D.nd + D.ni + D.ns + D.nk + D.np) := by
    rw [writeB, List.length_append, bodyW_length, catB_length (k := 2) (fun _ => rfl)]
  have := of_decide_eq_true h
  omega

set_option maxRecDepth 100000 in
set_option maxHeartbeats 16000000 in
theorem walk (D : FontD) (P : FontP) (ok : FontOk D P) (A0 : Option Addr) (l : List UInt8) (c : Nat) (hc : l.length ≤ c) (hm : c ≤ maxLen) (w : World) (sn : SeenFont w D P) (hb : SeenB w A0 l) :
    Calls Try.prog 5 #[fontV D P, .slice A0 l.length c] w (Ret w (.bool true)) := by
  have W0 : Ext w (w.alloc (.cells #[.int .i64 D.sum, .int .i64 D.design, .int .i64 D.first, .slice P.xc D.nc P.zc, .slice P.xw D.nw P.zw, .slice P.xh D.nh P.zh, .slice P.xd D.nd P.zd, .slice P.xi D.ni P.zi, .slice P.xs D.ns P.zs, .slice P.xk D.nk P.zk, .slice P.xp D.np P.zp] 26)) := (Ext.refl _).alloc _
  have SN := Lib.hid (fun w' (x : Ext (w.alloc (.cells #[.int .i64 D.sum, .int .i64 D.design, .int .i64 D.first, .slice P.xc D.nc P.zc, .slice P.xw D.nw P.zw, .slice P.xh D.nh P.zh, .slice P.xd D.nd P.zd, .slice P.xi D.ni P.zi, .slice P.xs D.ns P.zs, .slice P.xk D.nk P.zk, .slice P.xp D.np P.zp] 26)) w') => (sn.ext W0).ext x)
  have SB := Lib.hid (fun w' (x : Ext (w.alloc (.cells #[.int .i64 D.sum, .int .i64 D.design, .int .i64 D.first, .slice P.xc D.nc P.zc, .slice P.xw D.nw P.zw, .slice P.xh D.nh P.zh, .slice P.xd D.nd P.zd, .slice P.xi D.ni P.zi, .slice P.xs D.ns P.zs, .slice P.xk D.nk P.zk, .slice P.xp D.np P.zp] 26)) w') => (hb.ext W0).ext x)
  have OK := Lib.hid ok
  have kF : Blk (w.alloc (.cells #[.int .i64 D.sum, .int .i64 D.design, .int .i64 D.first, .slice P.xc D.nc P.zc, .slice P.xw D.nw P.zw, .slice P.xh D.nh P.zh, .slice P.xd D.nd P.zd, .slice P.xi D.ni P.zi, .slice P.xs D.ns P.zs, .slice P.xk D.nk P.zk, .slice P.xp D.np P.zp] 26)) w.heap.size 26 [.int .i64 D.sum, .int .i64 D.design, .int .i64 D.first, .slice P.xc D.nc P.zc, .slice P.xw D.nw P.zw, .slice P.xh D.nh P.zh, .slice P.xd D.nd P.zd, .slice P.xi D.ni P.zi, .slice P.xs D.ns P.zs, .slice P.xk D.nk P.zk, .slice P.xp D.np P.zp] := Blk.lit _ _ _ _ rfl
  have hl : l.length ≤ 9223372036854775807 := by unfold maxLen at hm; omega
  have FEW := few_any D P
  obtain ⟨n, hn⟩ : ∃ n, n = l.length := ⟨_, rfl⟩
  rw [← hn] at hl ⊢
  have HN := Lib.hid hn
  have HCM := Lib.hid (And.intro hc hm)
  have FEW := Lib.hid FEW
  clear ok sn hb hn hc hm
  unfold fontV at *
  go_enter Try.func5, Try.ntmps5
  go_wp2_with fail
  generalize (w.alloc (.cells #[.int .i64 D.sum, .int .i64 D.design, .int .i64 D.first, .slice P.xc D.nc P.zc, .slice P.xw D.nw P.zw, .slice P.xh D.nh P.zh, .slice P.xd D.nd P.zd, .slice P.xi D.ni P.zi, .slice P.xs D.ns P.zs, .slice P.xk D.nk P.zk, .slice P.xp D.np P.zp] 26)) = V at *
  generalize w.heap.size = B at *
  refine (awake_any _).mono ?_; rintro e w1 ⟨rfl, x1⟩
  have k1 := kF.ext x1
  have q0 : w1.cell? ⟨B, 0, none⟩ = some (.int .i64 D.sum) := k1.cell 0
  have q1 : w1.cell? ⟨B, 1, none⟩ = some (.int .i64 D.design) := k1.cell 1
  have q2 : w1.cell? ⟨B, 2, none⟩ = some (.int .i64 D.first) := k1.cell 2
  have q3 : w1.cell? ⟨B, 3, none⟩ = some (.slice P.xc D.nc P.zc) := k1.cell 3
  have q4 : w1.cell? ⟨B, 4, none⟩ = some (.slice P.xw D.nw P.zw) := k1.cell 4
  have q5 : w1.cell? ⟨B, 5, none⟩ = some (.slice P.xh D.nh P.zh) := k1.cell 5
  have q6 : w1.cell? ⟨B, 6, none⟩ = some (.slice P.xd D.nd P.zd) := k1.cell 6
  have q7 : w1.cell? ⟨B, 7, none⟩ = some (.slice P.xi D.ni P.zi) := k1.cell 7
  have q8 : w1.cell? ⟨B, 8, none⟩ = some (.slice P.xs D.ns P.zs) := k1.cell 8
  have q9 : w1.cell? ⟨B, 9, none⟩ = some (.slice P.xk D.nk P.zk) := k1.cell 9
  have q10 : w1.cell? ⟨B, 10, none⟩ = some (.slice P.xp D.np P.zp) := k1.cell 10
  go_wp2_with fail
  refine (FEW.out w1).mono ?_; rintro e w2 ⟨rfl, x2⟩
  have k2 := k1.ext x2
  have X2 := x1.trans x2
  have q0 : w2.cell? ⟨B, 0, none⟩ = some (.int .i64 D.sum) := k2.cell 0
  have q1 : w2.cell? ⟨B, 1, none⟩ = some (.int .i64 D.design) := k2.cell 1
  have q2 : w2.cell? ⟨B, 2, none⟩ = some (.int .i64 D.first) := k2.cell 2
  have q3 : w2.cell? ⟨B, 3, none⟩ = some (.slice P.xc D.nc P.zc) := k2.cell 3
  have q4 : w2.cell? ⟨B, 4, none⟩ = some (.slice P.xw D.nw P.zw) := k2.cell 4
  have q5 : w2.cell? ⟨B, 5, none⟩ = some (.slice P.xh D.nh P.zh) := k2.cell 5
  have q6 : w2.cell? ⟨B, 6, none⟩ = some (.slice P.xd D.nd P.zd) := k2.cell 6
  have q7 : w2.cell? ⟨B, 7, none⟩ = some (.slice P.xi D.ni P.zi) := k2.cell 7
  have q8 : w2.cell? ⟨B, 8, none⟩ = some (.slice P.xs D.ns P.zs) := k2.cell 8
  have q9 : w2.cell? ⟨B, 9, none⟩ = some (.slice P.xk D.nk P.zk) := k2.cell 9
  have q10 : w2.cell? ⟨B, 10, none⟩ = some (.slice P.xp D.np P.zp) := k2.cell 10
  clear FEW kF k1 x1 x2
  cases hfew : fewB D with
  | false =>
    clear hfew
    go_wp2_with fail
    go_ret
    exact ⟨rfl, W0.trans X2⟩
  | true =>
  by_cases hn : 6000 < n
  · have hn' : 6000 < (n : Int) := by omega
    clear hfew
    go_wp2_with fail
    go_ret
    exact ⟨rfl, W0.trans X2⟩
  have hn0 : ¬ 6000 < (n : Int) := by omega
  have hn1 : (n : Int) ≤ 6000 := by omega
  go_wp2_with fail
  cases hck : checkB D with
  | false =>
    refine (twrite_no D P _ OK.out (SN.out _ X2) hck).mono ?_; rintro e w3 ⟨rfl, x3⟩
    have RD := Lib.hid (tread_any none [] 0 w3 SeenB.nil (by simp) (by simp))
    have k3 := k2.ext x3
    have X3 := X2.trans x3
    clear k2 X2 x3
    go_wp2_with fail
    refine RD.out.mono ?_
    clear RD
    rintro e w4 (⟨D4, P4, rfl, _, _, _, ck, wr⟩ | ⟨rfl, _, x4⟩)
    · exact absurd (heads_of ⟨D4, ck, wr⟩).1 (by simp)
    rw [font_no]
    have k4 := k3.ext x4
    have X4 := X3.trans x4
    have q0 : w4.cell? ⟨B, 0, none⟩ = some (.int .i64 D.sum) := k4.cell 0
    have q1 : w4.cell? ⟨B, 1, none⟩ = some (.int .i64 D.design) := k4.cell 1
    have q2 : w4.cell? ⟨B, 2, none⟩ = some (.int .i64 D.first) := k4.cell 2
    have q3 : w4.cell? ⟨B, 3, none⟩ = some (.slice P.xc D.nc P.zc) := k4.cell 3
    have q4 : w4.cell? ⟨B, 4, none⟩ = some (.slice P.xw D.nw P.zw) := k4.cell 4
    have q5 : w4.cell? ⟨B, 5, none⟩ = some (.slice P.xh D.nh P.zh) := k4.cell 5
    have q6 : w4.cell? ⟨B, 6, none⟩ = some (.slice P.xd D.nd P.zd) := k4.cell 6
    have q7 : w4.cell? ⟨B, 7, none⟩ = some (.slice P.xi D.ni P.zi) := k4.cell 7
    have q8 : w4.cell? ⟨B, 8, none⟩ = some (.slice P.xs D.ns P.zs) := k4.cell 8
    have q9 : w4.cell? ⟨B, 9, none⟩ = some (.slice P.xk D.nk P.zk) := k4.cell 9
    have q10 : w4.cell? ⟨B, 10, none⟩ = some (.slice P.xp D.np P.zp) := k4.cell 10
    have hB4 : B < w4.heap.size := k4.lt
    have SM := same_any D noD P noP (w4.alloc (.cells #[.int .i64 0, .int .i64 0, .int .i64 0, .slice none 0 0, .slice none 0 0, .slice none 0 0, .slice none 0 0, .slice none 0 0, .slice none 0 0, .slice none 0 0, .slice none 0 0] 26)) hfew (SN.out _ (X4.alloc _)) (no_seen _)
    rw [font_no] at SM
    unfold fontV at SM
    have SM := Lib.hid SM
    have k4' := k4.ext ((Ext.refl w4).alloc (.cells #[.int .i64 0, .int .i64 0, .int .i64 0, .slice none 0 0, .slice none 0 0, .slice none 0 0, .slice none 0 0, .slice none 0 0, .slice none 0 0, .slice none 0 0, .slice none 0 0] 26))
    have X4' := X4.alloc (.cells #[.int .i64 0, .int .i64 0, .int .i64 0, .slice none 0 0, .slice none 0 0, .slice none 0 0, .slice none 0 0, .slice none 0 0, .slice none 0 0, .slice none 0 0, .slice none 0 0] 26)
    clear k3 X3 x4 k4 X4
    go_wp2_with fail
    refine SM.out.mono ?_; rintro e w5 ⟨rfl, x5⟩
    clear SM
    generalize sameFontB D noD = sb at *
    have k5 := k4'.ext x5
    have X5 := X4'.trans x5
    have q0 : w5.cell? ⟨B, 0, none⟩ = some (.int .i64 D.sum) := k5.cell 0
    have q1 : w5.cell? ⟨B, 1, none⟩ = some (.int .i64 D.design) := k5.cell 1
    have q2 : w5.cell? ⟨B, 2, none⟩ = some (.int .i64 D.first) := k5.cell 2
    have q3 : w5.cell? ⟨B, 3, none⟩ = some (.slice P.xc D.nc P.zc) := k5.cell 3
    have q4 : w5.cell? ⟨B, 4, none⟩ = some (.slice P.xw D.nw P.zw) := k5.cell 4
    have q5 : w5.cell? ⟨B, 5, none⟩ = some (.slice P.xh D.nh P.zh) := k5.cell 5
    have q6 : w5.cell? ⟨B, 6, none⟩ = some (.slice P.xd D.nd P.zd) := k5.cell 6
    have q7 : w5.cell? ⟨B, 7, none⟩ = some (.slice P.xi D.ni P.zi) := k5.cell 7
    have q8 : w5.cell? ⟨B, 8, none⟩ = some (.slice P.xs D.ns P.zs) := k5.cell 8
    have q9 : w5.cell? ⟨B, 9, none⟩ = some (.slice P.xk D.nk P.zk) := k5.cell 9
    have q10 : w5.cell? ⟨B, 10, none⟩ = some (.slice P.xp D.np P.zp) := k5.cell 10
    clear k4' X4' x5 hfew
    go_wp2_with fail
    refine (tcheck_any D P _ OK.out (SN.out _ X5)).mono ?_; rintro e w6 ⟨rfl, x6⟩
    have X6 := X5.trans x6
    rw [hck]
    clear k5 X5 x6 OK SN hck
    have RD := tread_any A0 l c w6 (SB.out _ X6) HCM.out.1 (by have := HN.out; omega)
    rw [← HN.out] at RD
    have RD := Lib.hid RD
    go_wp2_with fail
    refine RD.out.mono ?_
    clear RD
    rintro e w7 (⟨D7, P7, rfl, ok7, sn7, x7, ck7, wr7⟩ | ⟨rfl, _, x7⟩)
    · have WY := twrite_yes D7 P7 (w7.alloc (.cells #[.int .i64 D7.sum, .int .i64 D7.design, .int .i64 D7.first, .slice P7.xc D7.nc P7.zc, .slice P7.xw D7.nw P7.zw, .slice P7.xh D7.nh P7.zh, .slice P7.xd D7.nd P7.zd, .slice P7.xi D7.ni P7.zi, .slice P7.xs D7.ns P7.zs, .slice P7.xk D7.nk P7.zk, .slice P7.xp D7.np P7.zp] 26)) ok7 (sn7.ext ((Ext.refl _).alloc _)) ck7
      rw [wr7] at WY
      unfold fontV at WY ⊢
      have WY := Lib.hid WY
      clear ok7 sn7 ck7 wr7
      go_wp2_with fail
      refine WY.out.mono ?_; rintro e w8 ⟨A8, c8, rfl, hc8, s8, x8⟩
      have X8 : Ext V w8 := (X6.trans (x7.alloc _)).trans x8
      have t1 := str_of s8 c8 l.length rfl
      have t2 := str_of (SB.out w8 X8) c n HN.out
      clear s8 x7 x8
      go_wp2_with fail
      go_ret
      exact ⟨rfl, W0.trans X8⟩
    · rw [font_no]
      go_wp2_with fail
      have WN := twrite_no noD noP (w7.alloc (.cells #[.int .i64 0, .int .i64 0, .int .i64 0, .slice none 0 0, .slice none 0 0, .slice none 0 0, .slice none 0 0, .slice none 0 0, .slice none 0 0, .slice none 0 0, .slice none 0 0] 26)) no_ok (no_seen _) no_no
      rw [font_no] at WN
      refine WN.mono ?_; rintro e w8 ⟨rfl, x8⟩
      have X8 : Ext V w8 := (X6.trans (x7.alloc _)).trans x8
      clear WN x7 x8
      go_wp2_with fail
      go_ret
      exact ⟨rfl, W0.trans X8⟩
  | true =>
    refine (twrite_yes D P _ OK.out (SN.out _ X2) hck).mono ?_; rintro e w3 ⟨A3, c3, rfl, hc3, s3, x3⟩
    have hLe := few_len hfew
    obtain ⟨L, hL⟩ : ∃ L, L = writeB D := ⟨_, rfl⟩
    rw [← hL] at s3 hc3 hLe ⊢
    obtain ⟨m, hm⟩ : ∃ m, m = L.length := ⟨_, rfl⟩
    have RD := tread_any A3 L c3 w3 s3 hc3 (by omega)
    rw [← hm] at RD hc3 hLe ⊢
    have RD := Lib.hid RD
    have HL := Lib.hid hL
    have k3 := k2.ext x3
    have X3 := X2.trans x3
    clear k2 X2 x3 s3 hm hL
    go_wp2_with fail
    refine RD.out.mono ?_
    clear RD
    rintro e w4 (⟨D4, P4, rfl, ok4, sn4, x4, ck4, wr4⟩ | ⟨rfl, no, _⟩)
    rotate_left
    · exact absurd ⟨D, hck, HL.out.symm⟩ no
    have SAME := Lib.hid (write_inj hck ck4 (by rw [wr4, HL.out]))
    have k4 := k3.ext x4
    have X4 := X3.trans x4
    have q0 : w4.cell? ⟨B, 0, none⟩ = some (.int .i64 D.sum) := k4.cell 0
    have q1 : w4.cell? ⟨B, 1, none⟩ = some (.int .i64 D.design) := k4.cell 1
    have q2 : w4.cell? ⟨B, 2, none⟩ = some (.int .i64 D.first) := k4.cell 2
    have q3 : w4.cell? ⟨B, 3, none⟩ = some (.slice P.xc D.nc P.zc) := k4.cell 3
    have q4 : w4.cell? ⟨B, 4, none⟩ = some (.slice P.xw D.nw P.zw) := k4.cell 4
    have q5 : w4.cell? ⟨B, 5, none⟩ = some (.slice P.xh D.nh P.zh) := k4.cell 5
    have q6 : w4.cell? ⟨B, 6, none⟩ = some (.slice P.xd D.nd P.zd) := k4.cell 6
    have q7 : w4.cell? ⟨B, 7, none⟩ = some (.slice P.xi D.ni P.zi) := k4.cell 7
    have q8 : w4.cell? ⟨B, 8, none⟩ = some (.slice P.xs D.ns P.zs) := k4.cell 8
    have q9 : w4.cell? ⟨B, 9, none⟩ = some (.slice P.xk D.nk P.zk) := k4.cell 9
    have q10 : w4.cell? ⟨B, 10, none⟩ = some (.slice P.xp D.np P.zp) := k4.cell 10
    have hB4 : B < w4.heap.size := k4.lt
    have SM := same_any D D4 P P4 (w4.alloc (.cells #[.int .i64 D4.sum, .int .i64 D4.design, .int .i64 D4.first, .slice P4.xc D4.nc P4.zc, .slice P4.xw D4.nw P4.zw, .slice P4.xh D4.nh P4.zh, .slice P4.xd D4.nd P4.zd, .slice P4.xi D4.ni P4.zi, .slice P4.xs D4.ns P4.zs, .slice P4.xk D4.nk P4.zk, .slice P4.xp D4.np P4.zp] 26)) hfew (SN.out _ (X4.alloc _)) (sn4.ext ((Ext.refl w4).alloc _))
    rw [SAME.out] at SM
    unfold fontV at SM ⊢
    have SM := Lib.hid SM
    have k4' := k4.ext ((Ext.refl w4).alloc (.cells #[.int .i64 D4.sum, .int .i64 D4.design, .int .i64 D4.first, .slice P4.xc D4.nc P4.zc, .slice P4.xw D4.nw P4.zw, .slice P4.xh D4.nh P4.zh, .slice P4.xd D4.nd P4.zd, .slice P4.xi D4.ni P4.zi, .slice P4.xs D4.ns P4.zs, .slice P4.xk D4.nk P4.zk, .slice P4.xp D4.np P4.zp] 26))
    have X4' := X4.alloc (.cells #[.int .i64 D4.sum, .int .i64 D4.design, .int .i64 D4.first, .slice P4.xc D4.nc P4.zc, .slice P4.xw D4.nw P4.zw, .slice P4.xh D4.nh P4.zh, .slice P4.xd D4.nd P4.zd, .slice P4.xi D4.ni P4.zi, .slice P4.xs D4.ns P4.zs, .slice P4.xk D4.nk P4.zk, .slice P4.xp D4.np P4.zp] 26)
    clear k3 X3 x4 k4 X4 ok4 sn4 ck4 wr4
    go_wp2_with fail
    refine SM.out.mono ?_; rintro e w5 ⟨rfl, x5⟩
    clear SM
    have k5 := k4'.ext x5
    have X5 := X4'.trans x5
    have q0 : w5.cell? ⟨B, 0, none⟩ = some (.int .i64 D.sum) := k5.cell 0
    have q1 : w5.cell? ⟨B, 1, none⟩ = some (.int .i64 D.design) := k5.cell 1
    have q2 : w5.cell? ⟨B, 2, none⟩ = some (.int .i64 D.first) := k5.cell 2
    have q3 : w5.cell? ⟨B, 3, none⟩ = some (.slice P.xc D.nc P.zc) := k5.cell 3
    have q4 : w5.cell? ⟨B, 4, none⟩ = some (.slice P.xw D.nw P.zw) := k5.cell 4
    have q5 : w5.cell? ⟨B, 5, none⟩ = some (.slice P.xh D.nh P.zh) := k5.cell 5
    have q6 : w5.cell? ⟨B, 6, none⟩ = some (.slice P.xd D.nd P.zd) := k5.cell 6
    have q7 : w5.cell? ⟨B, 7, none⟩ = some (.slice P.xi D.ni P.zi) := k5.cell 7
    have q8 : w5.cell? ⟨B, 8, none⟩ = some (.slice P.xs D.ns P.zs) := k5.cell 8
    have q9 : w5.cell? ⟨B, 9, none⟩ = some (.slice P.xk D.nk P.zk) := k5.cell 9
    have q10 : w5.cell? ⟨B, 10, none⟩ = some (.slice P.xp D.np P.zp) := k5.cell 10
    clear k4' X4' x5 hfew SAME
    go_wp2_with fail
    refine (tcheck_any D P _ OK.out (SN.out _ X5)).mono ?_; rintro e w6 ⟨rfl, x6⟩
    have X6 := X5.trans x6
    rw [hck]
    clear k5 X5 x6 OK SN hck HL hc3 hLe
    have RD := tread_any A0 l c w6 (SB.out _ X6) HCM.out.1 (by have := HN.out; omega)
    rw [← HN.out] at RD
    have RD := Lib.hid RD
    go_wp2_with fail
    refine RD.out.mono ?_
    clear RD
    rintro e w7 (⟨D7, P7, rfl, ok7, sn7, x7, ck7, wr7⟩ | ⟨rfl, _, x7⟩)
    · have WY := twrite_yes D7 P7 (w7.alloc (.cells #[.int .i64 D7.sum, .int .i64 D7.design, .int .i64 D7.first, .slice P7.xc D7.nc P7.zc, .slice P7.xw D7.nw P7.zw, .slice P7.xh D7.nh P7.zh, .slice P7.xd D7.nd P7.zd, .slice P7.xi D7.ni P7.zi, .slice P7.xs D7.ns P7.zs, .slice P7.xk D7.nk P7.zk, .slice P7.xp D7.np P7.zp] 26)) ok7 (sn7.ext ((Ext.refl _).alloc _)) ck7
      rw [wr7] at WY
      unfold fontV at WY ⊢
      have WY := Lib.hid WY
      clear ok7 sn7 ck7 wr7
      go_wp2_with fail
      refine WY.out.mono ?_; rintro e w8 ⟨A8, c8, rfl, hc8, s8, x8⟩
      have X8 : Ext V w8 := (X6.trans (x7.alloc _)).trans x8
      have t1 := str_of s8 c8 l.length rfl
      have t2 := str_of (SB.out w8 X8) c n HN.out
      clear s8 x7 x8
      go_wp2_with fail
      go_ret
      exact ⟨rfl, W0.trans X8⟩
    · rw [font_no]
      go_wp2_with fail
      have WN := twrite_no noD noP (w7.alloc (.cells #[.int .i64 0, .int .i64 0, .int .i64 0, .slice none 0 0, .slice none 0 0, .slice none 0 0, .slice none 0 0, .slice none 0 0, .slice none 0 0, .slice none 0 0, .slice none 0 0] 26)) no_ok (no_seen _) no_no
      rw [font_no] at WN
      refine WN.mono ?_; rintro e w8 ⟨rfl, x8⟩
      have X8 : Ext V w8 := (X6.trans (x7.alloc _)).trans x8
      clear WN x7 x8
      go_wp2_with fail
      go_ret
      exact ⟨rfl, W0.trans X8⟩

set_option maxRecDepth 100000 in
theorem lifted (os : Os) (started : os.Started) (H : Type) (enc : TypeId × Value → H) :
    ReturnsInHanded {} Try.checked os 5 .any (Rows.tfmBackSpec.pre6 enc Try.prog Try.f5 [] false) (Rows.tfmBackSpec.post enc Try.prog Try.f5 false true false false) := by
  refine law_lift (C := Try.checked) own started (by kernel_rfl) Try.func5 laidOut rfl rfl Try.underlying4 (by kernel_rfl) ?_
    (ChangeSpec.witness6 (enc := enc) (C := Try.checked) false ⟨#[], #[.agg #[.int .i64 0, .int .i64 0, .int .i64 0, .slice none 0 0, .slice none 0 0, .slice none 0 0, .slice none 0 0, .slice none 0 0, .slice none 0 0, .slice none 0 0, .slice none 0 0], .slice none 0 0], []⟩ 8 (by kernel_rfl) (by kernel_rfl) (by kernel_rfl) (by kernel_rfl)) ?_
  · intro H ds h
    match ds, h with
    | [_, _], _ => rfl
  · intro W base args ds p hval hA hlt hwt hsh
    rw [Try.params5] at hA hval
    obtain ⟨v0, vs0, d0, ds0, p0, q0, hargs, rfl, rfl, h0, r0⟩ := trodAll_cons hA
    obtain ⟨v1, vs1, d1, ds1, p1, q1, rfl, rfl, rfl, h1, r1⟩ := trodAll_cons r0
    obtain ⟨rfl, rfl, rfl⟩ := trodAll_nil r1
    obtain rfl : args = #[v0, v1] := by cases args; simp_all
    obtain ⟨D0, P0, rfl, ok0, hs0⟩ := arg_font (hval 0 26 v0 rfl rfl) h0
    obtain ⟨A1, l1, c1, rfl, hc1, hm1, hs1⟩ := seen_bytes Try.underlying29 Try.underlying5 (by kernel_rfl) (hval 1 29 v1 rfl rfl) h1
    exact walk D0 P0 ok0 A1 l1 c1 hc1 hm1 W hs0 hs1

theorem holds : Rows.TfmBackSaid :=
  OpenClaim.holds_of_wide 5 Try.f5 rfl rfl rfl rfl rfl rfl rfl ⟨rfl, rfl, rfl, rfl, rfl⟩ rfl rfl rfl rfl rfl (by kernel_rfl) Try.func5 (by kernel_rfl)
    (of_decide_eq_true (by kernel_rfl)) (by unfold Func.isWrapper; first | (rw [if_pos (by decide +kernel)]; kernel_rfl) | (rw [if_neg (by decide +kernel)]; exact ⟨rfl, rfl⟩))
    (fun os started H enc _ => lifted os started H enc)
end TfmBack
end Go.Proofs.Ytlbliidgmkipbaa

