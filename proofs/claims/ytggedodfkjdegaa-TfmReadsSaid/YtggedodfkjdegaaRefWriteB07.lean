/- The document's Write, of a font that may be. -/
import Derived.Test.YtggedodfkjdegaaRefWrite07
namespace Go.Proofs.Ytggedodfkjdegaa
open Go.RowKit
namespace L07
open L06

theorem head_at (D : FontD) (M : Nat) (hM : M = 2 + D.nc + D.nw + D.nh + D.nd + D.ni + D.ns + D.nk + D.np) (j : Nat) (hj : j < 12) :
    (#[.int .i64 (6 + (M : Int)), .int .i64 2, .int .i64 D.first, .int .i64 (D.first + (D.nc : Int) - 1), .int .i64 D.nw, .int .i64 D.nh, .int .i64 D.nd, .int .i64 D.ni, .int .i64 D.ns, .int .i64 D.nk, .int .i64 0, .int .i64 D.np] : Array Value)[j]? = some (.int .i64 (headN D j)) := by
  match j, hj with
  | 0, _ => rw [hM]; rfl
  | 1, _ => rfl
  | 2, _ => rfl
  | 3, _ => rfl
  | 4, _ => rfl
  | 5, _ => rfl
  | 6, _ => rfl
  | 7, _ => rfl
  | 8, _ => rfl
  | 9, _ => rfl
  | 10, _ => rfl
  | 11, _ => rfl
theorem head_in (D : FontD) (I : FontIn D) (j : Nat) (hj : j < 12) : 0 ≤ headN D j ∧ headN D j < 9223372036854775808 := by
  have i1 := I.nw; have i2 := I.nh; have i3 := I.nd; have i4 := I.ni; have i5 := I.nk; have i6 := I.np; have i7 := I.ns; have i8 := I.nc; have i9 := I.first
  match j, hj with
  | 0, _ => simp only [headN]; omega
  | 1, _ => simp only [headN]; omega
  | 2, _ => simp only [headN]; omega
  | 3, _ => simp only [headN]; omega
  | 4, _ => simp only [headN]; omega
  | 5, _ => simp only [headN]; omega
  | 6, _ => simp only [headN]; omega
  | 7, _ => simp only [headN]; omega
  | 8, _ => simp only [headN]; omega
  | 9, _ => simp only [headN]; omega
  | 10, _ => simp only [headN]; omega
  | 11, _ => simp only [headN]; omega

set_option maxRecDepth 100000 in
set_option maxHeartbeats 40000000 in
theorem rwrite_yes (D : FontD) (P : FontP) (w : World) (ok : FontOk D P) (sn : SeenFont w D P) (h : checkB D = true) :
    Calls Try.prog 15 #[fontV D P] w (GivesB w (writeB D)) := by
  have T := Lib.hid (fun w' (x : Ext w w') => check_any D P w' ok (sn.ext x))
  rw [h] at T
  have I := Lib.hid (check_in h)
  have W0 : Ext w (w.alloc (.cells #[.int .i64 D.sum, .int .i64 D.design, .int .i64 D.first, .slice P.xc D.nc P.zc, .slice P.xw D.nw P.zw, .slice P.xh D.nh P.zh, .slice P.xd D.nd P.zd, .slice P.xi D.ni P.zi, .slice P.xs D.ns P.zs, .slice P.xk D.nk P.zk, .slice P.xp D.np P.zp] 28)) := (Ext.refl _).alloc _
  have lB : w.heap.size < (w.alloc (.cells #[.int .i64 D.sum, .int .i64 D.design, .int .i64 D.first, .slice P.xc D.nc P.zc, .slice P.xw D.nw P.zw, .slice P.xh D.nh P.zh, .slice P.xd D.nd P.zd, .slice P.xi D.ni P.zi, .slice P.xs D.ns P.zs, .slice P.xk D.nk P.zk, .slice P.xp D.np P.zp] 28)).heap.size := by simp
  have q0 : (w.alloc (.cells #[.int .i64 D.sum, .int .i64 D.design, .int .i64 D.first, .slice P.xc D.nc P.zc, .slice P.xw D.nw P.zw, .slice P.xh D.nh P.zh, .slice P.xd D.nd P.zd, .slice P.xi D.ni P.zi, .slice P.xs D.ns P.zs, .slice P.xk D.nk P.zk, .slice P.xp D.np P.zp] 28)).cell? ⟨w.heap.size, 0, none⟩ = some (.int .i64 D.sum) := by simp
  have q1 : (w.alloc (.cells #[.int .i64 D.sum, .int .i64 D.design, .int .i64 D.first, .slice P.xc D.nc P.zc, .slice P.xw D.nw P.zw, .slice P.xh D.nh P.zh, .slice P.xd D.nd P.zd, .slice P.xi D.ni P.zi, .slice P.xs D.ns P.zs, .slice P.xk D.nk P.zk, .slice P.xp D.np P.zp] 28)).cell? ⟨w.heap.size, 1, none⟩ = some (.int .i64 D.design) := by simp
  have q2 : (w.alloc (.cells #[.int .i64 D.sum, .int .i64 D.design, .int .i64 D.first, .slice P.xc D.nc P.zc, .slice P.xw D.nw P.zw, .slice P.xh D.nh P.zh, .slice P.xd D.nd P.zd, .slice P.xi D.ni P.zi, .slice P.xs D.ns P.zs, .slice P.xk D.nk P.zk, .slice P.xp D.np P.zp] 28)).cell? ⟨w.heap.size, 2, none⟩ = some (.int .i64 D.first) := by simp
  have q3 : (w.alloc (.cells #[.int .i64 D.sum, .int .i64 D.design, .int .i64 D.first, .slice P.xc D.nc P.zc, .slice P.xw D.nw P.zw, .slice P.xh D.nh P.zh, .slice P.xd D.nd P.zd, .slice P.xi D.ni P.zi, .slice P.xs D.ns P.zs, .slice P.xk D.nk P.zk, .slice P.xp D.np P.zp] 28)).cell? ⟨w.heap.size, 3, none⟩ = some (.slice P.xc D.nc P.zc) := by simp
  have q4 : (w.alloc (.cells #[.int .i64 D.sum, .int .i64 D.design, .int .i64 D.first, .slice P.xc D.nc P.zc, .slice P.xw D.nw P.zw, .slice P.xh D.nh P.zh, .slice P.xd D.nd P.zd, .slice P.xi D.ni P.zi, .slice P.xs D.ns P.zs, .slice P.xk D.nk P.zk, .slice P.xp D.np P.zp] 28)).cell? ⟨w.heap.size, 4, none⟩ = some (.slice P.xw D.nw P.zw) := by simp
  have q5 : (w.alloc (.cells #[.int .i64 D.sum, .int .i64 D.design, .int .i64 D.first, .slice P.xc D.nc P.zc, .slice P.xw D.nw P.zw, .slice P.xh D.nh P.zh, .slice P.xd D.nd P.zd, .slice P.xi D.ni P.zi, .slice P.xs D.ns P.zs, .slice P.xk D.nk P.zk, .slice P.xp D.np P.zp] 28)).cell? ⟨w.heap.size, 5, none⟩ = some (.slice P.xh D.nh P.zh) := by simp
  have q6 : (w.alloc (.cells #[.int .i64 D.sum, .int .i64 D.design, .int .i64 D.first, .slice P.xc D.nc P.zc, .slice P.xw D.nw P.zw, .slice P.xh D.nh P.zh, .slice P.xd D.nd P.zd, .slice P.xi D.ni P.zi, .slice P.xs D.ns P.zs, .slice P.xk D.nk P.zk, .slice P.xp D.np P.zp] 28)).cell? ⟨w.heap.size, 6, none⟩ = some (.slice P.xd D.nd P.zd) := by simp
  have q7 : (w.alloc (.cells #[.int .i64 D.sum, .int .i64 D.design, .int .i64 D.first, .slice P.xc D.nc P.zc, .slice P.xw D.nw P.zw, .slice P.xh D.nh P.zh, .slice P.xd D.nd P.zd, .slice P.xi D.ni P.zi, .slice P.xs D.ns P.zs, .slice P.xk D.nk P.zk, .slice P.xp D.np P.zp] 28)).cell? ⟨w.heap.size, 7, none⟩ = some (.slice P.xi D.ni P.zi) := by simp
  have q8 : (w.alloc (.cells #[.int .i64 D.sum, .int .i64 D.design, .int .i64 D.first, .slice P.xc D.nc P.zc, .slice P.xw D.nw P.zw, .slice P.xh D.nh P.zh, .slice P.xd D.nd P.zd, .slice P.xi D.ni P.zi, .slice P.xs D.ns P.zs, .slice P.xk D.nk P.zk, .slice P.xp D.np P.zp] 28)).cell? ⟨w.heap.size, 8, none⟩ = some (.slice P.xs D.ns P.zs) := by simp
  have q9 : (w.alloc (.cells #[.int .i64 D.sum, .int .i64 D.design, .int .i64 D.first, .slice P.xc D.nc P.zc, .slice P.xw D.nw P.zw, .slice P.xh D.nh P.zh, .slice P.xd D.nd P.zd, .slice P.xi D.ni P.zi, .slice P.xs D.ns P.zs, .slice P.xk D.nk P.zk, .slice P.xp D.np P.zp] 28)).cell? ⟨w.heap.size, 9, none⟩ = some (.slice P.xk D.nk P.zk) := by simp
  have q10 : (w.alloc (.cells #[.int .i64 D.sum, .int .i64 D.design, .int .i64 D.first, .slice P.xc D.nc P.zc, .slice P.xw D.nw P.zw, .slice P.xh D.nh P.zh, .slice P.xd D.nd P.zd, .slice P.xi D.ni P.zi, .slice P.xs D.ns P.zs, .slice P.xk D.nk P.zk, .slice P.xp D.np P.zp] 28)).cell? ⟨w.heap.size, 10, none⟩ = some (.slice P.xp D.np P.zp) := by simp
  clear ok h
  unfold fontV at *
  go_enter Try.func15, Try.ntmps15
  go_wp2_with fail
  refine (T.out _ W0).mono ?_; rintro e w1 ⟨rfl, x1⟩
  have q0 := x1.at q0
  have q1 := x1.at q1
  have q2 := x1.at q2
  have q3 := x1.at q3
  have q4 := x1.at q4
  have q5 := x1.at q5
  have q6 := x1.at q6
  have q7 := x1.at q7
  have q8 := x1.at q8
  have q9 := x1.at q9
  have q10 := x1.at q10
  have hB := x1.grows _ lB
  have W1 := W0.trans x1
  have sF := sn.ext W1
  clear T sn W0 lB x1
  generalize w.heap.size = B at *
  have i0 := I.out.sum
  have i1 := I.out.design
  go_wp2_with fail
  refine (four_any D.sum _ (by omega) (by omega)).mono ?_; rintro e t1 ⟨A1, k1, rfl, hk1, s1, y1⟩
  obtain ⟨x1, u1, r1, o1, _⟩ := run_putB (P := Try.prog) 22 22 5 Try.underlying22 uint8_info (OwnB.over (OwnB.nil _ w1 w1 (Ext.refl _)) y1) A1 (fourW D.sum) _ k1 s1 rfl (by simp [fourW_length])
  have o1 := Lib.hid o1
  have c1_1 := o1.out.2.at q1
  go_wp2_with (at_builtin; refine wpList_ran rfl _ _ rfl r1 ?_)
  refine (four_any D.design _ (by omega) (by omega)).mono ?_; rintro e t2 ⟨A2, k2, rfl, hk2, s2, y2⟩
  obtain ⟨x2, u2, r2, o2, _⟩ := run_putB (P := Try.prog) 22 22 5 Try.underlying22 uint8_info (OwnB.over o1.out y2) A2 (fourW D.design) _ k2 s2 rfl (by simp [fourW_length])
  have o2 := Lib.hid o2
  clear c1_1 o1 r1 s1 y1
  go_wp2_with (at_builtin; refine wpList_ran rfl _ _ rfl r2 ?_)
  have o2 : Hid (OwnB 5 w1 u2 x2 (fourW D.sum ++ fourW D.design)) := Lib.hid (by have := o2.out; simpa using this)
  clear r2 s2 y2
  have mc : D.nc ≤ 256 := by have := I.out.nc; have := I.out.first; omega
  go_loopw [5, 6] (fun v i wr => ∃ k : Nat, k ≤ D.nc ∧ i = .int .i64 k ∧ Hid (OwnB 5 w1 wr v (fourW D.sum ++ fourW D.design ++ catB (chrW D) k))) (fun _ i _ => D.nc - (intOf i).toNat)
  case atStart => exact ⟨0, by omega, rfl, by rw [catB, List.append_nil]; exact o2⟩
  case round =>
    clear o2
    obtain ⟨k, hk, rfl, o⟩ := hrel
    by_cases hlt : k < D.nc
    · obtain ⟨ad, hA, e0, e1, e2, e3, e4, e5⟩ := row6 (sF.oc.ext o.out.2) hlt
      have c3 := o.out.2.at q3
      rw [hA] at c3
      have hB' := o.out.2.grows _ hB
      obtain ⟨⟨a0, b0⟩, ⟨a1, b1⟩, ⟨a2, b2⟩, ⟨a3, b3⟩, hT⟩ := I.out.chr k hlt
      have g1 : D.chr k 1 < 16 := by have := I.out.nh; omega
      have g2 : D.chr k 2 < 16 := by have := I.out.nd; omega
      have g3 : D.chr k 3 < 64 := by have := I.out.ni; omega
      have g0 : D.chr k 0 < 256 := by have := I.out.nw; omega
      have g4 : 0 ≤ D.chr k 4 ∧ D.chr k 4 ≤ 1 := by omega
      have g5 : 0 ≤ D.chr k 5 ∧ D.chr k 5 < 256 := by have := I.out.ns; omega
      obtain ⟨g4, g4'⟩ := g4
      obtain ⟨g5, g5'⟩ := g5
      clear hT b0 b1 b2 b3
      have HC : Hid (chrW D k = [b8 (D.chr k 0), b8 (16 * D.chr k 1 + D.chr k 2), b8 (4 * D.chr k 3 + D.chr k 4), b8 (D.chr k 5)]) := rfl
      clear sF hA q0 q1 q2 q3 q4 q5 q6 q7 q8 q9 q10
      generalize D.chr k 0 = v0 at *
      generalize D.chr k 1 = v1 at *
      generalize D.chr k 2 = v2 at *
      generalize D.chr k 3 = v3 at *
      generalize D.chr k 4 = v4 at *
      generalize D.chr k 5 = v5 at *
      obtain ⟨xr, ur, rr, hr, _⟩ := run_putB (P := Try.prog) 22 22 5 Try.underlying22 uint8_info (OwnB.over o.out (((Ext.refl wr).alloc (.cells #[.int .i64 v0, .int .i64 v1, .int .i64 v2, .int .i64 v3, .int .i64 v4, .int .i64 v5] 35)).alloc (.cells #[.int .u8 v0, .int .u8 (16 * v1 + v2), .int .u8 (4 * v3 + v4), .int .u8 v5] 5))) (some ⟨wr.heap.size + 1, 0, none⟩) [b8 v0, b8 (16 * v1 + v2), b8 (4 * v3 + v4), b8 v5] 4 4
        (lit_seen _ _ #[.int .u8 v0, .int .u8 (16 * v1 + v2), .int .u8 (4 * v3 + v4), .int .u8 v5] [b8 v0, b8 (16 * v1 + v2), b8 (4 * v3 + v4), b8 v5] (by simp [bv, b8_int]; omega) (by simp)) rfl (by simp [fourW_length, catB_length (k := 4) (g := chrW D) (fun _ => rfl)]; omega)
      have hr := Lib.hid hr
      clear o
      go_wp2_with (at_builtin; refine wpList_ran rfl _ _ rfl rr ?_)
      go_roundw
      case rel => exact ⟨k + 1, by omega, by go_num, Lib.hid (by rw [catB, HC.out, ← List.append_assoc]; exact hr.out)⟩
      case measure => simp [intOf]; omega
    · have ek : k = D.nc := by omega
      subst ek
      clear hlt hk
      have c3 := o.out.2.at q3
      have c4 := o.out.2.at q4
      go_wp2_with fail
      refine (all_any P.xw D.nw P.zw D.wd _ (sF.ow.ext o.out.2) (by have := I.out.nw; omega) (fun j hj => by have := I.out.wd j hj; omega)).mono ?_; rintro e t3 ⟨A3, k3, rfl, hk3, s3, y3⟩
      obtain ⟨x3, u3, r3, o3, _⟩ := run_putB (P := Try.prog) 22 22 5 Try.underlying22 uint8_info (OwnB.over o.out y3) A3 (allW D.wd D.nw) _ k3 s3 rfl (by have i1 := I.out.nw; have i2 := I.out.nh; have i3 := I.out.nd; have i4 := I.out.ni; have i5 := I.out.nk; have i6 := I.out.np; have i7 := I.out.ns; simp only [List.length_append, fourW_length, allW_length, catB_length (k := 4) (g := chrW D) (fun _ => rfl)]; omega)
      have o3 := Lib.hid o3
      have c5_3 := o3.out.2.at q5
      clear c3 c4 o
      go_wp2_with (at_builtin; refine wpList_ran rfl _ _ rfl r3 ?_)
      refine (all_any P.xh D.nh P.zh D.hd _ (sF.oh.ext o3.out.2) (by have := I.out.nh; omega) (fun j hj => by have := I.out.hd j hj; omega)).mono ?_; rintro e t4 ⟨A4, k4, rfl, hk4, s4, y4⟩
      obtain ⟨x4, u4, r4, o4, _⟩ := run_putB (P := Try.prog) 22 22 5 Try.underlying22 uint8_info (OwnB.over o3.out y4) A4 (allW D.hd D.nh) _ k4 s4 rfl (by have i1 := I.out.nw; have i2 := I.out.nh; have i3 := I.out.nd; have i4 := I.out.ni; have i5 := I.out.nk; have i6 := I.out.np; have i7 := I.out.ns; simp only [List.length_append, fourW_length, allW_length, catB_length (k := 4) (g := chrW D) (fun _ => rfl)]; omega)
      have o4 := Lib.hid o4
      have c6_4 := o4.out.2.at q6
      clear c5_3 o3 r3 s3 y3
      go_wp2_with (at_builtin; refine wpList_ran rfl _ _ rfl r4 ?_)
      refine (all_any P.xd D.nd P.zd D.dd _ (sF.od.ext o4.out.2) (by have := I.out.nd; omega) (fun j hj => by have := I.out.dd j hj; omega)).mono ?_; rintro e t5 ⟨A5, k5, rfl, hk5, s5, y5⟩
      obtain ⟨x5, u5, r5, o5, _⟩ := run_putB (P := Try.prog) 22 22 5 Try.underlying22 uint8_info (OwnB.over o4.out y5) A5 (allW D.dd D.nd) _ k5 s5 rfl (by have i1 := I.out.nw; have i2 := I.out.nh; have i3 := I.out.nd; have i4 := I.out.ni; have i5 := I.out.nk; have i6 := I.out.np; have i7 := I.out.ns; simp only [List.length_append, fourW_length, allW_length, catB_length (k := 4) (g := chrW D) (fun _ => rfl)]; omega)
      have o5 := Lib.hid o5
      have c7_5 := o5.out.2.at q7
      clear c6_4 o4 r4 s4 y4
      go_wp2_with (at_builtin; refine wpList_ran rfl _ _ rfl r5 ?_)
      refine (all_any P.xi D.ni P.zi D.id _ (sF.oi.ext o5.out.2) (by have := I.out.ni; omega) (fun j hj => by have := I.out.id j hj; omega)).mono ?_; rintro e t6 ⟨A6, k6, rfl, hk6, s6, y6⟩
      obtain ⟨x6, u6, r6, o6, _⟩ := run_putB (P := Try.prog) 22 22 5 Try.underlying22 uint8_info (OwnB.over o5.out y6) A6 (allW D.id D.ni) _ k6 s6 rfl (by have i1 := I.out.nw; have i2 := I.out.nh; have i3 := I.out.nd; have i4 := I.out.ni; have i5 := I.out.nk; have i6 := I.out.np; have i7 := I.out.ns; simp only [List.length_append, fourW_length, allW_length, catB_length (k := 4) (g := chrW D) (fun _ => rfl)]; omega)
      have o6 := Lib.hid o6
      clear c7_5 o5 r5 s5 y5
      go_wp2_with (at_builtin; refine wpList_ran rfl _ _ rfl r6 ?_)
      obtain ⟨L6, hL6⟩ : ∃ L6, L6 = fourW D.sum ++ fourW D.design ++ catB (chrW D) D.nc ++ allW D.wd D.nw ++ allW D.hd D.nh ++ allW D.dd D.nd ++ allW D.id D.ni := ⟨_, rfl⟩
      rw [← hL6] at o6
      have hl6 : L6.length ≤ 50000 := by have i1 := I.out.nw; have i2 := I.out.nh; have i3 := I.out.nd; have i4 := I.out.ni; rw [hL6]; simp only [List.length_append, fourW_length, allW_length, catB_length (k := 4) (g := chrW D) (fun _ => rfl)]; omega
      have HL6 := Lib.hid hL6
      clear hL6 r6 s6 y6
      have ms := I.out.ns
      go_loopw [5, 8] (fun v i wr => ∃ k : Nat, k ≤ D.ns ∧ i = .int .i64 k ∧ Hid (OwnB 5 w1 wr v (L6 ++ catB (stpW D) k))) (fun _ i _ => D.ns - (intOf i).toNat)
      case atStart => exact ⟨0, by omega, rfl, by rw [catB, List.append_nil]; exact o6⟩
      case round =>
        clear o6
        obtain ⟨k, hk, rfl, o⟩ := hrel
        by_cases hlt : k < D.ns
        · obtain ⟨ad, hA, e0, e1, e2, e3⟩ := row4 (sF.os.ext o.out.2) hlt
          have c8 := o.out.2.at q8
          rw [hA] at c8
          have hB' := o.out.2.grows _ hB
          obtain ⟨⟨a0, b0⟩, ⟨a1, b1⟩, ⟨a2, b2⟩, ⟨a3, b3⟩⟩ := I.out.stp k hlt
          have HC : Hid (stpW D k = [b8 (D.stp k 0), b8 (D.stp k 1), b8 (D.stp k 2), b8 (D.stp k 3)]) := rfl
          clear sF hA q0 q1 q2 q3 q4 q5 q6 q7 q8 q9 q10
          generalize D.stp k 0 = v0 at *
          generalize D.stp k 1 = v1 at *
          generalize D.stp k 2 = v2 at *
          generalize D.stp k 3 = v3 at *
          obtain ⟨xr, ur, rr, hr, _⟩ := run_putB (P := Try.prog) 22 22 5 Try.underlying22 uint8_info (OwnB.over o.out (((Ext.refl wr).alloc (.cells #[.int .i64 v0, .int .i64 v1, .int .i64 v2, .int .i64 v3] 45)).alloc (.cells #[.int .u8 v0, .int .u8 v1, .int .u8 v2, .int .u8 v3] 5))) (some ⟨wr.heap.size + 1, 0, none⟩) [b8 v0, b8 v1, b8 v2, b8 v3] 4 4
            (lit_seen _ _ #[.int .u8 v0, .int .u8 v1, .int .u8 v2, .int .u8 v3] [b8 v0, b8 v1, b8 v2, b8 v3] (by simp [bv, b8_int]; omega) (by simp)) rfl (by simp [catB_length (k := 4) (g := stpW D) (fun _ => rfl)]; omega)
          have hr := Lib.hid hr
          clear o
          go_wp2_with (at_builtin; refine wpList_ran rfl _ _ rfl rr ?_)
          go_roundw
          case rel => exact ⟨k + 1, by omega, by go_num, Lib.hid (by rw [catB, HC.out, ← List.append_assoc]; exact hr.out)⟩
          case measure => simp [intOf]; omega
        · have ek : k = D.ns := by omega
          subst ek
          clear hlt hk
          have c8 := o.out.2.at q8
          have c9 := o.out.2.at q9
          go_wp2_with fail
          refine (all_any P.xk D.nk P.zk D.kd _ (sF.ok.ext o.out.2) (by have := I.out.nk; omega) (fun j hj => by have := I.out.kd j hj; omega)).mono ?_; rintro e t7 ⟨A7, k7, rfl, hk7, s7, y7⟩
          obtain ⟨x7, u7, r7, o7, _⟩ := run_putB (P := Try.prog) 22 22 5 Try.underlying22 uint8_info (OwnB.over o.out y7) A7 (allW D.kd D.nk) _ k7 s7 rfl (by have i1 := I.out.nk; have i2 := I.out.np; simp only [List.length_append, allW_length, catB_length (k := 4) (g := stpW D) (fun _ => rfl)]; omega)
          have o7 := Lib.hid o7
          have c10_7 := o7.out.2.at q10
          clear c8 c9 o
          go_wp2_with (at_builtin; refine wpList_ran rfl _ _ rfl r7 ?_)
          refine (all_any P.xp D.np P.zp D.pd _ (sF.op.ext o7.out.2) (by have := I.out.np; omega) (fun j hj => by have := I.out.pd j hj; omega)).mono ?_; rintro e t8 ⟨A8, k8, rfl, hk8, s8, y8⟩
          obtain ⟨x8, u8, r8, o8, _⟩ := run_putB (P := Try.prog) 22 22 5 Try.underlying22 uint8_info (OwnB.over o7.out y8) A8 (allW D.pd D.np) _ k8 s8 rfl (by have i1 := I.out.nk; have i2 := I.out.np; simp only [List.length_append, allW_length, catB_length (k := 4) (g := stpW D) (fun _ => rfl)]; omega)
          have o8 := Lib.hid o8
          obtain ⟨AB, cB, hxB, hcB, sB⟩ := o8.out.seen
          subst hxB
          obtain ⟨M, hM⟩ : ∃ M : Nat, M = 2 + D.nc + D.nw + D.nh + D.nd + D.ni + D.ns + D.nk + D.np := ⟨_, rfl⟩
          have hbody : L6 ++ catB (stpW D) D.ns ++ allW D.kd D.nk ++ allW D.pd D.np = bodyW D := by rw [HL6.out]; simp only [bodyW, List.append_assoc]
          rw [hbody] at r8 hcB sB o8
          have hlb : (bodyW D).length = 4 * M := by rw [bodyW_length, hM]
          rw [hlb] at r8 hcB
          have c2_8 := o8.out.2.at q2
          have c3_8 := o8.out.2.at q3
          have c4_8 := o8.out.2.at q4
          have c5_8 := o8.out.2.at q5
          have c6_8 := o8.out.2.at q6
          have c7_8 := o8.out.2.at q7
          have c8_8 := o8.out.2.at q8
          have c9_8 := o8.out.2.at q9
          have c10_8 := o8.out.2.at q10
          have hfi := I.out.first
          have hnc := I.out.nc
          have hM' : M ≤ 5000 := by have i1 := I.out.nw; have i2 := I.out.nh; have i3 := I.out.nd; have i4 := I.out.ni; have i5 := I.out.nk; have i6 := I.out.np; omega
          have HM := Lib.hid hM
          have HLB := Lib.hid hlb
          clear hM hbody hlb s8 y8 s7 y7 r7 o7 hl6 HL6
          obtain ⟨hf0, hf1⟩ := hfi
          obtain ⟨hc0, hc1⟩ := hnc
          go_wp2_with (at_builtin; refine wpList_ran rfl _ _ rfl r8 ?_)
          have HH : SeenF (u8.alloc (.cells #[.int .i64 (6 + (M : Int)), .int .i64 2, .int .i64 D.first, .int .i64 (D.first + (D.nc : Int) - 1), .int .i64 D.nw, .int .i64 D.nh, .int .i64 D.nd, .int .i64 D.ni, .int .i64 D.ns, .int .i64 D.nk, .int .i64 0, .int .i64 D.np] 3)) (some ⟨u8.heap.size, 0, none⟩) 12 (headN D) := (rowF_new u8 #[.int .i64 (6 + (M : Int)), .int .i64 2, .int .i64 D.first, .int .i64 (D.first + (D.nc : Int) - 1), .int .i64 D.nw, .int .i64 D.nh, .int .i64 D.nd, .int .i64 D.ni, .int .i64 D.ns, .int .i64 D.nk, .int .i64 0, .int .i64 D.np] 3 12 (headN D) (fun j hj => head_at D M HM.out j hj)).seen
          have sB' := sB.ext ((Ext.refl u8).alloc (.cells #[.int .i64 (6 + (M : Int)), .int .i64 2, .int .i64 D.first, .int .i64 (D.first + (D.nc : Int) - 1), .int .i64 D.nw, .int .i64 D.nh, .int .i64 D.nd, .int .i64 D.ni, .int .i64 D.ns, .int .i64 D.nk, .int .i64 0, .int .i64 D.np] 3))
          have W8 : Ext w (u8.alloc (.cells #[.int .i64 (6 + (M : Int)), .int .i64 2, .int .i64 D.first, .int .i64 (D.first + (D.nc : Int) - 1), .int .i64 D.nw, .int .i64 D.nh, .int .i64 D.nd, .int .i64 D.ni, .int .i64 D.ns, .int .i64 D.nk, .int .i64 0, .int .i64 D.np] 3)) := W1.trans (o8.out.2.alloc _)
          have hb := Lib.hid (fun k (hk : k < 12) => head_in D I.out k hk)
          clear q0 q1 q2 q3 q4 q5 q6 q7 q8 q9 q10 c2_8 c3_8 c4_8 c5_8 c6_8 c7_8 c8_8 c9_8 c10_8 sF hB o8 sB r8 hf0 hf1 hc0 hc1
          generalize (u8.alloc (.cells #[.int .i64 (6 + (M : Int)), .int .i64 2, .int .i64 D.first, .int .i64 (D.first + (D.nc : Int) - 1), .int .i64 D.nw, .int .i64 D.nh, .int .i64 D.nd, .int .i64 D.ni, .int .i64 D.ns, .int .i64 D.nk, .int .i64 0, .int .i64 D.np] 3)) = wH at *
          generalize u8.heap.size = BH at *
          go_loopw [11, 12] (fun v i wr => ∃ k : Nat, k ≤ 12 ∧ i = .int .i64 k ∧ Hid (OwnB 5 wH wr v (catB (fun j => twoW (headN D j)) k))) (fun _ i _ => 12 - (intOf i).toNat)
          case atStart => exact ⟨0, by omega, rfl, Lib.hid (OwnB.nil _ _ _ (Ext.refl _))⟩
          case round =>
            obtain ⟨k, hk, rfl, o⟩ := hrel
            by_cases hlt : k < 12
            · obtain ⟨ad, hA, g⟩ := (HH.ext o.out.2).get hlt
              obtain rfl : ad = ⟨BH, 0, none⟩ := (Option.some.inj hA).symm
              obtain ⟨b1, b2⟩ := hb.out k hlt
              obtain ⟨x, hx⟩ : ∃ x, x = headN D k := ⟨_, rfl⟩
              rw [← hx] at g b1 b2
              have HX := Lib.hid hx
              clear hx hA
              rw [add_zero_addr] at g
              go_wp2_with fail
              refine (two_any x _ b1 b2).mono ?_; rintro e t9 ⟨A9, k9, rfl, hk9, s9, y9⟩
              obtain ⟨xr, ur, rr, hr, _⟩ := run_putB (P := Try.prog) 22 22 5 Try.underlying22 uint8_info (OwnB.over o.out y9) A9 (twoW x) _ k9 s9 rfl (by rw [catB_length (k := 2) (fun _ => rfl), twoW_length]; omega)
              have hr := Lib.hid hr
              clear o s9
              go_wp2_with (at_builtin; refine wpList_ran rfl _ _ rfl rr ?_)
              go_roundw
              case rel => exact ⟨k + 1, by omega, by go_num, Lib.hid (by rw [catB, ← HX.out]; exact hr.out)⟩
              case measure => simp [intOf]; omega
            · have ek : k = 12 := by omega
              subst ek
              obtain ⟨xr, ur, rr, hr, _⟩ := run_putB (P := Try.prog) 22 22 5 Try.underlying22 uint8_info o.out AB (bodyW D) (4 * M) cB (sB'.ext o.out.2) HLB.out.symm (by rw [catB_length (k := 2) (fun _ => rfl), HLB.out]; omega)
              obtain ⟨AR, cR, rfl, hcR, sR⟩ := hr.seen
              have X := W8.trans hr.2
              clear hr
              go_wp2_with (at_builtin; refine wpList_ran rfl _ _ rfl rr ?_)
              go_ret2
              exact ⟨AR, cR, by simp [writeB], hcR, sR, X⟩
end L07
end Go.Proofs.Ytggedodfkjdegaa

