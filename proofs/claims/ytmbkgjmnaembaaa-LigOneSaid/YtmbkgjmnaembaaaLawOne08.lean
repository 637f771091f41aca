/- LigOne: one code alone is one glyph, of itself, without a kern, just if it may be set, and of none there are none (at most three hundred of each): for every input. -/
import Derived.Test.YtmbkgjmnaembaaaAwake08
namespace Go.Proofs.Ytmbkgjmnaembaaa
open Go.ChangeShapes Go.WideShapes Go.ChangeAt Go.RowKit Go.Deep
namespace LigOne
open L07 L08

set_option maxRecDepth 100000 in
set_option maxHeartbeats 16000000 in
theorem walk (D : FontD) (P : FontP) (ok : FontOk D P) (n : Int) (hn : -9223372036854775808 ≤ n ∧ n ≤ 9223372036854775807) (w : World) (sn : SeenFont w D P) :
    Calls Try.prog 7 #[fontV D P, .int .i64 n] w (Ret w (.bool true)) := by
  have W0 : Ext w (w.alloc (.cells #[.int .i64 D.sum, .int .i64 D.design, .int .i64 D.first, .slice P.xc D.nc P.zc, .slice P.xw D.nw P.zw, .slice P.xh D.nh P.zh, .slice P.xd D.nd P.zd, .slice P.xi D.ni P.zi, .slice P.xs D.ns P.zs, .slice P.xk D.nk P.zk, .slice P.xp D.np P.zp] 26)) := (Ext.refl _).alloc _
  have SN := Lib.hid (fun w' (x : Ext (w.alloc (.cells #[.int .i64 D.sum, .int .i64 D.design, .int .i64 D.first, .slice P.xc D.nc P.zc, .slice P.xw D.nw P.zw, .slice P.xh D.nh P.zh, .slice P.xd D.nd P.zd, .slice P.xi D.ni P.zi, .slice P.xs D.ns P.zs, .slice P.xk D.nk P.zk, .slice P.xp D.np P.zp] 26)) w') => (sn.ext W0).ext x)
  have OK := Lib.hid ok
  have kF : Blk (w.alloc (.cells #[.int .i64 D.sum, .int .i64 D.design, .int .i64 D.first, .slice P.xc D.nc P.zc, .slice P.xw D.nw P.zw, .slice P.xh D.nh P.zh, .slice P.xd D.nd P.zd, .slice P.xi D.ni P.zi, .slice P.xs D.ns P.zs, .slice P.xk D.nk P.zk, .slice P.xp D.np P.zp] 26)) w.heap.size 26 [.int .i64 D.sum, .int .i64 D.design, .int .i64 D.first, .slice P.xc D.nc P.zc, .slice P.xw D.nw P.zw, .slice P.xh D.nh P.zh, .slice P.xd D.nd P.zd, .slice P.xi D.ni P.zi, .slice P.xs D.ns P.zs, .slice P.xk D.nk P.zk, .slice P.xp D.np P.zp] := Blk.lit _ _ _ _ rfl
  obtain ⟨n0, n1⟩ := hn
  clear ok sn
  have S1 := Lib.hid (fun w' (x : Ext (w.alloc (.cells #[.int .i64 D.sum, .int .i64 D.design, .int .i64 D.first, .slice P.xc D.nc P.zc, .slice P.xw D.nw P.zw, .slice P.xh D.nh P.zh, .slice P.xd D.nd P.zd, .slice P.xi D.ni P.zi, .slice P.xs D.ns P.zs, .slice P.xk D.nk P.zk, .slice P.xp D.np P.zp] 26)) w') (b : Nat) (hs : SeenF w' (some ⟨b, 0, none⟩) 1 (fun j => [n].getD j 0)) => show Calls Try.prog 10 #[.agg #[.int .i64 D.sum, .int .i64 D.design, .int .i64 D.first, .slice P.xc D.nc P.zc, .slice P.xw D.nw P.zw, .slice P.xh D.nh P.zh, .slice P.xd D.nd P.zd, .slice P.xi D.ni P.zi, .slice P.xs D.ns P.zs, .slice P.xk D.nk P.zk, .slice P.xp D.np P.zp], .slice (some ⟨b, 0, none⟩) 1 1] w' (GlyQ w' (setR D [n])) from lset_any D P (some ⟨b, 0, none⟩) [n] 1 w' OK.out (SN.out _ x) hs (by simp) (by simp) (by simp [maxLen]))
  have S0 := Lib.hid (fun w' (x : Ext (w.alloc (.cells #[.int .i64 D.sum, .int .i64 D.design, .int .i64 D.first, .slice P.xc D.nc P.zc, .slice P.xw D.nw P.zw, .slice P.xh D.nh P.zh, .slice P.xd D.nd P.zd, .slice P.xi D.ni P.zi, .slice P.xs D.ns P.zs, .slice P.xk D.nk P.zk, .slice P.xp D.np P.zp] 26)) w') => show Calls Try.prog 10 #[.agg #[.int .i64 D.sum, .int .i64 D.design, .int .i64 D.first, .slice P.xc D.nc P.zc, .slice P.xw D.nw P.zw, .slice P.xh D.nh P.zh, .slice P.xd D.nd P.zd, .slice P.xi D.ni P.zi, .slice P.xs D.ns P.zs, .slice P.xk D.nk P.zk, .slice P.xp D.np P.zp], .slice none 0 0] w' (GlyQ w' (setR D [])) from lset_any D P none [] 0 w' OK.out (SN.out _ x) SeenF.none (by simp) (by simp) (by simp [maxLen]))
  have CK := Lib.hid (fun w' (x : Ext (w.alloc (.cells #[.int .i64 D.sum, .int .i64 D.design, .int .i64 D.first, .slice P.xc D.nc P.zc, .slice P.xw D.nw P.zw, .slice P.xh D.nh P.zh, .slice P.xd D.nd P.zd, .slice P.xi D.ni P.zi, .slice P.xs D.ns P.zs, .slice P.xk D.nk P.zk, .slice P.xp D.np P.zp] 26)) w') => show Calls Try.prog 16 #[.agg #[.int .i64 D.sum, .int .i64 D.design, .int .i64 D.first, .slice P.xc D.nc P.zc, .slice P.xw D.nw P.zw, .slice P.xh D.nh P.zh, .slice P.xd D.nd P.zd, .slice P.xi D.ni P.zi, .slice P.xs D.ns P.zs, .slice P.xk D.nk P.zk, .slice P.xp D.np P.zp]] w' (Ret w' (.bool (ligB D))) from lcheck_any D P w' OK.out (SN.out _ x))
  have HAS := Lib.hid (fun w' (x : Ext (w.alloc (.cells #[.int .i64 D.sum, .int .i64 D.design, .int .i64 D.first, .slice P.xc D.nc P.zc, .slice P.xw D.nw P.zw, .slice P.xh D.nh P.zh, .slice P.xd D.nd P.zd, .slice P.xi D.ni P.zi, .slice P.xs D.ns P.zs, .slice P.xk D.nk P.zk, .slice P.xp D.np P.zp] 26)) w') => show Calls Try.prog 18 #[.agg #[.int .i64 D.sum, .int .i64 D.design, .int .i64 D.first, .slice P.xc D.nc P.zc, .slice P.xw D.nw P.zw, .slice P.xh D.nh P.zh, .slice P.xd D.nd P.zd, .slice P.xi D.ni P.zi, .slice P.xs D.ns P.zs, .slice P.xk D.nk P.zk, .slice P.xp D.np P.zp], .int .i64 n] w' (Ret w' (.bool (hasB D n))) from thas_any D P n w' OK.out (SN.out _ x) ⟨n0, n1⟩)
  have FEW := Lib.hid (fun w' => show Calls Try.prog 9 #[.agg #[.int .i64 D.sum, .int .i64 D.design, .int .i64 D.first, .slice P.xc D.nc P.zc, .slice P.xw D.nw P.zw, .slice P.xh D.nh P.zh, .slice P.xd D.nd P.zd, .slice P.xi D.ni P.zi, .slice P.xs D.ns P.zs, .slice P.xk D.nk P.zk, .slice P.xp D.np P.zp]] w' (Ret w' (.bool (fewB D))) from few_any D P w')
  unfold fontV
  go_enter Try.func7, Try.ntmps7
  go_wp2_with fail
  generalize (w.alloc (.cells #[.int .i64 D.sum, .int .i64 D.design, .int .i64 D.first, .slice P.xc D.nc P.zc, .slice P.xw D.nw P.zw, .slice P.xh D.nh P.zh, .slice P.xd D.nd P.zd, .slice P.xi D.ni P.zi, .slice P.xs D.ns P.zs, .slice P.xk D.nk P.zk, .slice P.xp D.np P.zp] 26)) = V at *
  generalize w.heap.size = B at *
  refine (awake_any _).mono ?_; rintro e w1 ⟨rfl, x1⟩
  have k1 := kF.ext x1
  have q0 : w1.cell? ⟨B, 0, none⟩ = some (.int .i64 D.sum) := k1.cell 0
  have q1 : w1.cell? ⟨B, 1, none⟩ = some (.int .i64 D.design) := k1.cell 1
  have q2 : w1.cell? ⟨B, 2, none⟩ = some (.int .i64 D.first) := k1.cell 2
  have q3 : w1.cell? ⟨B, 3, none⟩ = some (.slice P.xc D.nc P.zc) := k1.cell 3
  have q4 : w1.cell? ⟨B, 4, none⟩ = some (.slice P.xw D.nw P.zw) := k1.cell 4
  have q5 : w1.cell? ⟨B, 5, none⟩ = some (.slice P.xh D.nh P.zh) := k1.cell 5
  have q6 : w1.cell? ⟨B, 6, none⟩ = some (.slice P.xd D.nd P.zd) := k1.cell 6
  have q7 : w1.cell? ⟨B, 7, none⟩ = some (.slice P.xi D.ni P.zi) := k1.cell 7
  have q8 : w1.cell? ⟨B, 8, none⟩ = some (.slice P.xs D.ns P.zs) := k1.cell 8
  have q9 : w1.cell? ⟨B, 9, none⟩ = some (.slice P.xk D.nk P.zk) := k1.cell 9
  have q10 : w1.cell? ⟨B, 10, none⟩ = some (.slice P.xp D.np P.zp) := k1.cell 10
  go_wp2_with fail
  refine (FEW.out _).mono ?_; rintro e w2 ⟨rfl, x2⟩
  have X2 := x1.trans x2
  have k2 := k1.ext x2
  clear q0 q1 q2 q3 q4 q5 q6 q7 q8 q9 q10 kF k1 x1 x2 FEW
  have q0 : w2.cell? ⟨B, 0, none⟩ = some (.int .i64 D.sum) := k2.cell 0
  have q1 : w2.cell? ⟨B, 1, none⟩ = some (.int .i64 D.design) := k2.cell 1
  have q2 : w2.cell? ⟨B, 2, none⟩ = some (.int .i64 D.first) := k2.cell 2
  have q3 : w2.cell? ⟨B, 3, none⟩ = some (.slice P.xc D.nc P.zc) := k2.cell 3
  have q4 : w2.cell? ⟨B, 4, none⟩ = some (.slice P.xw D.nw P.zw) := k2.cell 4
  have q5 : w2.cell? ⟨B, 5, none⟩ = some (.slice P.xh D.nh P.zh) := k2.cell 5
  have q6 : w2.cell? ⟨B, 6, none⟩ = some (.slice P.xd D.nd P.zd) := k2.cell 6
  have q7 : w2.cell? ⟨B, 7, none⟩ = some (.slice P.xi D.ni P.zi) := k2.cell 7
  have q8 : w2.cell? ⟨B, 8, none⟩ = some (.slice P.xs D.ns P.zs) := k2.cell 8
  have q9 : w2.cell? ⟨B, 9, none⟩ = some (.slice P.xk D.nk P.zk) := k2.cell 9
  have q10 : w2.cell? ⟨B, 10, none⟩ = some (.slice P.xp D.np P.zp) := k2.cell 10
  have lb := k2.lt
  cases fewB D with
  | false =>
    go_wp2_with fail
    go_ret
    exact ⟨rfl, W0.trans X2⟩
  | true =>
  go_wp2_with fail
  refine (S1.out _ (X2.alloc _) _ (seen_lit w2 [n] 3)).mono ?_
  rintro e w3 ⟨x3, A3, c3, rfl, h3, h3', s3⟩
  have x23 := ((Ext.refl w2).alloc _).trans x3
  have X3 := X2.trans x23
  have k3 := k2.ext x23
  clear q0 q1 q2 q3 q4 q5 q6 q7 q8 q9 q10 k2 x3 x23 X2 S1 lb
  have q0 : w3.cell? ⟨B, 0, none⟩ = some (.int .i64 D.sum) := k3.cell 0
  have q1 : w3.cell? ⟨B, 1, none⟩ = some (.int .i64 D.design) := k3.cell 1
  have q2 : w3.cell? ⟨B, 2, none⟩ = some (.int .i64 D.first) := k3.cell 2
  have q3 : w3.cell? ⟨B, 3, none⟩ = some (.slice P.xc D.nc P.zc) := k3.cell 3
  have q4 : w3.cell? ⟨B, 4, none⟩ = some (.slice P.xw D.nw P.zw) := k3.cell 4
  have q5 : w3.cell? ⟨B, 5, none⟩ = some (.slice P.xh D.nh P.zh) := k3.cell 5
  have q6 : w3.cell? ⟨B, 6, none⟩ = some (.slice P.xd D.nd P.zd) := k3.cell 6
  have q7 : w3.cell? ⟨B, 7, none⟩ = some (.slice P.xi D.ni P.zi) := k3.cell 7
  have q8 : w3.cell? ⟨B, 8, none⟩ = some (.slice P.xs D.ns P.zs) := k3.cell 8
  have q9 : w3.cell? ⟨B, 9, none⟩ = some (.slice P.xk D.nk P.zk) := k3.cell 9
  have q10 : w3.cell? ⟨B, 10, none⟩ = some (.slice P.xp D.np P.zp) := k3.cell 10
  have R1 : Hid (∃ g e, setR D [n] = (g, e)) := ⟨_, _, rfl⟩
  obtain ⟨g, er, hr⟩ := R1.out
  rw [hr] at s3 h3
  simp only [hr]
  have HR := Lib.hid hr
  clear hr R1
  go_wp2_with fail
  refine (S0.out _ X3).mono ?_
  rintro e w4 ⟨x4, A4, c4, rfl, h4, h4', s4⟩
  have X4 := X3.trans x4
  have k4 := k3.ext x4
  have s3 := s3.ext x4
  clear q0 q1 q2 q3 q4 q5 q6 q7 q8 q9 q10 k3 x4 X3 S0 s4 h4 h4' h3 h3'
  have q0 : w4.cell? ⟨B, 0, none⟩ = some (.int .i64 D.sum) := k4.cell 0
  have q1 : w4.cell? ⟨B, 1, none⟩ = some (.int .i64 D.design) := k4.cell 1
  have q2 : w4.cell? ⟨B, 2, none⟩ = some (.int .i64 D.first) := k4.cell 2
  have q3 : w4.cell? ⟨B, 3, none⟩ = some (.slice P.xc D.nc P.zc) := k4.cell 3
  have q4 : w4.cell? ⟨B, 4, none⟩ = some (.slice P.xw D.nw P.zw) := k4.cell 4
  have q5 : w4.cell? ⟨B, 5, none⟩ = some (.slice P.xh D.nh P.zh) := k4.cell 5
  have q6 : w4.cell? ⟨B, 6, none⟩ = some (.slice P.xd D.nd P.zd) := k4.cell 6
  have q7 : w4.cell? ⟨B, 7, none⟩ = some (.slice P.xi D.ni P.zi) := k4.cell 7
  have q8 : w4.cell? ⟨B, 8, none⟩ = some (.slice P.xs D.ns P.zs) := k4.cell 8
  have q9 : w4.cell? ⟨B, 9, none⟩ = some (.slice P.xk D.nk P.zk) := k4.cell 9
  have q10 : w4.cell? ⟨B, 10, none⟩ = some (.slice P.xp D.np P.zp) := k4.cell 10
  cases hL : ligB D with
  | false =>
    have e1 : setR D [n] = ([], 70) := by rw [setR, hL]; rfl
    have e2 : setR D [] = ([], 70) := by rw [setR, hL]; rfl
    rw [HR.out] at e1
    cases e1
    rw [e2]
    rw [hL] at CK
    clear e2 hL s3 HR
    go_wp2_with fail
    refine (CK.out _ X4).mono ?_; rintro e w5 ⟨rfl, x5⟩
    go_wp2_with fail
    go_ret
    exact ⟨rfl, W0.trans (X4.trans x5)⟩
  | true =>
    have e2 : setR D [] = ([], 0) := by rw [setR, hL]; rfl
    rw [e2]
    rw [hL] at CK
    clear e2
    cases hO : oneB D n with
    | true =>
      have e1 : setR D [n] = ([(n, 0)], 0) := by
        rw [setR, hL, show setB D [n] = true by simp [setB, hO]]; rfl
      rw [HR.out] at e1
      cases e1
      simp only [oneB, Bool.and_eq_true, decide_eq_true_eq] at hO
      obtain ⟨⟨o1, o2⟩, o3⟩ := hO
      rw [o3] at HAS
      obtain ⟨ad, rfl, u0, u1⟩ := s3.get (k := 0) (by simp)
      have u0 : w4.cell? ad = some (.int .i64 n) := by simpa [Addr.add] using u0
      have u1 : w4.cell? ⟨ad.block, ad.off + 1, none⟩ = some (.int .i64 0) := by simpa [Addr.add] using u1
      clear hL o3 HR s3
      go_wp2_with fail
      refine (CK.out _ X4).mono ?_; rintro e w5 ⟨rfl, x5⟩
      have X5 := X4.trans x5
      have k5 := k4.ext x5
      have u0 := x5.at u0
      have u1 := x5.at u1
      clear q0 q1 q2 q3 q4 q5 q6 q7 q8 q9 q10 k4 x5 X4 CK
      have q0 : w5.cell? ⟨B, 0, none⟩ = some (.int .i64 D.sum) := k5.cell 0
      have q1 : w5.cell? ⟨B, 1, none⟩ = some (.int .i64 D.design) := k5.cell 1
      have q2 : w5.cell? ⟨B, 2, none⟩ = some (.int .i64 D.first) := k5.cell 2
      have q3 : w5.cell? ⟨B, 3, none⟩ = some (.slice P.xc D.nc P.zc) := k5.cell 3
      have q4 : w5.cell? ⟨B, 4, none⟩ = some (.slice P.xw D.nw P.zw) := k5.cell 4
      have q5 : w5.cell? ⟨B, 5, none⟩ = some (.slice P.xh D.nh P.zh) := k5.cell 5
      have q6 : w5.cell? ⟨B, 6, none⟩ = some (.slice P.xd D.nd P.zd) := k5.cell 6
      have q7 : w5.cell? ⟨B, 7, none⟩ = some (.slice P.xi D.ni P.zi) := k5.cell 7
      have q8 : w5.cell? ⟨B, 8, none⟩ = some (.slice P.xs D.ns P.zs) := k5.cell 8
      have q9 : w5.cell? ⟨B, 9, none⟩ = some (.slice P.xk D.nk P.zk) := k5.cell 9
      have q10 : w5.cell? ⟨B, 10, none⟩ = some (.slice P.xp D.np P.zp) := k5.cell 10
      go_wp2_with fail
      refine (HAS.out _ X5).mono ?_; rintro e w6 ⟨rfl, x6⟩
      have u0 := x6.at u0
      have u1 := x6.at u1
      go_wp2_with fail
      go_ret
      exact ⟨rfl, W0.trans (X5.trans x6)⟩
    | false =>
      have e1 : setR D [n] = ([], 80) := by
        rw [setR, hL, show setB D [n] = false by simp [setB, hO]]; rfl
      rw [HR.out] at e1
      cases e1
      clear hL HR s3
      go_wp2_with fail
      refine (CK.out _ X4).mono ?_; rintro e w5 ⟨rfl, x5⟩
      have X5 := X4.trans x5
      have k5 := k4.ext x5
      clear q0 q1 q2 q3 q4 q5 q6 q7 q8 q9 q10 k4 x5 X4 CK
      have q0 : w5.cell? ⟨B, 0, none⟩ = some (.int .i64 D.sum) := k5.cell 0
      have q1 : w5.cell? ⟨B, 1, none⟩ = some (.int .i64 D.design) := k5.cell 1
      have q2 : w5.cell? ⟨B, 2, none⟩ = some (.int .i64 D.first) := k5.cell 2
      have q3 : w5.cell? ⟨B, 3, none⟩ = some (.slice P.xc D.nc P.zc) := k5.cell 3
      have q4 : w5.cell? ⟨B, 4, none⟩ = some (.slice P.xw D.nw P.zw) := k5.cell 4
      have q5 : w5.cell? ⟨B, 5, none⟩ = some (.slice P.xh D.nh P.zh) := k5.cell 5
      have q6 : w5.cell? ⟨B, 6, none⟩ = some (.slice P.xd D.nd P.zd) := k5.cell 6
      have q7 : w5.cell? ⟨B, 7, none⟩ = some (.slice P.xi D.ni P.zi) := k5.cell 7
      have q8 : w5.cell? ⟨B, 8, none⟩ = some (.slice P.xs D.ns P.zs) := k5.cell 8
      have q9 : w5.cell? ⟨B, 9, none⟩ = some (.slice P.xk D.nk P.zk) := k5.cell 9
      have q10 : w5.cell? ⟨B, 10, none⟩ = some (.slice P.xp D.np P.zp) := k5.cell 10
      by_cases o1 : 33 ≤ n
      · by_cases o2 : n ≤ 126
        · have o3 : hasB D n = false := by
            cases h : hasB D n with
            | false => rfl
            | true => simp [oneB, o1, o2, h] at hO
          rw [o3] at HAS
          clear hO o3
          go_wp2_with fail
          refine (HAS.out _ X5).mono ?_; rintro e w6 ⟨rfl, x6⟩
          go_wp2_with fail
          go_ret
          exact ⟨rfl, W0.trans (X5.trans x6)⟩
        · have o2' : 126 < n := by omega
          clear hO
          go_wp2_with fail
          go_ret
          exact ⟨rfl, W0.trans X5⟩
      · have o1' : n < 33 := by omega
        clear hO
        go_wp2_with fail
        go_ret
        exact ⟨rfl, W0.trans X5⟩

set_option maxRecDepth 100000 in
theorem lifted (os : Os) (started : os.Started) (H : Type) (enc : TypeId × Value → H) :
    ReturnsInHanded {} Try.checked os 7 .any (Rows.ligOneSpec.pre6 enc Try.prog Try.f7 [] false) (Rows.ligOneSpec.post enc Try.prog Try.f7 false true false false) := by
  refine law_lift (C := Try.checked) own started (by kernel_rfl) Try.func7 laidOut rfl rfl Try.underlying4 (by kernel_rfl) ?_
    (ChangeSpec.witness6 (enc := enc) (C := Try.checked) false ⟨#[], #[.agg #[.int .i64 0, .int .i64 0, .int .i64 0, .slice none 0 0, .slice none 0 0, .slice none 0 0, .slice none 0 0, .slice none 0 0, .slice none 0 0, .slice none 0 0, .slice none 0 0], .int .i64 0], []⟩ 8 (by kernel_rfl) (by kernel_rfl) (by kernel_rfl) (by kernel_rfl)) ?_
  · intro H ds h
    match ds, h with
    | [_, _], _ => rfl
  · intro W base args ds p hval hA hlt hwt hsh
    rw [Try.params7] at hA hval
    obtain ⟨v0, vs0, d0, ds0, p0, q0, hargs, rfl, rfl, h0, r0⟩ := trodAll_cons hA
    obtain ⟨v1, vs1, d1, ds1, p1, q1, rfl, rfl, rfl, h1, r1⟩ := trodAll_cons r0
    obtain ⟨rfl, rfl, rfl⟩ := trodAll_nil r1
    obtain rfl : args = #[v0, v1] := by cases args; simp_all
    obtain ⟨D0, P0, rfl, ok0, hs0⟩ := arg_font (hval 0 26 v0 rfl rfl) h0
    obtain ⟨a1, rfl, rfl, rfl, wf1⟩ := open_int Try.underlying3 (hval 1 3 v1 rfl rfl) h1
    exact walk D0 P0 ok0 a1 (bounds_i64 wf1) W hs0

theorem holds : Rows.LigOneSaid :=
  OpenClaim.holds_of_wide 7 Try.f7 rfl rfl rfl rfl rfl rfl rfl ⟨rfl, rfl, rfl, rfl, rfl⟩ rfl rfl rfl rfl rfl (by kernel_rfl) Try.func7 (by kernel_rfl)
    (of_decide_eq_true (by kernel_rfl)) (by unfold Func.isWrapper; first | (rw [if_pos (by decide +kernel)]; kernel_rfl) | (rw [if_neg (by decide +kernel)]; exact ⟨rfl, rfl⟩))
    (fun os started H enc _ => lifted os started H enc)
end LigOne
end Go.Proofs.Ytmbkgjmnaembaaa

