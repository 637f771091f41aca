/- TfmWrites: whether any font may be, its bytes, and whether it has any character, are what the document says, or its error (at most three hundred of each): for every input. -/
import Derived.Test.YtlbliidgmkipbaaAwake07
import Derived.Test.YtlbliidgmkipbaaRefWriteB07
import Derived.Lib.QuietBelow
import Derived.OpenShut
namespace Go.Proofs.Ytlbliidgmkipbaa
namespace TfmWrites
open Go.RowKit Go.Lib in
/-- A call within a region that draws its order. -/
theorem rg {f : FuncId} {args : Array Value} {w : World} {d : Nat} {os : Array Obj} {v : Value} (h : Calls Try.prog f args (Sort.grow (redrawn w d) os) (Ret (Sort.grow (redrawn w d) os) v)) :
    Calls Try.prog f args (Sort.grow (redrawn w d) os) fun e w'' => e = .returned v ∧ ∃ p : Regrown, w'' = Sort.grow (redrawn w p.d) p.os := Calls.regrown_of h
open Go.ChangeShapes Go.WideShapes Go.ChangeAt Go.RowKit Go.Deep
open L06 L07

set_option maxRecDepth 100000 in
set_option maxHeartbeats 16000000 in
theorem walk (D : FontD) (P : FontP) (ok : FontOk D P) (n : Int) (hn : -9223372036854775808 ≤ n ∧ n ≤ 9223372036854775807) (w : World) (sn : SeenFont w D P) :
    Calls Try.prog 3 #[fontV D P, .int .i64 n] w (Ret w (.bool true)) := by
  have W0 : Ext w (w.alloc (.cells #[.int .i64 D.sum, .int .i64 D.design, .int .i64 D.first, .slice P.xc D.nc P.zc, .slice P.xw D.nw P.zw, .slice P.xh D.nh P.zh, .slice P.xd D.nd P.zd, .slice P.xi D.ni P.zi, .slice P.xs D.ns P.zs, .slice P.xk D.nk P.zk, .slice P.xp D.np P.zp] 26)) := (Ext.refl _).alloc _
  have SN := Lib.hid (fun w' (x : Ext (w.alloc (.cells #[.int .i64 D.sum, .int .i64 D.design, .int .i64 D.first, .slice P.xc D.nc P.zc, .slice P.xw D.nw P.zw, .slice P.xh D.nh P.zh, .slice P.xd D.nd P.zd, .slice P.xi D.ni P.zi, .slice P.xs D.ns P.zs, .slice P.xk D.nk P.zk, .slice P.xp D.np P.zp] 26)) w') => (sn.ext W0).ext x)
  have OK := Lib.hid ok
  have HN := Lib.hid hn
  have kF : Blk (w.alloc (.cells #[.int .i64 D.sum, .int .i64 D.design, .int .i64 D.first, .slice P.xc D.nc P.zc, .slice P.xw D.nw P.zw, .slice P.xh D.nh P.zh, .slice P.xd D.nd P.zd, .slice P.xi D.ni P.zi, .slice P.xs D.ns P.zs, .slice P.xk D.nk P.zk, .slice P.xp D.np P.zp] 26)) w.heap.size 26 [.int .i64 D.sum, .int .i64 D.design, .int .i64 D.first, .slice P.xc D.nc P.zc, .slice P.xw D.nw P.zw, .slice P.xh D.nh P.zh, .slice P.xd D.nd P.zd, .slice P.xi D.ni P.zi, .slice P.xs D.ns P.zs, .slice P.xk D.nk P.zk, .slice P.xp D.np P.zp] := Blk.lit _ _ _ _ rfl
  have FEW := few_any D P
  have FEW := Lib.hid FEW
  obtain ⟨n0, n1⟩ := hn
  obtain ⟨hv, hhv⟩ : ∃ hv, hasB D n = hv := ⟨_, rfl⟩
  have HV := Lib.hid hhv
  clear ok sn hhv
  unfold fontV at *
  go_enter Try.func3, Try.ntmps3
  go_wp2_with fail
  generalize (w.alloc (.cells #[.int .i64 D.sum, .int .i64 D.design, .int .i64 D.first, .slice P.xc D.nc P.zc, .slice P.xw D.nw P.zw, .slice P.xh D.nh P.zh, .slice P.xd D.nd P.zd, .slice P.xi D.ni P.zi, .slice P.xs D.ns P.zs, .slice P.xk D.nk P.zk, .slice P.xp D.np P.zp] 26)) = V at *
  generalize w.heap.size = B at *
  refine (awake_any _).mono ?_; rintro e w1 ⟨rfl, x1⟩
  have k1 := kF.ext x1
  have q0 : w1.cell? ⟨B, 0, none⟩ = some (.int .i64 D.sum) := k1.cell 0
  have q1 : w1.cell? ⟨B, 1, none⟩ = some (.int .i64 D.design) := k1.cell 1
  have q2 : w1.cell? ⟨B, 2, none⟩ = some (.int .i64 D.first) := k1.cell 2
  have q3 : w1.cell? ⟨B, 3, none⟩ = some (.slice P.xc D.nc P.zc) := k1.cell 3
  have q4 : w1.cell? ⟨B, 4, none⟩ = some (.slice P.xw D.nw P.zw) := k1.cell 4
  have q5 : w1.cell? ⟨B, 5, none⟩ = some (.slice P.xh D.nh P.zh) := k1.cell 5
  have q6 : w1.cell? ⟨B, 6, none⟩ = some (.slice P.xd D.nd P.zd) := k1.cell 6
  have q7 : w1.cell? ⟨B, 7, none⟩ = some (.slice P.xi D.ni P.zi) := k1.cell 7
  have q8 : w1.cell? ⟨B, 8, none⟩ = some (.slice P.xs D.ns P.zs) := k1.cell 8
  have q9 : w1.cell? ⟨B, 9, none⟩ = some (.slice P.xk D.nk P.zk) := k1.cell 9
  have q10 : w1.cell? ⟨B, 10, none⟩ = some (.slice P.xp D.np P.zp) := k1.cell 10
  go_wp2_with fail
  refine (FEW.out w1).mono ?_; rintro e w2 ⟨rfl, x2⟩
  have k2 := k1.ext x2
  have X2 := x1.trans x2
  have q0 : w2.cell? ⟨B, 0, none⟩ = some (.int .i64 D.sum) := k2.cell 0
  have q1 : w2.cell? ⟨B, 1, none⟩ = some (.int .i64 D.design) := k2.cell 1
  have q2 : w2.cell? ⟨B, 2, none⟩ = some (.int .i64 D.first) := k2.cell 2
  have q3 : w2.cell? ⟨B, 3, none⟩ = some (.slice P.xc D.nc P.zc) := k2.cell 3
  have q4 : w2.cell? ⟨B, 4, none⟩ = some (.slice P.xw D.nw P.zw) := k2.cell 4
  have q5 : w2.cell? ⟨B, 5, none⟩ = some (.slice P.xh D.nh P.zh) := k2.cell 5
  have q6 : w2.cell? ⟨B, 6, none⟩ = some (.slice P.xd D.nd P.zd) := k2.cell 6
  have q7 : w2.cell? ⟨B, 7, none⟩ = some (.slice P.xi D.ni P.zi) := k2.cell 7
  have q8 : w2.cell? ⟨B, 8, none⟩ = some (.slice P.xs D.ns P.zs) := k2.cell 8
  have q9 : w2.cell? ⟨B, 9, none⟩ = some (.slice P.xk D.nk P.zk) := k2.cell 9
  have q10 : w2.cell? ⟨B, 10, none⟩ = some (.slice P.xp D.np P.zp) := k2.cell 10
  clear FEW kF k1 x1 x2
  cases hfew : fewB D with
  | false =>
    clear hfew
    go_wp2_with fail
    go_ret
    exact ⟨rfl, W0.trans X2⟩
  | true =>
  clear hfew
  go_wp2_with fail
  cases hck : checkB D with
  | false =>
    refine (twrite_no D P _ OK.out (SN.out _ X2) hck).mono ?_; rintro e w3 ⟨rfl, x3⟩
    have k3 := k2.ext x3
    have X3 := X2.trans x3
    have q0 : w3.cell? ⟨B, 0, none⟩ = some (.int .i64 D.sum) := k3.cell 0
    have q1 : w3.cell? ⟨B, 1, none⟩ = some (.int .i64 D.design) := k3.cell 1
    have q2 : w3.cell? ⟨B, 2, none⟩ = some (.int .i64 D.first) := k3.cell 2
    have q3 : w3.cell? ⟨B, 3, none⟩ = some (.slice P.xc D.nc P.zc) := k3.cell 3
    have q4 : w3.cell? ⟨B, 4, none⟩ = some (.slice P.xw D.nw P.zw) := k3.cell 4
    have q5 : w3.cell? ⟨B, 5, none⟩ = some (.slice P.xh D.nh P.zh) := k3.cell 5
    have q6 : w3.cell? ⟨B, 6, none⟩ = some (.slice P.xd D.nd P.zd) := k3.cell 6
    have q7 : w3.cell? ⟨B, 7, none⟩ = some (.slice P.xi D.ni P.zi) := k3.cell 7
    have q8 : w3.cell? ⟨B, 8, none⟩ = some (.slice P.xs D.ns P.zs) := k3.cell 8
    have q9 : w3.cell? ⟨B, 9, none⟩ = some (.slice P.xk D.nk P.zk) := k3.cell 9
    have q10 : w3.cell? ⟨B, 10, none⟩ = some (.slice P.xp D.np P.zp) := k3.cell 10
    clear k2 X2 x3
    go_wp2_with fail
    refine (rwrite_no D P _ OK.out (SN.out _ X3) hck).mono ?_; rintro e w4 ⟨rfl, x4⟩
    have k4 := k3.ext x4
    have X4 := X3.trans x4
    clear k3 X3 x4
    have s3 : SeenB w4 none [] := SeenB.nil
    have s4 : SeenB w4 none [] := SeenB.nil
    have C1 : ∀ d os, Calls Try.prog 13 #[.agg #[.int .i64 D.sum, .int .i64 D.design, .int .i64 D.first, .slice P.xc D.nc P.zc, .slice P.xw D.nw P.zw, .slice P.xh D.nh P.zh, .slice P.xd D.nd P.zd, .slice P.xi D.ni P.zi, .slice P.xs D.ns P.zs, .slice P.xk D.nk P.zk, .slice P.xp D.np P.zp]] (Sort.grow (redrawn w4 d) os) (Ret (Sort.grow (redrawn w4 d) os) (.bool false)) := fun d os => by
      have h := tcheck_any D P (Sort.grow (redrawn w4 d) os) OK.out (SN.out _ (X4.trans (below_regrown _ _ _)))
      rw [hck] at h
      exact h
    have C2 : ∀ d os, Calls Try.prog 14 #[.agg #[.int .i64 D.sum, .int .i64 D.design, .int .i64 D.first, .slice P.xc D.nc P.zc, .slice P.xw D.nw P.zw, .slice P.xh D.nh P.zh, .slice P.xd D.nd P.zd, .slice P.xi D.ni P.zi, .slice P.xs D.ns P.zs, .slice P.xk D.nk P.zk, .slice P.xp D.np P.zp]] (Sort.grow (redrawn w4 d) os) (Ret (Sort.grow (redrawn w4 d) os) (.bool false)) := fun d os => by
      have h := check_any D P (Sort.grow (redrawn w4 d) os) OK.out (SN.out _ (X4.trans (below_regrown _ _ _)))
      rw [hck] at h
      exact h
    have C3 : ∀ d os, Calls Try.prog 15 #[.agg #[.int .i64 D.sum, .int .i64 D.design, .int .i64 D.first, .slice P.xc D.nc P.zc, .slice P.xw D.nw P.zw, .slice P.xh D.nh P.zh, .slice P.xd D.nd P.zd, .slice P.xi D.ni P.zi, .slice P.xs D.ns P.zs, .slice P.xk D.nk P.zk, .slice P.xp D.np P.zp], .int .i64 n] (Sort.grow (redrawn w4 d) os) (Ret (Sort.grow (redrawn w4 d) os) (.bool hv)) := fun d os => by
      have h := thas_any D P n (Sort.grow (redrawn w4 d) os) OK.out (SN.out _ (X4.trans (below_regrown _ _ _))) HN.out
      rw [HV.out] at h
      exact h
    have C4 : ∀ d os, Calls Try.prog 16 #[.agg #[.int .i64 D.sum, .int .i64 D.design, .int .i64 D.first, .slice P.xc D.nc P.zc, .slice P.xw D.nw P.zw, .slice P.xh D.nh P.zh, .slice P.xd D.nd P.zd, .slice P.xi D.ni P.zi, .slice P.xs D.ns P.zs, .slice P.xk D.nk P.zk, .slice P.xp D.np P.zp], .int .i64 n] (Sort.grow (redrawn w4 d) os) (Ret (Sort.grow (redrawn w4 d) os) (.bool hv)) := fun d os => by
      have h := rhas_any D P n (Sort.grow (redrawn w4 d) os) OK.out (SN.out _ (X4.trans (below_regrown _ _ _))) HN.out
      rw [HV.out] at h
      exact h
    have T1 : ∀ d os, (convert 29 9 (.slice none 0 0)).run Try.prog (Sort.grow (redrawn w4 d) os) = .ok (.string ⟨([] : List UInt8).toArray⟩) (Sort.grow (redrawn w4 d) os) := fun d os => str_of SeenB.nil 0 0 rfl
    have T2 : ∀ d os, (convert 29 9 (.slice none 0 0)).run Try.prog (Sort.grow (redrawn w4 d) os) = .ok (.string ⟨([] : List UInt8).toArray⟩) (Sort.grow (redrawn w4 d) os) := fun d os => str_of SeenB.nil 0 0 rfl
    have q0 : w4.cell? ⟨B, 0, none⟩ = some (.int .i64 D.sum) := k4.cell 0
    have q1 : w4.cell? ⟨B, 1, none⟩ = some (.int .i64 D.design) := k4.cell 1
    have q2 : w4.cell? ⟨B, 2, none⟩ = some (.int .i64 D.first) := k4.cell 2
    have q3 : w4.cell? ⟨B, 3, none⟩ = some (.slice P.xc D.nc P.zc) := k4.cell 3
    have q4 : w4.cell? ⟨B, 4, none⟩ = some (.slice P.xw D.nw P.zw) := k4.cell 4
    have q5 : w4.cell? ⟨B, 5, none⟩ = some (.slice P.xh D.nh P.zh) := k4.cell 5
    have q6 : w4.cell? ⟨B, 6, none⟩ = some (.slice P.xd D.nd P.zd) := k4.cell 6
    have q7 : w4.cell? ⟨B, 7, none⟩ = some (.slice P.xi D.ni P.zi) := k4.cell 7
    have q8 : w4.cell? ⟨B, 8, none⟩ = some (.slice P.xs D.ns P.zs) := k4.cell 8
    have q9 : w4.cell? ⟨B, 9, none⟩ = some (.slice P.xk D.nk P.zk) := k4.cell 9
    have q10 : w4.cell? ⟨B, 10, none⟩ = some (.slice P.xp D.np P.zp) := k4.cell 10
    have g0 := cell_regrown q0
    have g1 := cell_regrown q1
    have g2 := cell_regrown q2
    have g3 := cell_regrown q3
    have g4 := cell_regrown q4
    have g5 := cell_regrown q5
    have g6 := cell_regrown q6
    have g7 := cell_regrown q7
    have g8 := cell_regrown q8
    have g9 := cell_regrown q9
    have g10 := cell_regrown q10
    clear s3 s4 k4
    go_wp2_with fail
    refine wp_region_quiet_below (by kernel_rfl) (by kernel_rfl) ?_
    repeat (go_big_quiet_step (first | (with_reducible exact rg (C1 _ _)) | (with_reducible exact rg (C2 _ _)) | (with_reducible exact rg (C3 _ _)) | (with_reducible exact rg (C4 _ _))))
    refine wpQuiet_nil ?_
    intro _ hw'
    obtain ⟨⟨dq, osq⟩, hw''⟩ := hw'
    subst hw''
    have z5 : Ext w4 (Sort.grow (redrawn w4 dq) osq) := below_regrown _ _ _
    clear C1 C2 C3 C4 T1 T2 g0 g1 g2 g3 g4 g5 g6 g7 g8 g9 g10 q0 q1 q2 q3 q4 q5 q6 q7 q8 q9 q10
    generalize Sort.grow (redrawn w4 dq) osq = w5 at *
    go_wp2_with fail
    go_ret
    exact ⟨rfl, W0.trans (X4.trans z5)⟩
  | true =>
    obtain ⟨L, hL⟩ : ∃ L, writeB D = L := ⟨_, rfl⟩
    obtain ⟨m, hm⟩ : ∃ m, m = L.length := ⟨_, rfl⟩
    have HM := Lib.hid hm
    have Y1 := twrite_yes D P _ OK.out (SN.out _ X2) hck
    rw [hL] at Y1
    refine Y1.mono ?_; rintro e w3 ⟨A3, c3, rfl, hc3, s3, x3⟩
    have k3 := k2.ext x3
    have X3 := X2.trans x3
    rw [← hm] at hc3 ⊢
    have S3 := Lib.hid s3
    have q0 : w3.cell? ⟨B, 0, none⟩ = some (.int .i64 D.sum) := k3.cell 0
    have q1 : w3.cell? ⟨B, 1, none⟩ = some (.int .i64 D.design) := k3.cell 1
    have q2 : w3.cell? ⟨B, 2, none⟩ = some (.int .i64 D.first) := k3.cell 2
    have q3 : w3.cell? ⟨B, 3, none⟩ = some (.slice P.xc D.nc P.zc) := k3.cell 3
    have q4 : w3.cell? ⟨B, 4, none⟩ = some (.slice P.xw D.nw P.zw) := k3.cell 4
    have q5 : w3.cell? ⟨B, 5, none⟩ = some (.slice P.xh D.nh P.zh) := k3.cell 5
    have q6 : w3.cell? ⟨B, 6, none⟩ = some (.slice P.xd D.nd P.zd) := k3.cell 6
    have q7 : w3.cell? ⟨B, 7, none⟩ = some (.slice P.xi D.ni P.zi) := k3.cell 7
    have q8 : w3.cell? ⟨B, 8, none⟩ = some (.slice P.xs D.ns P.zs) := k3.cell 8
    have q9 : w3.cell? ⟨B, 9, none⟩ = some (.slice P.xk D.nk P.zk) := k3.cell 9
    have q10 : w3.cell? ⟨B, 10, none⟩ = some (.slice P.xp D.np P.zp) := k3.cell 10
    clear k2 X2 x3 s3 hm Y1
    have Y2 := rwrite_yes D P _ OK.out (SN.out _ X3) hck
    rw [hL] at Y2
    have Y2 := Lib.hid Y2
    clear hL
    go_wp2_with fail
    refine Y2.out.mono ?_; rintro e w4 ⟨A4, c4, rfl, hc4, s4, x4⟩
    have k4 := k3.ext x4
    have X4 := X3.trans x4
    rw [← HM.out] at hc4 ⊢
    have s3 := S3.out.ext x4
    clear k3 X3 x4 Y2 S3
    have C1 : ∀ d os, Calls Try.prog 13 #[.agg #[.int .i64 D.sum, .int .i64 D.design, .int .i64 D.first, .slice P.xc D.nc P.zc, .slice P.xw D.nw P.zw, .slice P.xh D.nh P.zh, .slice P.xd D.nd P.zd, .slice P.xi D.ni P.zi, .slice P.xs D.ns P.zs, .slice P.xk D.nk P.zk, .slice P.xp D.np P.zp]] (Sort.grow (redrawn w4 d) os) (Ret (Sort.grow (redrawn w4 d) os) (.bool true)) := fun d os => by
      have h := tcheck_any D P (Sort.grow (redrawn w4 d) os) OK.out (SN.out _ (X4.trans (below_regrown _ _ _)))
      rw [hck] at h
      exact h
    have C2 : ∀ d os, Calls Try.prog 14 #[.agg #[.int .i64 D.sum, .int .i64 D.design, .int .i64 D.first, .slice P.xc D.nc P.zc, .slice P.xw D.nw P.zw, .slice P.xh D.nh P.zh, .slice P.xd D.nd P.zd, .slice P.xi D.ni P.zi, .slice P.xs D.ns P.zs, .slice P.xk D.nk P.zk, .slice P.xp D.np P.zp]] (Sort.grow (redrawn w4 d) os) (Ret (Sort.grow (redrawn w4 d) os) (.bool true)) := fun d os => by
      have h := check_any D P (Sort.grow (redrawn w4 d) os) OK.out (SN.out _ (X4.trans (below_regrown _ _ _)))
      rw [hck] at h
      exact h
    have C3 : ∀ d os, Calls Try.prog 15 #[.agg #[.int .i64 D.sum, .int .i64 D.design, .int .i64 D.first, .slice P.xc D.nc P.zc, .slice P.xw D.nw P.zw, .slice P.xh D.nh P.zh, .slice P.xd D.nd P.zd, .slice P.xi D.ni P.zi, .slice P.xs D.ns P.zs, .slice P.xk D.nk P.zk, .slice P.xp D.np P.zp], .int .i64 n] (Sort.grow (redrawn w4 d) os) (Ret (Sort.grow (redrawn w4 d) os) (.bool hv)) := fun d os => by
      have h := thas_any D P n (Sort.grow (redrawn w4 d) os) OK.out (SN.out _ (X4.trans (below_regrown _ _ _))) HN.out
      rw [HV.out] at h
      exact h
    have C4 : ∀ d os, Calls Try.prog 16 #[.agg #[.int .i64 D.sum, .int .i64 D.design, .int .i64 D.first, .slice P.xc D.nc P.zc, .slice P.xw D.nw P.zw, .slice P.xh D.nh P.zh, .slice P.xd D.nd P.zd, .slice P.xi D.ni P.zi, .slice P.xs D.ns P.zs, .slice P.xk D.nk P.zk, .slice P.xp D.np P.zp], .int .i64 n] (Sort.grow (redrawn w4 d) os) (Ret (Sort.grow (redrawn w4 d) os) (.bool hv)) := fun d os => by
      have h := rhas_any D P n (Sort.grow (redrawn w4 d) os) OK.out (SN.out _ (X4.trans (below_regrown _ _ _))) HN.out
      rw [HV.out] at h
      exact h
    have T1 : ∀ d os, (convert 29 9 (.slice A3 m c3)).run Try.prog (Sort.grow (redrawn w4 d) os) = .ok (.string ⟨L.toArray⟩) (Sort.grow (redrawn w4 d) os) := fun d os => str_of (s3.ext (below_regrown _ _ _)) c3 m HM.out
    have T2 : ∀ d os, (convert 29 9 (.slice A4 m c4)).run Try.prog (Sort.grow (redrawn w4 d) os) = .ok (.string ⟨L.toArray⟩) (Sort.grow (redrawn w4 d) os) := fun d os => str_of (s4.ext (below_regrown _ _ _)) c4 m HM.out
    have q0 : w4.cell? ⟨B, 0, none⟩ = some (.int .i64 D.sum) := k4.cell 0
    have q1 : w4.cell? ⟨B, 1, none⟩ = some (.int .i64 D.design) := k4.cell 1
    have q2 : w4.cell? ⟨B, 2, none⟩ = some (.int .i64 D.first) := k4.cell 2
    have q3 : w4.cell? ⟨B, 3, none⟩ = some (.slice P.xc D.nc P.zc) := k4.cell 3
    have q4 : w4.cell? ⟨B, 4, none⟩ = some (.slice P.xw D.nw P.zw) := k4.cell 4
    have q5 : w4.cell? ⟨B, 5, none⟩ = some (.slice P.xh D.nh P.zh) := k4.cell 5
    have q6 : w4.cell? ⟨B, 6, none⟩ = some (.slice P.xd D.nd P.zd) := k4.cell 6
    have q7 : w4.cell? ⟨B, 7, none⟩ = some (.slice P.xi D.ni P.zi) := k4.cell 7
    have q8 : w4.cell? ⟨B, 8, none⟩ = some (.slice P.xs D.ns P.zs) := k4.cell 8
    have q9 : w4.cell? ⟨B, 9, none⟩ = some (.slice P.xk D.nk P.zk) := k4.cell 9
    have q10 : w4.cell? ⟨B, 10, none⟩ = some (.slice P.xp D.np P.zp) := k4.cell 10
    have g0 := cell_regrown q0
    have g1 := cell_regrown q1
    have g2 := cell_regrown q2
    have g3 := cell_regrown q3
    have g4 := cell_regrown q4
    have g5 := cell_regrown q5
    have g6 := cell_regrown q6
    have g7 := cell_regrown q7
    have g8 := cell_regrown q8
    have g9 := cell_regrown q9
    have g10 := cell_regrown q10
    clear s3 s4 k4
    go_wp2_with fail
    refine wp_region_quiet_below (by kernel_rfl) (by kernel_rfl) ?_
    repeat (go_big_quiet_step (first | (with_reducible exact rg (C1 _ _)) | (with_reducible exact rg (C2 _ _)) | (with_reducible exact rg (C3 _ _)) | (with_reducible exact rg (C4 _ _))))
    refine wpQuiet_nil ?_
    intro _ hw'
    obtain ⟨⟨dq, osq⟩, hw''⟩ := hw'
    subst hw''
    have z5 : Ext w4 (Sort.grow (redrawn w4 dq) osq) := below_regrown _ _ _
    clear C1 C2 C3 C4 T1 T2 g0 g1 g2 g3 g4 g5 g6 g7 g8 g9 g10 q0 q1 q2 q3 q4 q5 q6 q7 q8 q9 q10
    generalize Sort.grow (redrawn w4 dq) osq = w5 at *
    go_wp2_with fail
    go_ret
    exact ⟨rfl, W0.trans (X4.trans z5)⟩

set_option maxRecDepth 100000 in
theorem lifted (os : Os) (started : os.Started) (H : Type) (enc : TypeId × Value → H) :
    ReturnsInHanded {} Try.checked os 3 .any (Rows.tfmWritesSpec.pre6 enc Try.prog Try.f3 [] false) (Rows.tfmWritesSpec.post enc Try.prog Try.f3 false true false false) := by
  refine law_lift (C := Try.checked) own started (by kernel_rfl) Try.func3 laidOut rfl rfl Try.underlying4 (by kernel_rfl) ?_
    (ChangeSpec.witness6 (enc := enc) (C := Try.checked) false ⟨#[], #[.agg #[.int .i64 0, .int .i64 0, .int .i64 0, .slice none 0 0, .slice none 0 0, .slice none 0 0, .slice none 0 0, .slice none 0 0, .slice none 0 0, .slice none 0 0, .slice none 0 0], .int .i64 0], []⟩ 8 (by kernel_rfl) (by kernel_rfl) (by kernel_rfl) (by kernel_rfl)) ?_
  · intro H ds h
    match ds, h with
    | [_, _], _ => rfl
  · intro W base args ds p hval hA hlt hwt hsh
    rw [Try.params3] at hA hval
    obtain ⟨v0, vs0, d0, ds0, p0, q0, hargs, rfl, rfl, h0, r0⟩ := trodAll_cons hA
    obtain ⟨v1, vs1, d1, ds1, p1, q1, rfl, rfl, rfl, h1, r1⟩ := trodAll_cons r0
    obtain ⟨rfl, rfl, rfl⟩ := trodAll_nil r1
    obtain rfl : args = #[v0, v1] := by cases args; simp_all
    obtain ⟨D0, P0, rfl, ok0, hs0⟩ := arg_font (hval 0 26 v0 rfl rfl) h0
    obtain ⟨a1, rfl, rfl, rfl, wf1⟩ := open_int Try.underlying3 (hval 1 3 v1 rfl rfl) h1
    exact walk D0 P0 ok0 a1 (bounds_i64 wf1) W hs0

theorem holds : Rows.TfmWritesSaid :=
  OpenClaim.holds_of_wide 3 Try.f3 rfl rfl rfl rfl rfl rfl rfl ⟨rfl, rfl, rfl, rfl, rfl⟩ rfl rfl rfl rfl rfl (by kernel_rfl) Try.func3 (by kernel_rfl)
    (of_decide_eq_true (by kernel_rfl)) (by unfold Func.isWrapper; first | (rw [if_pos (by decide +kernel)]; kernel_rfl) | (rw [if_neg (by decide +kernel)]; exact ⟨rfl, rfl⟩))
    (fun os started H enc _ => lifted os started H enc)
end TfmWrites
end Go.Proofs.Ytlbliidgmkipbaa

