/- The document's: whether codes may be set. -/
import Derived.Test.YtijhabhnhglhgaaRRule08
namespace Go.Proofs.Ytijhabhnhglhgaa
open Go.RowKit Go.Lib
namespace L08
open L07

set_option maxRecDepth 100000 in
set_option maxHeartbeats 8000000 in
theorem rchars_any (D : FontD) (P : FontP) (A : Option Addr) (l : List Int) (cp : Nat) (w : World) (ok : FontOk D P) (sn : SeenFont w D P) (hl : SeenF w A l.length (fun j => l.getD j 0)) (hb : ∀ j, -9223372036854775808 ≤ l.getD j 0 ∧ l.getD j 0 ≤ 9223372036854775807) (hn : l.length ≤ 1000000) :
    Calls Try.prog 31 #[fontV D P, .slice A l.length cp] w (Ret w (.bool (setB D l))) := by
  have W0 : Ext w (w.alloc (.cells #[.int .i64 D.sum, .int .i64 D.design, .int .i64 D.first, .slice P.xc D.nc P.zc, .slice P.xw D.nw P.zw, .slice P.xh D.nh P.zh, .slice P.xd D.nd P.zd, .slice P.xi D.ni P.zi, .slice P.xs D.ns P.zs, .slice P.xk D.nk P.zk, .slice P.xp D.np P.zp] 28)) := (Ext.refl _).alloc _
  have kF : Blk (w.alloc (.cells #[.int .i64 D.sum, .int .i64 D.design, .int .i64 D.first, .slice P.xc D.nc P.zc, .slice P.xw D.nw P.zw, .slice P.xh D.nh P.zh, .slice P.xd D.nd P.zd, .slice P.xi D.ni P.zi, .slice P.xs D.ns P.zs, .slice P.xk D.nk P.zk, .slice P.xp D.np P.zp] 28)) w.heap.size 28 [.int .i64 D.sum, .int .i64 D.design, .int .i64 D.first, .slice P.xc D.nc P.zc, .slice P.xw D.nw P.zw, .slice P.xh D.nh P.zh, .slice P.xd D.nd P.zd, .slice P.xi D.ni P.zi, .slice P.xs D.ns P.zs, .slice P.xk D.nk P.zk, .slice P.xp D.np P.zp] := Blk.lit _ _ _ _ rfl
  have HAS := Lib.hid (fun (n : Int) w' (x : Ext (w.alloc (.cells #[.int .i64 D.sum, .int .i64 D.design, .int .i64 D.first, .slice P.xc D.nc P.zc, .slice P.xw D.nw P.zw, .slice P.xh D.nh P.zh, .slice P.xd D.nd P.zd, .slice P.xi D.ni P.zi, .slice P.xs D.ns P.zs, .slice P.xk D.nk P.zk, .slice P.xp D.np P.zp] 28)) w') (hn : -9223372036854775808 ≤ n ∧ n ≤ 9223372036854775807) => show Calls Try.prog 39 #[.agg #[.int .i64 D.sum, .int .i64 D.design, .int .i64 D.first, .slice P.xc D.nc P.zc, .slice P.xw D.nw P.zw, .slice P.xh D.nh P.zh, .slice P.xd D.nd P.zd, .slice P.xi D.ni P.zi, .slice P.xs D.ns P.zs, .slice P.xk D.nk P.zk, .slice P.xp D.np P.zp], .int .i64 n] w' (Ret w' (.bool (hasB D n))) from rhas_any D P n w' ok (sn.ext (W0.trans x)) hn)
  have HL := Lib.hid (fun w' (x : Ext (w.alloc (.cells #[.int .i64 D.sum, .int .i64 D.design, .int .i64 D.first, .slice P.xc D.nc P.zc, .slice P.xw D.nw P.zw, .slice P.xh D.nh P.zh, .slice P.xd D.nd P.zd, .slice P.xi D.ni P.zi, .slice P.xs D.ns P.zs, .slice P.xk D.nk P.zk, .slice P.xp D.np P.zp] 28)) w') => hl.ext (W0.trans x))
  have HB := Lib.hid hb
  obtain ⟨n, hnl⟩ : ∃ n, n = l.length := ⟨_, rfl⟩
  rw [← hnl] at HL hn ⊢
  have HN := Lib.hid hnl
  clear hnl ok sn hl hb
  unfold fontV
  go_enter Try.func31, Try.ntmps31
  go_wp2_with fail
  generalize (w.alloc (.cells #[.int .i64 D.sum, .int .i64 D.design, .int .i64 D.first, .slice P.xc D.nc P.zc, .slice P.xw D.nw P.zw, .slice P.xh D.nh P.zh, .slice P.xd D.nd P.zd, .slice P.xi D.ni P.zi, .slice P.xs D.ns P.zs, .slice P.xk D.nk P.zk, .slice P.xp D.np P.zp] 28)) = V at *
  generalize w.heap.size = B at *
  go_loopw [5] (fun i wr => ∃ (k : Nat), k ≤ n ∧ i = .int .i64 k ∧ Hid (setB D (l.take k) = true) ∧ Ext V wr) (fun i _ => n - (intOf i).toNat)
  case atStart => exact ⟨0, by omega, rfl, rfl, Ext.refl _⟩
  case round =>
    obtain ⟨k, hk, rfl, hset, X⟩ := hrel
    have HX := Lib.hid X
    by_cases hlt : k < n
    · have hltl : k < l.length := by rw [← HN.out]; exact hlt
      obtain ⟨ad, rfl, hc⟩ := (HL.out _ X).get hlt
      have k1 := kF.ext X
      have q0 : wr.cell? ⟨B, 0, none⟩ = some (.int .i64 D.sum) := k1.cell 0
      have q1 : wr.cell? ⟨B, 1, none⟩ = some (.int .i64 D.design) := k1.cell 1
      have q2 : wr.cell? ⟨B, 2, none⟩ = some (.int .i64 D.first) := k1.cell 2
      have q3 : wr.cell? ⟨B, 3, none⟩ = some (.slice P.xc D.nc P.zc) := k1.cell 3
      have q4 : wr.cell? ⟨B, 4, none⟩ = some (.slice P.xw D.nw P.zw) := k1.cell 4
      have q5 : wr.cell? ⟨B, 5, none⟩ = some (.slice P.xh D.nh P.zh) := k1.cell 5
      have q6 : wr.cell? ⟨B, 6, none⟩ = some (.slice P.xd D.nd P.zd) := k1.cell 6
      have q7 : wr.cell? ⟨B, 7, none⟩ = some (.slice P.xi D.ni P.zi) := k1.cell 7
      have q8 : wr.cell? ⟨B, 8, none⟩ = some (.slice P.xs D.ns P.zs) := k1.cell 8
      have q9 : wr.cell? ⟨B, 9, none⟩ = some (.slice P.xk D.nk P.zk) := k1.cell 9
      have q10 : wr.cell? ⟨B, 10, none⟩ = some (.slice P.xp D.np P.zp) := k1.cell 10
      have lb := k1.lt
      have NO := Lib.hid (fun h : oneB D (l.getD k 0) = false => (setB_fails D hltl h).symm)
      have YES := Lib.hid (fun h : oneB D (l.getD k 0) = true => setB_take D hltl hset.out h)
      have hbk := HB.out k
      generalize l.getD k 0 = c at *
      have C1 : ∀ d os, Calls Try.prog 39 #[.agg #[.int .i64 D.sum, .int .i64 D.design, .int .i64 D.first, .slice P.xc D.nc P.zc, .slice P.xw D.nw P.zw, .slice P.xh D.nh P.zh, .slice P.xd D.nd P.zd, .slice P.xi D.ni P.zi, .slice P.xs D.ns P.zs, .slice P.xk D.nk P.zk, .slice P.xp D.np P.zp], .int .i64 c] (Sort.grow (redrawn wr d) os) (Ret (Sort.grow (redrawn wr d) os) (.bool (hasB D c))) := fun d os => HAS.out c _ (HX.out.trans (below_regrown _ _ _)) hbk
      have g0 := cell_regrown q0; have g1 := cell_regrown q1; have g2 := cell_regrown q2; have g3 := cell_regrown q3; have g4 := cell_regrown q4; have g5 := cell_regrown q5; have g6 := cell_regrown q6; have g7 := cell_regrown q7; have g8 := cell_regrown q8; have g9 := cell_regrown q9; have g10 := cell_regrown q10
      have gc := cell_regrown hc
      have hlt64 : (k : Int) < (n : Int) := by omega
      clear X
      go_wp2_with fail
      refine wp_region_quiet_below (by kernel_rfl) (by kernel_rfl) ?_
      repeat (go_big_quiet_step (with_reducible exact rg (C1 _ _)))
      refine wpQuiet_nil ?_
      intro _ hw'
      obtain ⟨⟨dq, osq⟩, hw''⟩ := hw'
      subst hw''
      have z : Ext wr (Sort.grow (redrawn wr dq) osq) := below_regrown _ _ _
      have hc2 := z.at hc
      clear C1 g0 g1 g2 g3 g4 g5 g6 g7 g8 g9 g10 gc q0 q1 q2 q3 q4 q5 q6 q7 q8 q9 q10 k1 hc lb
      generalize Sort.grow (redrawn wr dq) osq = w2 at *
      have X2 := Lib.hid (HX.out.trans z)
      cases hh : hasB D c with
      | false =>
        have H := Lib.hid (NO.out (by simp [oneB, hh]))
        clear hh z
        go_wp2_with fail
        go_ret
        exact ⟨ret_bool H.out, W0.trans X2.out⟩
      | true =>
        by_cases h1 : c < 33
        · have H := Lib.hid (NO.out (by simp [oneB]; omega))
          clear hh z
          go_wp2_with fail
          go_ret
          exact ⟨ret_bool H.out, W0.trans X2.out⟩
        · by_cases h2 : 126 < c
          · have H := Lib.hid (NO.out (by simp [oneB]; omega))
            clear hh z
            go_wp2_with fail
            go_ret
            exact ⟨ret_bool H.out, W0.trans X2.out⟩
          · have HY := Lib.hid (YES.out (by simp [oneB, hh]; omega))
            clear hh z
            go_wp2_with fail
            go_roundw
            case rel => exact ⟨k + 1, by omega, by go_num, HY, X2.out⟩
            case measure => simp [intOf]; omega
    · obtain rfl : k = n := by omega
      have H := Lib.hid (show true = setB D l by have := hset.out; rw [HN.out, List.take_length] at this; exact this.symm)
      clear X
      go_wp2_with fail
      go_ret
      exact ⟨ret_bool H.out, W0.trans HX.out⟩
end L08
end Go.Proofs.Ytijhabhnhglhgaa

