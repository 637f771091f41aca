/- What a font's program makes, and whether it may be: the landed makings, and Check. -/
import Derived.Test.YtijhabhnhglhgaaLearn08
namespace Go.Proofs.Ytijhabhnhglhgaa
open Go.RowKit Go.Lib
namespace L08
open L07

/-- What makings answers. -/
def MakeQ (D : FontD) (w : World) (e : Ending) (w' : World) : Prop :=
  Ext w w' ∧ ((∃ m bm n, makeD D = some m ∧ e = .returned (.tuple #[.map (some bm), .bool true]) ∧ MapF w' bm n m) ∨ (makeD D = none ∧ e = .returned (.tuple #[.map none, .bool false])))

theorem makeL_fails {D : FontD} {k n : Nat} (h : makeL D k = none) (hn : k ≤ n) : makeL D n = none := by
  induction n with
  | zero => obtain rfl : k = 0 := by omega
            exact h
  | succ n ih =>
    by_cases e : k = n + 1
    · subst e; exact h
    · rw [makeL, ih (by omega)]; rfl

set_option maxRecDepth 100000 in
set_option maxHeartbeats 8000000 in
theorem makings_any (D : FontD) (P : FontP) (w : World) (ok : FontOk D P) (sn : SeenFont w D P) : Calls Try.prog 33 #[fontV D P] w (MakeQ D w) := by
  have W0 : Ext w (w.alloc (.cells #[.int .i64 D.sum, .int .i64 D.design, .int .i64 D.first, .slice P.xc D.nc P.zc, .slice P.xw D.nw P.zw, .slice P.xh D.nh P.zh, .slice P.xd D.nd P.zd, .slice P.xi D.ni P.zi, .slice P.xs D.ns P.zs, .slice P.xk D.nk P.zk, .slice P.xp D.np P.zp] 28)) := (Ext.refl _).alloc _
  have T := Lib.hid (tcheck_any D P _ ok (sn.ext W0))
  have kF : Blk (w.alloc (.cells #[.int .i64 D.sum, .int .i64 D.design, .int .i64 D.first, .slice P.xc D.nc P.zc, .slice P.xw D.nw P.zw, .slice P.xh D.nh P.zh, .slice P.xd D.nd P.zd, .slice P.xi D.ni P.zi, .slice P.xs D.ns P.zs, .slice P.xk D.nk P.zk, .slice P.xp D.np P.zp] 28)) w.heap.size 28 [.int .i64 D.sum, .int .i64 D.design, .int .i64 D.first, .slice P.xc D.nc P.zc, .slice P.xw D.nw P.zw, .slice P.xh D.nh P.zh, .slice P.xd D.nd P.zd, .slice P.xi D.ni P.zi, .slice P.xs D.ns P.zs, .slice P.xk D.nk P.zk, .slice P.xp D.np P.zp] := Blk.lit _ _ _ _ rfl
  have hmm := @run_makeMap Try.prog
  cases h : checkB D with
  | false =>
    have NO := Lib.hid (show makeD D = none by rw [makeD, h]; rfl)
    rw [h] at T
    clear ok sn h
    unfold fontV at *
    go_enter Try.func33, Try.ntmps33
    go_wp2_with fail
    refine T.out.mono ?_; rintro e w1 ⟨rfl, x1⟩
    go_wp2_with fail
    go_ret2
    exact ⟨W0.trans x1, .inr ⟨NO.out, rfl⟩⟩
  | true =>
    have I := Lib.hid (check_in h)
    have hnc := (check_in h).nc
    obtain ⟨hf0, hf1⟩ := (check_in h).first
    have HD := Lib.hid h
    have HMK := Lib.hid (show makeD D = makeL D D.nc by rw [makeD, h]; rfl)
    rw [h] at T
    have OK := Lib.hid ok
    clear ok h
    unfold fontV at *
    go_enter Try.func33, Try.ntmps33
    go_wp2_with fail
    refine T.out.mono ?_; rintro e w1 ⟨rfl, x1⟩
    have kF := kF.ext x1
    have q0 : w1.cell? ⟨w.heap.size, 0, none⟩ = some (.int .i64 D.sum) := kF.cell 0
    have q1 : w1.cell? ⟨w.heap.size, 1, none⟩ = some (.int .i64 D.design) := kF.cell 1
    have q2 : w1.cell? ⟨w.heap.size, 2, none⟩ = some (.int .i64 D.first) := kF.cell 2
    have q3 : w1.cell? ⟨w.heap.size, 3, none⟩ = some (.slice P.xc D.nc P.zc) := kF.cell 3
    have q4 : w1.cell? ⟨w.heap.size, 4, none⟩ = some (.slice P.xw D.nw P.zw) := kF.cell 4
    have q5 : w1.cell? ⟨w.heap.size, 5, none⟩ = some (.slice P.xh D.nh P.zh) := kF.cell 5
    have q6 : w1.cell? ⟨w.heap.size, 6, none⟩ = some (.slice P.xd D.nd P.zd) := kF.cell 6
    have q7 : w1.cell? ⟨w.heap.size, 7, none⟩ = some (.slice P.xi D.ni P.zi) := kF.cell 7
    have q8 : w1.cell? ⟨w.heap.size, 8, none⟩ = some (.slice P.xs D.ns P.zs) := kF.cell 8
    have q9 : w1.cell? ⟨w.heap.size, 9, none⟩ = some (.slice P.xk D.nk P.zk) := kF.cell 9
    have q10 : w1.cell? ⟨w.heap.size, 10, none⟩ = some (.slice P.xp D.np P.zp) := kF.cell 10
    have hlt := kF.lt
    go_wp2_with fail
    obtain ⟨V, hV⟩ : ∃ V, V = w1.alloc (.map #[] 0) := ⟨_, rfl⟩
    rw [← hV]
    have xV : Ext w1 V := by rw [hV]; exact (Ext.refl _).alloc _
    have hM : MapF V w1.heap.size 0 (fun _ => none) := by rw [hV]; exact MapF.made w1
    have hzV : V.heap.size = w1.heap.size + 1 := by rw [hV]; simp
    clear hV
    have kF := kF.ext xV
    have XV := (W0.trans x1).trans xV
    have SN := sn.ext XV
    clear q0 q1 q2 q3 q4 q5 q6 q7 q8 q9 q10 T hmm
    have hwbm : w.heap.size ≤ w1.heap.size := (W0.trans x1).size
    generalize w1.heap.size = bm at *
    generalize hb0 : w.heap.size = b0 at *
    have hwbm : w.heap.size ≤ bm := by omega
    clear hb0
    have hle : (D.nc : Int) ≤ 256 := by omega
    go_loopw [14] (fun i wr => ∃ (k n : Nat) (m : MapN), k ≤ D.nc ∧ i = .int .i64 k ∧ Hid (makeL D k = some m) ∧ MapF wr bm n m ∧ n ≤ k * 300 ∧ Chg NoT bm V wr) (fun i _ => D.nc - (intOf i).toNat)
    case atStart => exact ⟨0, 0, _, by omega, rfl, rfl, hM, by omega, Chg.refl _ _ _⟩
    case round =>
      obtain ⟨k, n, m, hk, rfl, hmk, hm, hn, X⟩ := hrel
      by_cases hlt : k < D.nc
      · obtain ⟨ad, hA, e0, e1, e2, e3, e4, e5⟩ := row6 (seenFont_chg SN X).oc hlt
        have kF : Blk wr b0 28 [.int .i64 D.sum, .int .i64 D.design, .int .i64 D.first, .slice P.xc D.nc P.zc, .slice P.xw D.nw P.zw, .slice P.xh D.nh P.zh, .slice P.xd D.nd P.zd, .slice P.xi D.ni P.zi, .slice P.xs D.ns P.zs, .slice P.xk D.nk P.zk, .slice P.xp D.np P.zp] := X.blk b0 _ _ _ (fun _ h => h) kF
        have q0 : wr.cell? ⟨b0, 0, none⟩ = some (.int .i64 D.sum) := kF.cell 0
        have q1 : wr.cell? ⟨b0, 1, none⟩ = some (.int .i64 D.design) := kF.cell 1
        have q2 : wr.cell? ⟨b0, 2, none⟩ = some (.int .i64 D.first) := kF.cell 2
        have q3 : wr.cell? ⟨b0, 3, none⟩ = some (.slice P.xc D.nc P.zc) := kF.cell 3
        have q4 : wr.cell? ⟨b0, 4, none⟩ = some (.slice P.xw D.nw P.zw) := kF.cell 4
        have q5 : wr.cell? ⟨b0, 5, none⟩ = some (.slice P.xh D.nh P.zh) := kF.cell 5
        have q6 : wr.cell? ⟨b0, 6, none⟩ = some (.slice P.xd D.nd P.zd) := kF.cell 6
        have q7 : wr.cell? ⟨b0, 7, none⟩ = some (.slice P.xi D.ni P.zi) := kF.cell 7
        have q8 : wr.cell? ⟨b0, 8, none⟩ = some (.slice P.xs D.ns P.zs) := kF.cell 8
        have q9 : wr.cell? ⟨b0, 9, none⟩ = some (.slice P.xk D.nk P.zk) := kF.cell 9
        have q10 : wr.cell? ⟨b0, 10, none⟩ = some (.slice P.xp D.np P.zp) := kF.cell 10
        have hbr := kF.lt
        have y : Ext wr (wr.alloc (.cells #[.int .i64 (D.chr k 0), .int .i64 (D.chr k 1), .int .i64 (D.chr k 2), .int .i64 (D.chr k 3), .int .i64 (D.chr k 4), .int .i64 (D.chr k 5)] 44)) := (Ext.refl _).alloc _
        have L := Lib.hid (show Calls Try.prog 60 #[.agg #[.int .i64 D.sum, .int .i64 D.design, .int .i64 D.first, .slice P.xc D.nc P.zc, .slice P.xw D.nw P.zw, .slice P.xh D.nh P.zh, .slice P.xd D.nd P.zd, .slice P.xi D.ni P.zi, .slice P.xs D.ns P.zs, .slice P.xk D.nk P.zk, .slice P.xp D.np P.zp], .int .i64 (D.first + k), .agg #[.int .i64 (D.chr k 0), .int .i64 (D.chr k 1), .int .i64 (D.chr k 2), .int .i64 (D.chr k 3), .int .i64 (D.chr k 4), .int .i64 (D.chr k 5)], .map (some bm)] _ (LearnQ D (D.first + k) (seqC D k) m bm n _) from
          learn_any D P (D.first + k) k bm n m _ OK.out (seenFont_chg SN (X.trans (Chg.of_ext y))) HD.out hlt ⟨by omega, by omega⟩ (hm.ext y) (by omega))
        have HX := Lib.hid (X.trans (Chg.of_ext y))
        have hk64 : (k : Int) < (D.nc : Int) := by omega
        have HA := Lib.hid hA
        clear X SN hm kF hA
        rw [HA.out] at q3 L ⊢
        go_wp2_with fail
        refine L.out.mono ?_
        rintro e w2 ⟨C2, (⟨s, hL, rfl, hM2⟩ | ⟨hL, rfl⟩)⟩
        · have HMK2 := Lib.hid (show makeL D (k + 1) = some s.1 by rw [makeL, hmk.out]; show learnC D m k = _; rw [learnC, hL]; rfl)
          have X2 := HX.out.trans C2
          clear hL C2 y e0 e1 e2 e3 e4 e5 q0 q1 q2 q3 q4 q5 q6 q7 q8 q9 q10
          go_wp2_with fail
          go_roundw
          case rel => exact ⟨k + 1, n + 300, s.1, by omega, by go_num, HMK2, hM2, by omega, X2⟩
          case measure => simp [intOf]; omega
        · have NO := Lib.hid (show makeD D = none by
            rw [HMK.out]
            refine makeL_fails (k := k + 1) ?_ (by omega)
            rw [makeL, hmk.out]
            show learnC D m k = _
            rw [learnC, hL]; rfl)
          have X2 := HX.out.trans C2
          clear hL C2 y e0 e1 e2 e3 e4 e5 q0 q1 q2 q3 q4 q5 q6 q7 q8 q9 q10
          go_wp2_with fail
          go_ret2
          exact ⟨X2.old w hwbm XV, .inr ⟨NO.out, rfl⟩⟩
      · obtain rfl : k = D.nc := by omega
        have YES := Lib.hid (show makeD D = some m by rw [HMK.out]; exact hmk.out)
        have HX := Lib.hid X
        clear X
        go_wp2_with fail
        go_ret2
        exact ⟨HX.out.old w hwbm XV, .inl ⟨m, bm, n, YES.out, rfl, hm⟩⟩
end L08
end Go.Proofs.Ytijhabhnhglhgaa

