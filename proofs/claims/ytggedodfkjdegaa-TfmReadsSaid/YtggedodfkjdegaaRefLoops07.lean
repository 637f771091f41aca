/- The document's Check: characters and steps. -/
import Derived.Test.YtggedodfkjdegaaRefCheck07
namespace Go.Proofs.Ytggedodfkjdegaa
open Go.RowKit
namespace L07

theorem row6 {w : World} {A : Option Addr} {n : Nat} {f : Nat → Nat → Int} (h : SeenN 6 w A n f) {k : Nat} (hk : k < n) :
    ∃ ad, A = some ad ∧ w.cell? (ad.add (k * 6)) = some (.int .i64 (f k 0)) ∧ w.cell? ⟨(ad.add (k * 6)).block, (ad.add (k * 6)).off + 1, none⟩ = some (.int .i64 (f k 1)) ∧ w.cell? ⟨(ad.add (k * 6)).block, (ad.add (k * 6)).off + 2, none⟩ = some (.int .i64 (f k 2)) ∧
      w.cell? ⟨(ad.add (k * 6)).block, (ad.add (k * 6)).off + 3, none⟩ = some (.int .i64 (f k 3)) ∧ w.cell? ⟨(ad.add (k * 6)).block, (ad.add (k * 6)).off + 4, none⟩ = some (.int .i64 (f k 4)) ∧ w.cell? ⟨(ad.add (k * 6)).block, (ad.add (k * 6)).off + 5, none⟩ = some (.int .i64 (f k 5)) := by
  obtain ⟨ad, rfl, _, h0⟩ := h k hk 0 (by omega)
  have g : ∀ j, j < 6 → w.cell? (ad.add (k * 6 + j)) = some (.int .i64 (f k j)) := fun j hj => by
    obtain ⟨ad', e, _, hc⟩ := h k hk j hj
    obtain rfl : ad = ad' := by simpa using e
    exact hc
  have g1 := g 1 (by omega); have g2 := g 2 (by omega); have g3 := g 3 (by omega); have g4 := g 4 (by omega); have g5 := g 5 (by omega)
  rw [← addr_add] at g1 g2 g3 g4 g5
  exact ⟨ad, rfl, h0, g1, g2, g3, g4, g5⟩

theorem row4 {w : World} {A : Option Addr} {n : Nat} {f : Nat → Nat → Int} (h : SeenN 4 w A n f) {k : Nat} (hk : k < n) :
    ∃ ad, A = some ad ∧ w.cell? (ad.add (k * 4)) = some (.int .i64 (f k 0)) ∧ w.cell? ⟨(ad.add (k * 4)).block, (ad.add (k * 4)).off + 1, none⟩ = some (.int .i64 (f k 1)) ∧ w.cell? ⟨(ad.add (k * 4)).block, (ad.add (k * 4)).off + 2, none⟩ = some (.int .i64 (f k 2)) ∧
      w.cell? ⟨(ad.add (k * 4)).block, (ad.add (k * 4)).off + 3, none⟩ = some (.int .i64 (f k 3)) := by
  obtain ⟨ad, rfl, _, h0⟩ := h k hk 0 (by omega)
  have g : ∀ j, j < 4 → w.cell? (ad.add (k * 4 + j)) = some (.int .i64 (f k j)) := fun j hj => by
    obtain ⟨ad', e, _, hc⟩ := h k hk j hj
    obtain rfl : ad = ad' := by simpa using e
    exact hc
  have g1 := g 1 (by omega); have g2 := g 2 (by omega); have g3 := g 3 (by omega)
  rw [← addr_add] at g1 g2 g3
  exact ⟨ad, rfl, h0, g1, g2, g3⟩

set_option maxRecDepth 100000 in
set_option maxHeartbeats 40000000 in
theorem check_loops (D : FontD) (P : FontP) (w : World) (ok : FontOk D P) (sn : SeenFont w D P) (s1 : inB D.sum 4294967296 = true) (d1 : 1048576 ≤ D.design) (d2 : D.design ≤ 2147483647) (f0 : inB D.first 256 = true) (f1 : 0 ≤ D.first) (f2 : D.first < 256) (c1 : ¬ (D.nc : Int) < 1) (c2 : ¬ 256 - D.first < (D.nc : Int)) (n1 : ¬ 256 < (D.ns : Int))
    (t0 : fixesB D.nw D.wd 1 256 true = true) (t1 : fixesB D.nh D.hd 1 16 true = true) (t2 : fixesB D.nd D.dd 1 16 true = true) (t3 : fixesB D.ni D.id 1 64 true = true) (t4 : fixesB D.nk D.kd 0 256 false = true) (t5 : fixesB D.np D.pd 0 30 false = true) :
    Calls Try.prog 32 #[fontV D P] w (Ret w (.bool (allB (chrB D) D.nc && allB (stpB D) D.ns))) := by
  have W0 : Ext w (w.alloc (.cells #[.int .i64 D.sum, .int .i64 D.design, .int .i64 D.first, .slice P.xc D.nc P.zc, .slice P.xw D.nw P.zw, .slice P.xh D.nh P.zh, .slice P.xd D.nd P.zd, .slice P.xi D.ni P.zi, .slice P.xs D.ns P.zs, .slice P.xk D.nk P.zk, .slice P.xp D.np P.zp] 28)) := (Ext.refl _).alloc _
  have sF := sn.ext W0
  have mw : D.nw ≤ 9223372036854775807 := by have := ok.rw; unfold maxLen at this; omega
  have mh : D.nh ≤ 9223372036854775807 := by have := ok.rh; unfold maxLen at this; omega
  have md : D.nd ≤ 9223372036854775807 := by have := ok.rd; unfold maxLen at this; omega
  have mi : D.ni ≤ 9223372036854775807 := by have := ok.ri; unfold maxLen at this; omega
  have mk : D.nk ≤ 9223372036854775807 := by have := ok.rk; unfold maxLen at this; omega
  have mp : D.np ≤ 9223372036854775807 := by have := ok.rp; unfold maxLen at this; omega
  have lB : w.heap.size < (w.alloc (.cells #[.int .i64 D.sum, .int .i64 D.design, .int .i64 D.first, .slice P.xc D.nc P.zc, .slice P.xw D.nw P.zw, .slice P.xh D.nh P.zh, .slice P.xd D.nd P.zd, .slice P.xi D.ni P.zi, .slice P.xs D.ns P.zs, .slice P.xk D.nk P.zk, .slice P.xp D.np P.zp] 28)).heap.size := by simp
  have q3 : (w.alloc (.cells #[.int .i64 D.sum, .int .i64 D.design, .int .i64 D.first, .slice P.xc D.nc P.zc, .slice P.xw D.nw P.zw, .slice P.xh D.nh P.zh, .slice P.xd D.nd P.zd, .slice P.xi D.ni P.zi, .slice P.xs D.ns P.zs, .slice P.xk D.nk P.zk, .slice P.xp D.np P.zp] 28)).cell? ⟨w.heap.size, 3, none⟩ = some (.slice P.xc D.nc P.zc) := by simp
  have q4 : (w.alloc (.cells #[.int .i64 D.sum, .int .i64 D.design, .int .i64 D.first, .slice P.xc D.nc P.zc, .slice P.xw D.nw P.zw, .slice P.xh D.nh P.zh, .slice P.xd D.nd P.zd, .slice P.xi D.ni P.zi, .slice P.xs D.ns P.zs, .slice P.xk D.nk P.zk, .slice P.xp D.np P.zp] 28)).cell? ⟨w.heap.size, 4, none⟩ = some (.slice P.xw D.nw P.zw) := by simp
  have q5 : (w.alloc (.cells #[.int .i64 D.sum, .int .i64 D.design, .int .i64 D.first, .slice P.xc D.nc P.zc, .slice P.xw D.nw P.zw, .slice P.xh D.nh P.zh, .slice P.xd D.nd P.zd, .slice P.xi D.ni P.zi, .slice P.xs D.ns P.zs, .slice P.xk D.nk P.zk, .slice P.xp D.np P.zp] 28)).cell? ⟨w.heap.size, 5, none⟩ = some (.slice P.xh D.nh P.zh) := by simp
  have q6 : (w.alloc (.cells #[.int .i64 D.sum, .int .i64 D.design, .int .i64 D.first, .slice P.xc D.nc P.zc, .slice P.xw D.nw P.zw, .slice P.xh D.nh P.zh, .slice P.xd D.nd P.zd, .slice P.xi D.ni P.zi, .slice P.xs D.ns P.zs, .slice P.xk D.nk P.zk, .slice P.xp D.np P.zp] 28)).cell? ⟨w.heap.size, 6, none⟩ = some (.slice P.xd D.nd P.zd) := by simp
  have q7 : (w.alloc (.cells #[.int .i64 D.sum, .int .i64 D.design, .int .i64 D.first, .slice P.xc D.nc P.zc, .slice P.xw D.nw P.zw, .slice P.xh D.nh P.zh, .slice P.xd D.nd P.zd, .slice P.xi D.ni P.zi, .slice P.xs D.ns P.zs, .slice P.xk D.nk P.zk, .slice P.xp D.np P.zp] 28)).cell? ⟨w.heap.size, 7, none⟩ = some (.slice P.xi D.ni P.zi) := by simp
  have q8 : (w.alloc (.cells #[.int .i64 D.sum, .int .i64 D.design, .int .i64 D.first, .slice P.xc D.nc P.zc, .slice P.xw D.nw P.zw, .slice P.xh D.nh P.zh, .slice P.xd D.nd P.zd, .slice P.xi D.ni P.zi, .slice P.xs D.ns P.zs, .slice P.xk D.nk P.zk, .slice P.xp D.np P.zp] 28)).cell? ⟨w.heap.size, 8, none⟩ = some (.slice P.xs D.ns P.zs) := by simp
  have mc : D.nc ≤ 256 := by omega
  have ms : D.ns ≤ 256 := by omega
  have bc := Lib.hid ok.bc
  have bs := Lib.hid ok.bs
  clear ok sn
  unfold fontV
  go_enter Try.func32, Try.ntmps32
  go_wp2_with (go_at_call 45; refine (in_any _ _ _).mono ?_; rintro e w' ⟨rfl, rfl⟩)
  refine (fixes_any P.xw D.nw P.zw D.wd 1 256 true _ sF.ow mw).mono ?_; rintro e w0 ⟨rfl, rfl⟩
  go_wp2_with fail
  refine (fixes_any P.xh D.nh P.zh D.hd 1 16 true _ sF.oh mh).mono ?_; rintro e w1 ⟨rfl, rfl⟩
  go_wp2_with fail
  refine (fixes_any P.xd D.nd P.zd D.dd 1 16 true _ sF.od md).mono ?_; rintro e w2 ⟨rfl, rfl⟩
  go_wp2_with fail
  refine (fixes_any P.xi D.ni P.zi D.id 1 64 true _ sF.oi mi).mono ?_; rintro e w3 ⟨rfl, rfl⟩
  go_wp2_with fail
  refine (fixes_any P.xk D.nk P.zk D.kd 0 256 false _ sF.ok mk).mono ?_; rintro e w4 ⟨rfl, rfl⟩
  go_wp2_with fail
  refine (fixes_any P.xp D.np P.zp D.pd 0 30 false _ sF.op mp).mono ?_; rintro e w5 ⟨rfl, rfl⟩
  go_wp2_with fail
  clear t0 t1 t2 t3 t4 t5 s1 d1 d2 f0 f1 f2 c1 c2 n1
  have S3 := sF.oc
  have S8 := sF.os
  clear sF
  generalize (w.alloc (.cells #[.int .i64 D.sum, .int .i64 D.design, .int .i64 D.first, .slice P.xc D.nc P.zc, .slice P.xw D.nw P.zw, .slice P.xh D.nh P.zh, .slice P.xd D.nd P.zd, .slice P.xi D.ni P.zi, .slice P.xs D.ns P.zs, .slice P.xk D.nk P.zk, .slice P.xp D.np P.zp] 28)) = V at *
  generalize w.heap.size = B at *
  go_loopw [9] (fun i wr => ∃ k : Nat, k ≤ D.nc ∧ i = .int .i64 k ∧ Hid (allB (chrB D) k = true) ∧ Ext V wr) (fun i _ => D.nc - (intOf i).toNat)
  case atStart => exact ⟨0, by omega, rfl, rfl, Ext.refl _⟩
  case round =>
    obtain ⟨k, hk, rfl, hall, x⟩ := hrel
    by_cases hlt : k < D.nc
    · obtain ⟨ad, hA, e0, e1, e2, e3, e4, e5⟩ := row6 (S3.ext x) hlt
      have q3 := x.at q3
      have q4 := x.at q4
      have q5 := x.at q5
      have q6 := x.at q6
      have q7 := x.at q7
      have q8 := x.at q8
      rw [hA] at q3
      have hB := x.grows _ lB
      have w4 := bc.out k 4 hlt (by omega)
      have w5 := bc.out k 5 hlt (by omega)
      unfold Wide at w4 w5
      have HF := Lib.hid (fun h : chrB D k = false => show (allB (chrB D) D.nc && allB (stpB D) D.ns) = false by rw [allB_no hlt h]; rfl)
      have HT := Lib.hid (fun h : chrB D k = true => show allB (chrB D) (k + 1) = true by rw [allB, hall.out, h]; rfl)
      have HC : Hid (chrB D k = (inB (D.chr k 0) D.nw && (inB (D.chr k 1) D.nh && (inB (D.chr k 2) D.nd && (inB (D.chr k 3) D.ni && tagB (D.chr k 4) (D.chr k 5) D.ns))))) := rfl
      clear S3 S8 hA
      generalize D.chr k 0 = v0 at *
      generalize D.chr k 1 = v1 at *
      generalize D.chr k 2 = v2 at *
      generalize D.chr k 3 = v3 at *
      generalize D.chr k 4 = v4 at *
      generalize D.chr k 5 = v5 at *
      have cases : (v4 = 0 ∧ v5 = 0) ∨ (v4 = 1 ∧ inB v5 D.ns = true) ∨ (v4 = 0 ∧ v5 ≠ 0) ∨ (v4 = 1 ∧ inB v5 D.ns = false) ∨ (v4 ≠ 0 ∧ v4 ≠ 1) := by cases inB v5 D.ns <;> simp <;> omega
      rcases cases with ⟨rfl, rfl⟩ | ⟨rfl, g⟩ | ⟨rfl, g⟩ | ⟨rfl, g⟩ | ⟨g, g'⟩
      · skip
        cases i0 : inB v0 D.nw with
        | false =>
          go_wp2_with (go_at_call 45; refine (in_any _ _ _).mono ?_; rintro e w' ⟨rfl, rfl⟩)
          go_ret
          exact ⟨ret_bool (HF.out (by rw [HC.out]; simp [i0])).symm, W0.trans (x.alloc _)⟩
        | true =>
          cases i1 : inB v1 D.nh with
          | false =>
            go_wp2_with (go_at_call 45; refine (in_any _ _ _).mono ?_; rintro e w' ⟨rfl, rfl⟩)
            go_ret
            exact ⟨ret_bool (HF.out (by rw [HC.out]; simp [i0, i1])).symm, W0.trans (x.alloc _)⟩
          | true =>
            cases i2 : inB v2 D.nd with
            | false =>
              go_wp2_with (go_at_call 45; refine (in_any _ _ _).mono ?_; rintro e w' ⟨rfl, rfl⟩)
              go_ret
              exact ⟨ret_bool (HF.out (by rw [HC.out]; simp [i0, i1, i2])).symm, W0.trans (x.alloc _)⟩
            | true =>
              cases i3 : inB v3 D.ni with
              | false =>
                go_wp2_with (go_at_call 45; refine (in_any _ _ _).mono ?_; rintro e w' ⟨rfl, rfl⟩)
                go_ret
                exact ⟨ret_bool (HF.out (by rw [HC.out]; simp [i0, i1, i2, i3])).symm, W0.trans (x.alloc _)⟩
              | true =>
                go_wp2_with (go_at_call 45; refine (in_any _ _ _).mono ?_; rintro e w' ⟨rfl, rfl⟩)
                go_roundw
                case rel => exact ⟨k + 1, by omega, by go_num, HT.out (by rw [HC.out]; simp [i0, i1, i2, i3, tagB]), x.alloc _⟩
                case measure => simp [intOf]; omega
      · skip
        cases i0 : inB v0 D.nw with
        | false =>
          go_wp2_with (go_at_call 45; refine (in_any _ _ _).mono ?_; rintro e w' ⟨rfl, rfl⟩)
          go_ret
          exact ⟨ret_bool (HF.out (by rw [HC.out]; simp [i0])).symm, W0.trans (x.alloc _)⟩
        | true =>
          cases i1 : inB v1 D.nh with
          | false =>
            go_wp2_with (go_at_call 45; refine (in_any _ _ _).mono ?_; rintro e w' ⟨rfl, rfl⟩)
            go_ret
            exact ⟨ret_bool (HF.out (by rw [HC.out]; simp [i0, i1])).symm, W0.trans (x.alloc _)⟩
          | true =>
            cases i2 : inB v2 D.nd with
            | false =>
              go_wp2_with (go_at_call 45; refine (in_any _ _ _).mono ?_; rintro e w' ⟨rfl, rfl⟩)
              go_ret
              exact ⟨ret_bool (HF.out (by rw [HC.out]; simp [i0, i1, i2])).symm, W0.trans (x.alloc _)⟩
            | true =>
              cases i3 : inB v3 D.ni with
              | false =>
                go_wp2_with (go_at_call 45; refine (in_any _ _ _).mono ?_; rintro e w' ⟨rfl, rfl⟩)
                go_ret
                exact ⟨ret_bool (HF.out (by rw [HC.out]; simp [i0, i1, i2, i3])).symm, W0.trans (x.alloc _)⟩
              | true =>
                go_wp2_with (go_at_call 45; refine (in_any _ _ _).mono ?_; rintro e w' ⟨rfl, rfl⟩)
                go_roundw
                case rel => exact ⟨k + 1, by omega, by go_num, HT.out (by rw [HC.out]; simp [i0, i1, i2, i3, tagB, g]), x.alloc _⟩
                case measure => simp [intOf]; omega
      · have gb : (v5 == 0) = false := by simpa using g
        cases i0 : inB v0 D.nw with
        | false =>
          go_wp2_with (go_at_call 45; refine (in_any _ _ _).mono ?_; rintro e w' ⟨rfl, rfl⟩)
          go_ret
          exact ⟨ret_bool (HF.out (by rw [HC.out]; simp [i0])).symm, W0.trans (x.alloc _)⟩
        | true =>
          cases i1 : inB v1 D.nh with
          | false =>
            go_wp2_with (go_at_call 45; refine (in_any _ _ _).mono ?_; rintro e w' ⟨rfl, rfl⟩)
            go_ret
            exact ⟨ret_bool (HF.out (by rw [HC.out]; simp [i0, i1])).symm, W0.trans (x.alloc _)⟩
          | true =>
            cases i2 : inB v2 D.nd with
            | false =>
              go_wp2_with (go_at_call 45; refine (in_any _ _ _).mono ?_; rintro e w' ⟨rfl, rfl⟩)
              go_ret
              exact ⟨ret_bool (HF.out (by rw [HC.out]; simp [i0, i1, i2])).symm, W0.trans (x.alloc _)⟩
            | true =>
              cases i3 : inB v3 D.ni with
              | false =>
                go_wp2_with (go_at_call 45; refine (in_any _ _ _).mono ?_; rintro e w' ⟨rfl, rfl⟩)
                go_ret
                exact ⟨ret_bool (HF.out (by rw [HC.out]; simp [i0, i1, i2, i3])).symm, W0.trans (x.alloc _)⟩
              | true =>
                go_wp2_with (go_at_call 45; refine (in_any _ _ _).mono ?_; rintro e w' ⟨rfl, rfl⟩)
                go_ret
                exact ⟨ret_bool (HF.out (by rw [HC.out]; simp [i0, i1, i2, i3, tagB, g])).symm, W0.trans (x.alloc _)⟩
      · skip
        cases i0 : inB v0 D.nw with
        | false =>
          go_wp2_with (go_at_call 45; refine (in_any _ _ _).mono ?_; rintro e w' ⟨rfl, rfl⟩)
          go_ret
          exact ⟨ret_bool (HF.out (by rw [HC.out]; simp [i0])).symm, W0.trans (x.alloc _)⟩
        | true =>
          cases i1 : inB v1 D.nh with
          | false =>
            go_wp2_with (go_at_call 45; refine (in_any _ _ _).mono ?_; rintro e w' ⟨rfl, rfl⟩)
            go_ret
            exact ⟨ret_bool (HF.out (by rw [HC.out]; simp [i0, i1])).symm, W0.trans (x.alloc _)⟩
          | true =>
            cases i2 : inB v2 D.nd with
            | false =>
              go_wp2_with (go_at_call 45; refine (in_any _ _ _).mono ?_; rintro e w' ⟨rfl, rfl⟩)
              go_ret
              exact ⟨ret_bool (HF.out (by rw [HC.out]; simp [i0, i1, i2])).symm, W0.trans (x.alloc _)⟩
            | true =>
              cases i3 : inB v3 D.ni with
              | false =>
                go_wp2_with (go_at_call 45; refine (in_any _ _ _).mono ?_; rintro e w' ⟨rfl, rfl⟩)
                go_ret
                exact ⟨ret_bool (HF.out (by rw [HC.out]; simp [i0, i1, i2, i3])).symm, W0.trans (x.alloc _)⟩
              | true =>
                go_wp2_with (go_at_call 45; refine (in_any _ _ _).mono ?_; rintro e w' ⟨rfl, rfl⟩)
                go_ret
                exact ⟨ret_bool (HF.out (by rw [HC.out]; simp [i0, i1, i2, i3, tagB, g])).symm, W0.trans (x.alloc _)⟩
      · have gb : (v4 == 0) = false := by simpa using g
        have gb' : (v4 == 1) = false := by simpa using g'
        cases i0 : inB v0 D.nw with
        | false =>
          go_wp2_with (go_at_call 45; refine (in_any _ _ _).mono ?_; rintro e w' ⟨rfl, rfl⟩)
          go_ret
          exact ⟨ret_bool (HF.out (by rw [HC.out]; simp [i0])).symm, W0.trans (x.alloc _)⟩
        | true =>
          cases i1 : inB v1 D.nh with
          | false =>
            go_wp2_with (go_at_call 45; refine (in_any _ _ _).mono ?_; rintro e w' ⟨rfl, rfl⟩)
            go_ret
            exact ⟨ret_bool (HF.out (by rw [HC.out]; simp [i0, i1])).symm, W0.trans (x.alloc _)⟩
          | true =>
            cases i2 : inB v2 D.nd with
            | false =>
              go_wp2_with (go_at_call 45; refine (in_any _ _ _).mono ?_; rintro e w' ⟨rfl, rfl⟩)
              go_ret
              exact ⟨ret_bool (HF.out (by rw [HC.out]; simp [i0, i1, i2])).symm, W0.trans (x.alloc _)⟩
            | true =>
              cases i3 : inB v3 D.ni with
              | false =>
                go_wp2_with (go_at_call 45; refine (in_any _ _ _).mono ?_; rintro e w' ⟨rfl, rfl⟩)
                go_ret
                exact ⟨ret_bool (HF.out (by rw [HC.out]; simp [i0, i1, i2, i3])).symm, W0.trans (x.alloc _)⟩
              | true =>
                go_wp2_with (go_at_call 45; refine (in_any _ _ _).mono ?_; rintro e w' ⟨rfl, rfl⟩)
                go_ret
                exact ⟨ret_bool (HF.out (by rw [HC.out]; simp [i0, i1, i2, i3, tagB, g, g'])).symm, W0.trans (x.alloc _)⟩
    · have ek : k = D.nc := by omega
      subst ek
      have H1 := hall
      have p3 := x.at q3
      have p8 := x.at q8
      go_wp2_with fail
      clear p3 p8
      go_loopw [12] (fun i wr => ∃ k : Nat, k ≤ D.ns ∧ i = .int .i64 k ∧ Hid (allB (stpB D) k = true) ∧ Ext V wr) (fun i _ => D.ns - (intOf i).toNat)
      case atStart => exact ⟨0, by omega, rfl, rfl, x⟩
      case round =>
        clear x
        obtain ⟨k, hk, rfl, hall, x⟩ := hrel
        by_cases hlt : k < D.ns
        · obtain ⟨ad, hA, e0, e1, e2, e3⟩ := row4 (S8.ext x) hlt
          have q8 := x.at q8
          rw [hA] at q8
          have hB := x.grows _ lB
          have HF := Lib.hid (fun h : stpB D k = false => show (allB (chrB D) D.nc && allB (stpB D) D.ns) = false by rw [allB_no hlt h, Bool.and_false])
          have HT := Lib.hid (fun h : stpB D k = true => show allB (stpB D) (k + 1) = true by rw [allB, hall.out, h]; rfl)
          have HC : Hid (stpB D k = (inB (D.stp k 0) 256 && (inB (D.stp k 1) 256 && (inB (D.stp k 2) 256 && inB (D.stp k 3) 256)))) := rfl
          clear S3 S8 hA
          generalize D.stp k 0 = v0 at *
          generalize D.stp k 1 = v1 at *
          generalize D.stp k 2 = v2 at *
          generalize D.stp k 3 = v3 at *
          cases i0 : inB v0 256 with
          | false =>
            go_wp2_with (go_at_call 45; refine (in_any _ _ _).mono ?_; rintro e w' ⟨rfl, rfl⟩)
            go_ret
            exact ⟨ret_bool (HF.out (by rw [HC.out]; simp [i0])).symm, W0.trans (x.alloc _)⟩
          | true =>
            cases i1 : inB v1 256 with
            | false =>
              go_wp2_with (go_at_call 45; refine (in_any _ _ _).mono ?_; rintro e w' ⟨rfl, rfl⟩)
              go_ret
              exact ⟨ret_bool (HF.out (by rw [HC.out]; simp [i0, i1])).symm, W0.trans (x.alloc _)⟩
            | true =>
              cases i2 : inB v2 256 with
              | false =>
                go_wp2_with (go_at_call 45; refine (in_any _ _ _).mono ?_; rintro e w' ⟨rfl, rfl⟩)
                go_ret
                exact ⟨ret_bool (HF.out (by rw [HC.out]; simp [i0, i1, i2])).symm, W0.trans (x.alloc _)⟩
              | true =>
                cases i3 : inB v3 256 with
                | false =>
                  go_wp2_with (go_at_call 45; refine (in_any _ _ _).mono ?_; rintro e w' ⟨rfl, rfl⟩)
                  go_ret
                  exact ⟨ret_bool (HF.out (by rw [HC.out]; simp [i0, i1, i2, i3])).symm, W0.trans (x.alloc _)⟩
                | true =>
                  go_wp2_with (go_at_call 45; refine (in_any _ _ _).mono ?_; rintro e w' ⟨rfl, rfl⟩)
                  go_roundw
                  case rel => exact ⟨k + 1, by omega, by go_num, HT.out (by rw [HC.out]; simp [i0, i1, i2, i3]), x.alloc _⟩
                  case measure => simp [intOf]; omega
        · have ek : k = D.ns := by omega
          subst ek
          have p8 := x.at q8
          go_wp2_with fail
          go_ret
          exact ⟨ret_bool (by rw [H1.out, hall.out]; rfl), W0.trans x⟩
end L07
end Go.Proofs.Ytggedodfkjdegaa

