/- TfmHas: a font has just those characters from First on, as many as it has Chars, whose Width is not 0, and one that may not be has none (at most three hundred of each): for every input. -/
import Derived.Test.YtlbliidgmkipbaaAwake07
import Derived.OpenShut
namespace Go.Proofs.Ytlbliidgmkipbaa
open Go.ChangeShapes Go.WideShapes Go.ChangeAt Go.RowKit Go.Deep
namespace TfmHas
open L06 L07

set_option maxRecDepth 100000 in
set_option maxHeartbeats 16000000 in
theorem walk (D : FontD) (P : FontP) (ok : FontOk D P) (n : Int) (hn : -9223372036854775808 ≤ n ∧ n ≤ 9223372036854775807) (w : World) (sn : SeenFont w D P) :
    Calls Try.prog 8 #[fontV D P, .int .i64 n] w (Ret w (.bool true)) := by
  have W0 : Ext w (w.alloc (.cells #[.int .i64 D.sum, .int .i64 D.design, .int .i64 D.first, .slice P.xc D.nc P.zc, .slice P.xw D.nw P.zw, .slice P.xh D.nh P.zh, .slice P.xd D.nd P.zd, .slice P.xi D.ni P.zi, .slice P.xs D.ns P.zs, .slice P.xk D.nk P.zk, .slice P.xp D.np P.zp] 26)) := (Ext.refl _).alloc _
  have SN := Lib.hid (fun w' (x : Ext (w.alloc (.cells #[.int .i64 D.sum, .int .i64 D.design, .int .i64 D.first, .slice P.xc D.nc P.zc, .slice P.xw D.nw P.zw, .slice P.xh D.nh P.zh, .slice P.xd D.nd P.zd, .slice P.xi D.ni P.zi, .slice P.xs D.ns P.zs, .slice P.xk D.nk P.zk, .slice P.xp D.np P.zp] 26)) w') => (sn.ext W0).ext x)
  have OK := Lib.hid ok
  have kF : Blk (w.alloc (.cells #[.int .i64 D.sum, .int .i64 D.design, .int .i64 D.first, .slice P.xc D.nc P.zc, .slice P.xw D.nw P.zw, .slice P.xh D.nh P.zh, .slice P.xd D.nd P.zd, .slice P.xi D.ni P.zi, .slice P.xs D.ns P.zs, .slice P.xk D.nk P.zk, .slice P.xp D.np P.zp] 26)) w.heap.size 26 [.int .i64 D.sum, .int .i64 D.design, .int .i64 D.first, .slice P.xc D.nc P.zc, .slice P.xw D.nw P.zw, .slice P.xh D.nh P.zh, .slice P.xd D.nd P.zd, .slice P.xi D.ni P.zi, .slice P.xs D.ns P.zs, .slice P.xk D.nk P.zk, .slice P.xp D.np P.zp] := Blk.lit _ _ _ _ rfl
  have mc := ok.rc; have mw := ok.rw; have mh := ok.rh; have md := ok.rd; have mi := ok.ri; have ms := ok.rs; have mk := ok.rk; have mp := ok.rp
  unfold maxLen at mc mw mh md mi ms mk mp
  obtain ⟨n0, n1⟩ := hn
  clear ok sn
  unfold fontV
  go_enter Try.func8, Try.ntmps8
  go_wp2_with fail
  generalize (w.alloc (.cells #[.int .i64 D.sum, .int .i64 D.design, .int .i64 D.first, .slice P.xc D.nc P.zc, .slice P.xw D.nw P.zw, .slice P.xh D.nh P.zh, .slice P.xd D.nd P.zd, .slice P.xi D.ni P.zi, .slice P.xs D.ns P.zs, .slice P.xk D.nk P.zk, .slice P.xp D.np P.zp] 26)) = V at *
  generalize w.heap.size = B at *
  refine (awake_any _).mono ?_; rintro e w1 ⟨rfl, x1⟩
  have X1 := W0.trans x1
  have k1 := kF.ext x1
  have q0 : w1.cell? ⟨B, 0, none⟩ = some (.int .i64 D.sum) := k1.cell 0
  have q1 : w1.cell? ⟨B, 1, none⟩ = some (.int .i64 D.design) := k1.cell 1
  have q2 : w1.cell? ⟨B, 2, none⟩ = some (.int .i64 D.first) := k1.cell 2
  have q3 : w1.cell? ⟨B, 3, none⟩ = some (.slice P.xc D.nc P.zc) := k1.cell 3
  have q4 : w1.cell? ⟨B, 4, none⟩ = some (.slice P.xw D.nw P.zw) := k1.cell 4
  have q5 : w1.cell? ⟨B, 5, none⟩ = some (.slice P.xh D.nh P.zh) := k1.cell 5
  have q6 : w1.cell? ⟨B, 6, none⟩ = some (.slice P.xd D.nd P.zd) := k1.cell 6
  have q7 : w1.cell? ⟨B, 7, none⟩ = some (.slice P.xi D.ni P.zi) := k1.cell 7
  have q8 : w1.cell? ⟨B, 8, none⟩ = some (.slice P.xs D.ns P.zs) := k1.cell 8
  have q9 : w1.cell? ⟨B, 9, none⟩ = some (.slice P.xk D.nk P.zk) := k1.cell 9
  have q10 : w1.cell? ⟨B, 10, none⟩ = some (.slice P.xp D.np P.zp) := k1.cell 10
  go_wp2_with fail
  all_goals first | (go_ret; exact ⟨rfl, X1⟩) | skip
  refine (thas_any D P n _ OK.out (SN.out _ x1) ⟨n0, n1⟩).mono ?_; rintro e w2 ⟨rfl, x2⟩
  have k2 := k1.ext x2
  have q0 : w2.cell? ⟨B, 0, none⟩ = some (.int .i64 D.sum) := k2.cell 0
  have q1 : w2.cell? ⟨B, 1, none⟩ = some (.int .i64 D.design) := k2.cell 1
  have q2 : w2.cell? ⟨B, 2, none⟩ = some (.int .i64 D.first) := k2.cell 2
  have q3 : w2.cell? ⟨B, 3, none⟩ = some (.slice P.xc D.nc P.zc) := k2.cell 3
  have q4 : w2.cell? ⟨B, 4, none⟩ = some (.slice P.xw D.nw P.zw) := k2.cell 4
  have q5 : w2.cell? ⟨B, 5, none⟩ = some (.slice P.xh D.nh P.zh) := k2.cell 5
  have q6 : w2.cell? ⟨B, 6, none⟩ = some (.slice P.xd D.nd P.zd) := k2.cell 6
  have q7 : w2.cell? ⟨B, 7, none⟩ = some (.slice P.xi D.ni P.zi) := k2.cell 7
  have q8 : w2.cell? ⟨B, 8, none⟩ = some (.slice P.xs D.ns P.zs) := k2.cell 8
  have q9 : w2.cell? ⟨B, 9, none⟩ = some (.slice P.xk D.nk P.zk) := k2.cell 9
  have q10 : w2.cell? ⟨B, 10, none⟩ = some (.slice P.xp D.np P.zp) := k2.cell 10
  go_wp2_with fail
  refine (tcheck_any D P _ OK.out (SN.out _ (x1.trans x2))).mono ?_; rintro e w3 ⟨rfl, x3⟩
  have k3 := k2.ext x3
  have q0 : w3.cell? ⟨B, 0, none⟩ = some (.int .i64 D.sum) := k3.cell 0
  have q1 : w3.cell? ⟨B, 1, none⟩ = some (.int .i64 D.design) := k3.cell 1
  have q2 : w3.cell? ⟨B, 2, none⟩ = some (.int .i64 D.first) := k3.cell 2
  have q3 : w3.cell? ⟨B, 3, none⟩ = some (.slice P.xc D.nc P.zc) := k3.cell 3
  have q4 : w3.cell? ⟨B, 4, none⟩ = some (.slice P.xw D.nw P.zw) := k3.cell 4
  have q5 : w3.cell? ⟨B, 5, none⟩ = some (.slice P.xh D.nh P.zh) := k3.cell 5
  have q6 : w3.cell? ⟨B, 6, none⟩ = some (.slice P.xd D.nd P.zd) := k3.cell 6
  have q7 : w3.cell? ⟨B, 7, none⟩ = some (.slice P.xi D.ni P.zi) := k3.cell 7
  have q8 : w3.cell? ⟨B, 8, none⟩ = some (.slice P.xs D.ns P.zs) := k3.cell 8
  have q9 : w3.cell? ⟨B, 9, none⟩ = some (.slice P.xk D.nk P.zk) := k3.cell 9
  have q10 : w3.cell? ⟨B, 10, none⟩ = some (.slice P.xp D.np P.zp) := k3.cell 10
  have X3 := (X1.trans x2).trans x3
  have S3 := (SN.out _ ((x1.trans x2).trans x3)).oc
  clear kF k1 k2 k3 W0 SN OK x1 x2 x3 X1
  cases hck : checkB D with
  | false =>
    have hh : hasB D n = false := by simp [hasB, hck]
    rw [hh]
    clear hck hh
    go_wp2_with fail
    go_ret
    exact ⟨rfl, X3⟩
  | true =>
    have I := check_in hck
    obtain ⟨f0, f1⟩ := I.first
    obtain ⟨c0, c1⟩ := I.nc
    by_cases h1 : D.first ≤ n ∧ n < D.first + D.nc
    · have hk : (n - D.first).toNat < D.nc := by omega
      have hp := (I.chr _ hk).1.1
      have hh : hasB D n = (D.chr (n - D.first).toNat 0 != 0) := by
        simp only [hasB, hck, h1.1, h1.2, and_self, decide_true, Bool.true_and]
        rw [Bool.eq_iff_iff]; simp; omega
      rw [hh]
      obtain ⟨h1a, h1b⟩ := h1
      obtain ⟨ad, hA, g, _, _, _, _, _⟩ := row6 S3 hk
      generalize P.xc = XC at *
      subst hA
      have m1 : ¬ (D.nc : Int) - 1 < n - D.first := by omega
      have m2 : n - D.first ≤ (D.nc : Int) - 1 := by omega
      have m3 : ¬ n - D.first < 0 := by omega
      have m4 : 0 ≤ n - D.first := by omega
      clear hh hp hck I S3
      by_cases hz : n ≤ D.first
      · have e0 : (n - D.first).toNat = 0 := by omega
        rw [e0, Nat.zero_mul, addr_zero] at g
        rw [e0]
        generalize D.chr 0 0 = v at *
        go_wp2_with fail
        all_goals
          go_ret
          exact ⟨ret_bool (by simp), X3⟩
      · generalize D.chr (n - D.first).toNat 0 = v at *
        go_wp2_with fail
        all_goals
          go_ret
          exact ⟨ret_bool (by simp), X3⟩
    · have hh : hasB D n = false := by simp [hasB]; omega
      rw [hh]
      clear hck hh I S3
      by_cases h2 : D.first ≤ n
      · have h3 : ¬ n < D.first + D.nc := by omega
        go_wp2_with fail
        go_ret
        exact ⟨rfl, X3⟩
      · go_wp2_with fail
        go_ret
        exact ⟨rfl, X3⟩

set_option maxRecDepth 100000 in
theorem lifted (os : Os) (started : os.Started) (H : Type) (enc : TypeId × Value → H) :
    ReturnsInHanded {} Try.checked os 8 .any (Rows.tfmHasSpec.pre6 enc Try.prog Try.f8 [] false) (Rows.tfmHasSpec.post enc Try.prog Try.f8 false true false false) := by
  refine law_lift (C := Try.checked) own started (by kernel_rfl) Try.func8 laidOut rfl rfl Try.underlying4 (by kernel_rfl) ?_
    (ChangeSpec.witness6 (enc := enc) (C := Try.checked) false ⟨#[], #[.agg #[.int .i64 0, .int .i64 0, .int .i64 0, .slice none 0 0, .slice none 0 0, .slice none 0 0, .slice none 0 0, .slice none 0 0, .slice none 0 0, .slice none 0 0, .slice none 0 0], .int .i64 0], []⟩ 8 (by kernel_rfl) (by kernel_rfl) (by kernel_rfl) (by kernel_rfl)) ?_
  · intro H ds h
    match ds, h with
    | [_, _], _ => rfl
  · intro W base args ds p hval hA hlt hwt hsh
    rw [Try.params8] at hA hval
    obtain ⟨v0, vs0, d0, ds0, p0, q0, hargs, rfl, rfl, h0, r0⟩ := trodAll_cons hA
    obtain ⟨v1, vs1, d1, ds1, p1, q1, rfl, rfl, rfl, h1, r1⟩ := trodAll_cons r0
    obtain ⟨rfl, rfl, rfl⟩ := trodAll_nil r1
    obtain rfl : args = #[v0, v1] := by cases args; simp_all
    obtain ⟨D0, P0, rfl, ok0, hs0⟩ := arg_font (hval 0 26 v0 rfl rfl) h0
    obtain ⟨a1, rfl, rfl, rfl, wf1⟩ := open_int Try.underlying3 (hval 1 3 v1 rfl rfl) h1
    exact walk D0 P0 ok0 a1 (bounds_i64 wf1) W hs0

theorem holds : Rows.TfmHasSaid :=
  OpenClaim.holds_of_wide 8 Try.f8 rfl rfl rfl rfl rfl rfl rfl ⟨rfl, rfl, rfl, rfl, rfl⟩ rfl rfl rfl rfl rfl (by kernel_rfl) Try.func8 (by kernel_rfl)
    (of_decide_eq_true (by kernel_rfl)) (by unfold Func.isWrapper; first | (rw [if_pos (by decide +kernel)]; kernel_rfl) | (rw [if_neg (by decide +kernel)]; exact ⟨rfl, rfl⟩))
    (fun os started H enc _ => lifted os started H enc)
end TfmHas
end Go.Proofs.Ytlbliidgmkipbaa

