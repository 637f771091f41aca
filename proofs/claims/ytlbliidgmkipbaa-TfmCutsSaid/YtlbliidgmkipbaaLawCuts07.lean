/- TfmCuts: no beginning of a font's bytes, but the whole, is a font, nor is one with more behind, and the file's length stands ahead (at most three hundred of each; at most a hundred bytes more): for every input. -/
import Derived.Test.YtlbliidgmkipbaaAwake07
import Derived.OpenShut
namespace Go.Proofs.Ytlbliidgmkipbaa
open Go.ChangeShapes Go.WideShapes Go.ChangeAt Go.RowKit Go.Deep
namespace TfmCuts
open L06 L07

theorem len_of {l : List UInt8} (h : FontOf l) : 4 * half l 0 = (l.length : Int) := by
  obtain ⟨D, hD, rfl⟩ := h
  have I := check_in hD
  have e0 : half (writeB D) 0 = 6 + ((2 + D.nc + D.nw + D.nh + D.nd + D.ni + D.ns + D.nk + D.np : Nat) : Int) := half_at D I 0 (by omega)
  have hl : (writeB D).length = 24 + 4 * (2 + D.nc + D.nw + D.nh + D.nd + D.ni + D.ns + D.nk + D.np) := by
    rw [writeB, List.length_append, bodyW_length, catB_length (k := 2) (fun _ => rfl)]
  rw [hl, e0]
  omega
theorem few_len {D : FontD} (h : fewB D = true) : (writeB D).length ≤ 10000 := by
  have hl : (writeB D).length = 24 + 4 * (2 + D.nc + D.nw + D.nh + D.nd + D.ni + D.ns + D.nk + D.np) := by
    rw [writeB, List.length_append, bodyW_length, catB_length (k := 2) (fun _ => rfl)]
  have := of_decide_eq_true h
  omega
theorem half_take (l : List UInt8) {k : Nat} (h : 2 ≤ k) : half (l.take k) 0 = half l 0 := by
  have e : (l.take k).take 2 = l.take 2 := by rw [List.take_take, Nat.min_eq_left h]
  unfold half
  rw [Nat.mul_zero, List.drop_zero, List.drop_zero, e]
theorem half_app (l m : List UInt8) (h : 2 ≤ l.length) : half (l ++ m) 0 = half l 0 := by
  unfold half
  rw [Nat.mul_zero, List.drop_zero, List.drop_zero, List.take_append_of_le_length h]
theorem cut_no {l : List UInt8} (h : FontOf l) {k : Nat} (hk : k < l.length) : ¬ FontOf (l.take k) := fun g => by
  have a := heads_of g
  have hlen : (l.take k).length = k := by rw [List.length_take]; omega
  rw [hlen] at a
  have e1 := len_of h
  have e2 := len_of g
  rw [hlen, half_take l (by omega)] at e2
  omega
theorem more_of {l m : List UInt8} (h : FontOf l) (g : FontOf (l ++ m)) : m.length = 0 := by
  have a := heads_of h
  have e1 := len_of h
  have e2 := len_of g
  rw [half_app l m (by omega), List.length_append] at e2
  omega

set_option maxRecDepth 100000 in
set_option maxHeartbeats 16000000 in
theorem walk (D : FontD) (P : FontP) (ok : FontOk D P) (cut : Int) (hcut : 0 ≤ cut ∧ cut ≤ 65535) (A0 : Option Addr) (l : List UInt8) (c : Nat) (hc : l.length ≤ c) (hm : c ≤ maxLen) (w : World) (sn : SeenFont w D P) (hb : SeenB w A0 l) :
    Calls Try.prog 6 #[fontV D P, .int .u16 cut, .slice A0 l.length c] w (Ret w (.bool true)) := by
  have W0 : Ext w (w.alloc (.cells #[.int .i64 D.sum, .int .i64 D.design, .int .i64 D.first, .slice P.xc D.nc P.zc, .slice P.xw D.nw P.zw, .slice P.xh D.nh P.zh, .slice P.xd D.nd P.zd, .slice P.xi D.ni P.zi, .slice P.xs D.ns P.zs, .slice P.xk D.nk P.zk, .slice P.xp D.np P.zp] 26)) := (Ext.refl _).alloc _
  have SN := Lib.hid (fun w' (x : Ext (w.alloc (.cells #[.int .i64 D.sum, .int .i64 D.design, .int .i64 D.first, .slice P.xc D.nc P.zc, .slice P.xw D.nw P.zw, .slice P.xh D.nh P.zh, .slice P.xd D.nd P.zd, .slice P.xi D.ni P.zi, .slice P.xs D.ns P.zs, .slice P.xk D.nk P.zk, .slice P.xp D.np P.zp] 26)) w') => (sn.ext W0).ext x)
  have SB := Lib.hid (fun w' (x : Ext (w.alloc (.cells #[.int .i64 D.sum, .int .i64 D.design, .int .i64 D.first, .slice P.xc D.nc P.zc, .slice P.xw D.nw P.zw, .slice P.xh D.nh P.zh, .slice P.xd D.nd P.zd, .slice P.xi D.ni P.zi, .slice P.xs D.ns P.zs, .slice P.xk D.nk P.zk, .slice P.xp D.np P.zp] 26)) w') => (hb.ext W0).ext x)
  have OK := Lib.hid ok
  have kF : Blk (w.alloc (.cells #[.int .i64 D.sum, .int .i64 D.design, .int .i64 D.first, .slice P.xc D.nc P.zc, .slice P.xw D.nw P.zw, .slice P.xh D.nh P.zh, .slice P.xd D.nd P.zd, .slice P.xi D.ni P.zi, .slice P.xs D.ns P.zs, .slice P.xk D.nk P.zk, .slice P.xp D.np P.zp] 26)) w.heap.size 26 [.int .i64 D.sum, .int .i64 D.design, .int .i64 D.first, .slice P.xc D.nc P.zc, .slice P.xw D.nw P.zw, .slice P.xh D.nh P.zh, .slice P.xd D.nd P.zd, .slice P.xi D.ni P.zi, .slice P.xs D.ns P.zs, .slice P.xk D.nk P.zk, .slice P.xp D.np P.zp] := Blk.lit _ _ _ _ rfl
  have hl : l.length ≤ 9223372036854775807 := by unfold maxLen at hm; omega
  have FEW := few_any D P
  obtain ⟨n, hn⟩ : ∃ n, n = l.length := ⟨_, rfl⟩
  rw [← hn] at hl ⊢
  have HN := Lib.hid hn
  have HCM := Lib.hid (And.intro hc hm)
  have FEW := Lib.hid FEW
  obtain ⟨q0', q1'⟩ := hcut
  clear ok sn hb hn hc hm
  unfold fontV at *
  go_enter Try.func6, Try.ntmps6
  go_wp2_with fail
  generalize (w.alloc (.cells #[.int .i64 D.sum, .int .i64 D.design, .int .i64 D.first, .slice P.xc D.nc P.zc, .slice P.xw D.nw P.zw, .slice P.xh D.nh P.zh, .slice P.xd D.nd P.zd, .slice P.xi D.ni P.zi, .slice P.xs D.ns P.zs, .slice P.xk D.nk P.zk, .slice P.xp D.np P.zp] 26)) = V at *
  generalize w.heap.size = B at *
  refine (awake_any _).mono ?_; rintro e w1 ⟨rfl, x1⟩
  have k1 := kF.ext x1
  have q0 : w1.cell? ⟨B, 0, none⟩ = some (.int .i64 D.sum) := k1.cell 0
  have q1 : w1.cell? ⟨B, 1, none⟩ = some (.int .i64 D.design) := k1.cell 1
  have q2 : w1.cell? ⟨B, 2, none⟩ = some (.int .i64 D.first) := k1.cell 2
  have q3 : w1.cell? ⟨B, 3, none⟩ = some (.slice P.xc D.nc P.zc) := k1.cell 3
  have q4 : w1.cell? ⟨B, 4, none⟩ = some (.slice P.xw D.nw P.zw) := k1.cell 4
  have q5 : w1.cell? ⟨B, 5, none⟩ = some (.slice P.xh D.nh P.zh) := k1.cell 5
  have q6 : w1.cell? ⟨B, 6, none⟩ = some (.slice P.xd D.nd P.zd) := k1.cell 6
  have q7 : w1.cell? ⟨B, 7, none⟩ = some (.slice P.xi D.ni P.zi) := k1.cell 7
  have q8 : w1.cell? ⟨B, 8, none⟩ = some (.slice P.xs D.ns P.zs) := k1.cell 8
  have q9 : w1.cell? ⟨B, 9, none⟩ = some (.slice P.xk D.nk P.zk) := k1.cell 9
  have q10 : w1.cell? ⟨B, 10, none⟩ = some (.slice P.xp D.np P.zp) := k1.cell 10
  go_wp2_with fail
  refine (FEW.out w1).mono ?_; rintro e w2 ⟨rfl, x2⟩
  have k2 := k1.ext x2
  have X2 := x1.trans x2
  have q0 : w2.cell? ⟨B, 0, none⟩ = some (.int .i64 D.sum) := k2.cell 0
  have q1 : w2.cell? ⟨B, 1, none⟩ = some (.int .i64 D.design) := k2.cell 1
  have q2 : w2.cell? ⟨B, 2, none⟩ = some (.int .i64 D.first) := k2.cell 2
  have q3 : w2.cell? ⟨B, 3, none⟩ = some (.slice P.xc D.nc P.zc) := k2.cell 3
  have q4 : w2.cell? ⟨B, 4, none⟩ = some (.slice P.xw D.nw P.zw) := k2.cell 4
  have q5 : w2.cell? ⟨B, 5, none⟩ = some (.slice P.xh D.nh P.zh) := k2.cell 5
  have q6 : w2.cell? ⟨B, 6, none⟩ = some (.slice P.xd D.nd P.zd) := k2.cell 6
  have q7 : w2.cell? ⟨B, 7, none⟩ = some (.slice P.xi D.ni P.zi) := k2.cell 7
  have q8 : w2.cell? ⟨B, 8, none⟩ = some (.slice P.xs D.ns P.zs) := k2.cell 8
  have q9 : w2.cell? ⟨B, 9, none⟩ = some (.slice P.xk D.nk P.zk) := k2.cell 9
  have q10 : w2.cell? ⟨B, 10, none⟩ = some (.slice P.xp D.np P.zp) := k2.cell 10
  have XW := W0.trans X2
  clear FEW kF k1 x1 x2
  cases hfew : fewB D with
  | false =>
    clear hfew
    go_wp2_with fail
    go_ret
    exact ⟨rfl, XW⟩
  | true =>
  by_cases hn : 100 < n
  · have hn' : 100 < (n : Int) := by omega
    clear hfew
    go_wp2_with fail
    go_ret
    exact ⟨rfl, XW⟩
  have hn0 : ¬ 100 < (n : Int) := by omega
  have hn1 : (n : Int) ≤ 100 := by omega
  go_wp2_with fail
  cases hck : checkB D with
  | false =>
    refine (twrite_no D P _ OK.out (SN.out _ X2) hck).mono ?_; rintro e w3 ⟨rfl, x3⟩
    go_wp2_with fail
    go_ret
    exact ⟨rfl, XW.trans x3⟩
  | true =>
  refine (twrite_yes D P _ OK.out (SN.out _ X2) hck).mono ?_; rintro e w3 ⟨A, c3, rfl, hc3, s3, x3⟩
  have FO : FontOf (writeB D) := ⟨D, hck, rfl⟩
  obtain ⟨L, hL⟩ : ∃ L, L = writeB D := ⟨_, rfl⟩
  rw [← hL] at s3 hc3 FO ⊢
  have hLe : L.length ≤ 10000 := by rw [hL]; exact few_len hfew
  have h32 : 32 ≤ L.length := (heads_of FO).1
  have hlen := len_of FO
  rw [half_get (l := L) (j := 0) (by omega)] at hlen
  obtain ⟨ad, rfl, hb, g0⟩ := s3.get (k := 0) (by omega)
  obtain ⟨ad', e', _, g1⟩ := s3.get (k := 1) (by omega)
  obtain rfl : ad = ad' := by simpa using e'
  have u0 : (L[0]'(by omega)).toNat < 256 := by have := (L[0]'(by omega)).toNat_lt; omega
  have u1 : (L[1]'(by omega)).toNat < 256 := by have := (L[1]'(by omega)).toNat_lt; omega
  obtain ⟨b0, hb0⟩ : ∃ b : Int, b = ((L[0]'(by omega)).toNat : Int) := ⟨_, rfl⟩
  obtain ⟨b1, hb1⟩ : ∃ b : Int, b = ((L[1]'(by omega)).toNat : Int) := ⟨_, rfl⟩
  have hlen : 4 * (256 * b0 + b1) = (L.length : Int) := by rw [hb0, hb1]; exact hlen
  have v0 : 0 ≤ b0 ∧ b0 ≤ 255 := by omega
  have v1 : 0 ≤ b1 ∧ b1 ≤ 255 := by omega
  rw [← hb0, addr_zero] at g0
  rw [← hb1] at g1
  clear hb0 hb1 u0 u1 hL hck hfew e' OK SN k2
  obtain ⟨m, hm⟩ : ∃ m, m = L.length := ⟨_, rfl⟩
  rw [← hm] at hc3 h32 hlen hLe ⊢
  obtain ⟨k, hk, hkm⟩ : ∃ k : Nat, cut.tmod (m : Int) = (k : Int) ∧ k < m := by
    rw [Int.tmod_eq_emod_of_nonneg q0']
    have a1 := Int.emod_nonneg cut (b := (m : Int)) (by omega)
    have a2 := Int.emod_lt_of_pos cut (b := (m : Int)) (by omega)
    exact ⟨(cut % (m : Int)).toNat, by omega, by omega⟩
  have NO := Lib.hid (cut_no FO (k := k) (by omega))
  have hlk : (L.take k).length = k := by rw [List.length_take]; omega
  have RD := tread_any (some ad) (L.take k) c3 w3 (s3.take k) (by omega) (by omega)
  rw [hlk] at RD
  have RD := Lib.hid RD
  have HM := Lib.hid (And.intro hm hLe)
  have FO := Lib.hid FO
  have S3 := Lib.hid s3
  have X3 := Lib.hid (XW.trans x3)
  have H3 := Lib.hid (X2.trans x3)
  have HLEN := Lib.hid hlen
  have hm0 : ¬ (m : Int) = 0 := by omega
  have hm32 : ¬ (m : Int) < 32 := by omega
  have hm33 : 32 ≤ (m : Int) := by omega
  have hkc : k ≤ c3 := by omega
  have G0 := Lib.hid g0
  have G1 := Lib.hid g1
  clear hm hlk s3 hlen XW X2 x3 hLe g0 g1
  go_wp2_with fail
  refine RD.out.mono ?_
  clear RD
  rintro e w4 (⟨_, _, rfl, _, _, _, ck, wr⟩ | ⟨rfl, _, x4⟩)
  · exact absurd ⟨_, ck, wr⟩ NO.out
  rw [font_no]
  have X5 : Ext w3 (w4.alloc (.cells #[.int .i64 0, .int .i64 0, .int .i64 0, .slice none 0 0, .slice none 0 0, .slice none 0 0, .slice none 0 0, .slice none 0 0, .slice none 0 0, .slice none 0 0, .slice none 0 0] 26)) := x4.alloc _
  obtain ⟨v6, u6, r6, o6, _⟩ := run_putB (P := Try.prog) 29 29 5 Try.underlying29 uint8_info (OwnB.lit 5 (w4.alloc (.cells #[.int .i64 0, .int .i64 0, .int .i64 0, .slice none 0 0, .slice none 0 0, .slice none 0 0, .slice none 0 0, .slice none 0 0, .slice none 0 0, .slice none 0 0, .slice none 0 0] 26)) (w4.alloc (.cells #[.int .i64 0, .int .i64 0, .int .i64 0, .slice none 0 0, .slice none 0 0, .slice none 0 0, .slice none 0 0, .slice none 0 0, .slice none 0 0, .slice none 0 0, .slice none 0 0] 26)) [] #[] 0 rfl rfl (by simp) (Ext.refl _)) (some ad) L m c3 (S3.out.ext (X5.alloc _)) HM.out.1 (by have := HM.out; simp; omega)
  obtain ⟨v7, u7, r7, o7, _⟩ := run_putB (P := Try.prog) 29 29 5 Try.underlying29 uint8_info o6 A0 l n c (SB.out _ (H3.out.trans (X5.trans o6.2))) HN.out (by have := HM.out; have := HN.out; simp; omega)
  rw [World.size_alloc] at r6
  obtain ⟨A7, c7, rfl, hc7, s7⟩ := o7.seen
  rw [List.nil_append] at s7 hc7 r7
  have x7 : Ext w3 u7 := X5.trans o7.2
  obtain ⟨q, hq⟩ : ∃ q, q = (L ++ l).length := ⟨_, rfl⟩
  have RD := tread_any A7 _ c7 u7 s7 hc7 (by have := HM.out; have := HN.out; rw [List.length_append]; omega)
  rw [← hq] at RD r7
  have RD := Lib.hid RD
  clear o6 o7 s7 hc7 X5 x4 hq
  go_wp2_with (first | (at_builtin; refine wpList_ran rfl _ _ rfl r6 ?_) | (at_builtin; refine wpList_ran rfl _ _ rfl r7 ?_))
  refine RD.out.mono ?_
  clear RD r6 r7
  have i1 : IntKind.i64.wrap (256 * b0) = 256 * b0 := IntWalk.i64_in _ (by omega)
  have i2 : IntKind.i64.wrap (256 * b0 + b1) = 256 * b0 + b1 := IntWalk.i64_in _ (by omega)
  have i3 : IntKind.i64.wrap (m : Int) = m := IntWalk.i64_in _ (by have := HM.out; omega)
  have hlen := HLEN.out
  have j0 : 0 < m := by omega
  have j1 : 1 < m := by omega
  have j2 : (0 : Int) < (m : Int) := by omega
  have j3 : (1 : Int) < (m : Int) := by omega
  have j4 : ¬ (m : Int) ≤ 0 := by omega
  have j5 : ¬ (m : Int) ≤ 1 := by omega
  have j6 : ¬ m = 0 := by omega
  rintro e w8 (⟨D5, P5, rfl, _, _, x8, ck5, wr5⟩ | ⟨rfl, no, x8⟩)
  · obtain rfl : n = 0 := by rw [HN.out]; exact more_of FO.out ⟨D5, ck5, wr5⟩
    have x9 : Ext w3 (w8.alloc (.cells #[.int .i64 D5.sum, .int .i64 D5.design, .int .i64 D5.first, .slice P5.xc D5.nc P5.zc, .slice P5.xw D5.nw P5.zw, .slice P5.xh D5.nh P5.zh, .slice P5.xd D5.nd P5.zd, .slice P5.xi D5.ni P5.zi, .slice P5.xs D5.ns P5.zs, .slice P5.xk D5.nk P5.zk, .slice P5.xp D5.np P5.zp] 26)) := (x7.trans x8).alloc _
    have hb8 : ad.block < w8.heap.size := by have := (x7.trans x8).size; omega
    have g0 : (w8.alloc (.cells #[.int .i64 D5.sum, .int .i64 D5.design, .int .i64 D5.first, .slice P5.xc D5.nc P5.zc, .slice P5.xw D5.nw P5.zw, .slice P5.xh D5.nh P5.zh, .slice P5.xd D5.nd P5.zd, .slice P5.xi D5.ni P5.zi, .slice P5.xs D5.ns P5.zs, .slice P5.xk D5.nk P5.zk, .slice P5.xp D5.np P5.zp] 26)).cell? ad = some (.int .u8 b0) := x9.at G0.out
    have g1 : (w8.alloc (.cells #[.int .i64 D5.sum, .int .i64 D5.design, .int .i64 D5.first, .slice P5.xc D5.nc P5.zc, .slice P5.xw D5.nw P5.zw, .slice P5.xh D5.nh P5.zh, .slice P5.xd D5.nd P5.zd, .slice P5.xi D5.ni P5.zi, .slice P5.xs D5.ns P5.zs, .slice P5.xk D5.nk P5.zk, .slice P5.xp D5.np P5.zp] 26)).cell? (ad.add 1) = some (.int .u8 b1) := x9.at G1.out
    have f0 : w8.cell? ad = some (.int .u8 b0) := (x7.trans x8).at G0.out
    have f1 : w8.cell? (ad.add 1) = some (.int .u8 b1) := (x7.trans x8).at G1.out
    have f2 : w8.cell? ⟨ad.block, ad.off + 1, none⟩ = some (.int .u8 b1) := f1
    have g2 : (w8.alloc (.cells #[.int .i64 D5.sum, .int .i64 D5.design, .int .i64 D5.first, .slice P5.xc D5.nc P5.zc, .slice P5.xw D5.nw P5.zw, .slice P5.xh D5.nh P5.zh, .slice P5.xd D5.nd P5.zd, .slice P5.xi D5.ni P5.zi, .slice P5.xs D5.ns P5.zs, .slice P5.xk D5.nk P5.zk, .slice P5.xp D5.np P5.zp] 26)).cell? ⟨ad.block, ad.off + 1, none⟩ = some (.int .u8 b1) := g1
    have XE := Lib.hid (X3.out.trans x9)
    clear x7 x8 x9 ck5 wr5
    unfold fontV
    go_wp2_with fail
    go_quiet (fail)
    go_wp2_with fail
    go_ret
    exact ⟨rfl, XE.out.drewN _⟩
  · have hn2 : ¬ (n : Int) = 0 := by
      intro h
      have : l = [] := List.eq_nil_of_length_eq_zero (by have := HN.out; omega)
      rw [this, List.append_nil] at no
      exact no FO.out
    have hn3 : decide ((n : Int) = 0) = false := decide_eq_false hn2
    have hn4 : ((n : Int) == 0) = false := by simpa using hn2
    have hn5 : ¬ n = 0 := by omega
    have hn6 : (n == 0) = false := by simpa using hn5
    rw [font_no]
    have x9 : Ext w3 (w8.alloc (.cells #[.int .i64 0, .int .i64 0, .int .i64 0, .slice none 0 0, .slice none 0 0, .slice none 0 0, .slice none 0 0, .slice none 0 0, .slice none 0 0, .slice none 0 0, .slice none 0 0] 26)) := (x7.trans x8).alloc _
    have hb8 : ad.block < w8.heap.size := by have := (x7.trans x8).size; omega
    have g0 : (w8.alloc (.cells #[.int .i64 0, .int .i64 0, .int .i64 0, .slice none 0 0, .slice none 0 0, .slice none 0 0, .slice none 0 0, .slice none 0 0, .slice none 0 0, .slice none 0 0, .slice none 0 0] 26)).cell? ad = some (.int .u8 b0) := x9.at G0.out
    have g1 : (w8.alloc (.cells #[.int .i64 0, .int .i64 0, .int .i64 0, .slice none 0 0, .slice none 0 0, .slice none 0 0, .slice none 0 0, .slice none 0 0, .slice none 0 0, .slice none 0 0, .slice none 0 0] 26)).cell? (ad.add 1) = some (.int .u8 b1) := x9.at G1.out
    have f0 : w8.cell? ad = some (.int .u8 b0) := (x7.trans x8).at G0.out
    have f1 : w8.cell? (ad.add 1) = some (.int .u8 b1) := (x7.trans x8).at G1.out
    have f2 : w8.cell? ⟨ad.block, ad.off + 1, none⟩ = some (.int .u8 b1) := f1
    have g2 : (w8.alloc (.cells #[.int .i64 0, .int .i64 0, .int .i64 0, .slice none 0 0, .slice none 0 0, .slice none 0 0, .slice none 0 0, .slice none 0 0, .slice none 0 0, .slice none 0 0, .slice none 0 0] 26)).cell? ⟨ad.block, ad.off + 1, none⟩ = some (.int .u8 b1) := g1
    have XE := Lib.hid (X3.out.trans x9)
    clear x7 x8 x9 no
    go_wp2_with fail
    go_quiet (fail)
    go_wp2_with fail
    go_ret
    exact ⟨rfl, XE.out.drewN _⟩

set_option maxRecDepth 100000 in
theorem lifted (os : Os) (started : os.Started) (H : Type) (enc : TypeId × Value → H) :
    ReturnsInHanded {} Try.checked os 6 .any (Rows.tfmCutsSpec.pre6 enc Try.prog Try.f6 [] false) (Rows.tfmCutsSpec.post enc Try.prog Try.f6 false true false false) := by
  refine law_lift (C := Try.checked) own started (by kernel_rfl) Try.func6 laidOut rfl rfl Try.underlying4 (by kernel_rfl) ?_
    (ChangeSpec.witness6 (enc := enc) (C := Try.checked) false ⟨#[], #[.agg #[.int .i64 0, .int .i64 0, .int .i64 0, .slice none 0 0, .slice none 0 0, .slice none 0 0, .slice none 0 0, .slice none 0 0, .slice none 0 0, .slice none 0 0, .slice none 0 0], .int .u16 0, .slice none 0 0], []⟩ 8 (by kernel_rfl) (by kernel_rfl) (by kernel_rfl) (by kernel_rfl)) ?_
  · intro H ds h
    match ds, h with
    | [_, _, _], _ => rfl
  · intro W base args ds p hval hA hlt hwt hsh
    rw [Try.params6] at hA hval
    obtain ⟨v0, vs0, d0, ds0, p0, q0, hargs, rfl, rfl, h0, r0⟩ := trodAll_cons hA
    obtain ⟨v1, vs1, d1, ds1, p1, q1, rfl, rfl, rfl, h1, r1⟩ := trodAll_cons r0
    obtain ⟨v2, vs2, d2, ds2, p2, q2, rfl, rfl, rfl, h2, r2⟩ := trodAll_cons r1
    obtain ⟨rfl, rfl, rfl⟩ := trodAll_nil r2
    obtain rfl : args = #[v0, v1, v2] := by cases args; simp_all
    obtain ⟨D0, P0, rfl, ok0, hs0⟩ := arg_font (hval 0 26 v0 rfl rfl) h0
    obtain ⟨a1, rfl, rfl, rfl, wf1⟩ := open_int Try.underlying39 (hval 1 39 v1 rfl rfl) h1
    obtain ⟨A2, l2, c2, rfl, hc2, hm2, hs2⟩ := seen_bytes Try.underlying29 Try.underlying5 (by kernel_rfl) (hval 2 29 v2 rfl rfl) h2
    exact walk D0 P0 ok0 a1 (bounds_u16 wf1) A2 l2 c2 hc2 hm2 W hs0 hs2

theorem holds : Rows.TfmCutsSaid :=
  OpenClaim.holds_of_wide 6 Try.f6 rfl rfl rfl rfl rfl rfl rfl ⟨rfl, rfl, rfl, rfl, rfl⟩ rfl rfl rfl rfl rfl (by kernel_rfl) Try.func6 (by kernel_rfl)
    (of_decide_eq_true (by kernel_rfl)) (by unfold Func.isWrapper; first | (rw [if_pos (by decide +kernel)]; kernel_rfl) | (rw [if_neg (by decide +kernel)]; exact ⟨rfl, rfl⟩))
    (fun os started H enc _ => lifted os started H enc)
end TfmCuts
end Go.Proofs.Ytlbliidgmkipbaa

