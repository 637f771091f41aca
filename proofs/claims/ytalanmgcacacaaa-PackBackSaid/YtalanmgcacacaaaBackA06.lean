/- PackBack, where bytes are too few. -/
import Derived.Test.YtalanmgcacacaaaBackKit06
namespace Go.Proofs.Ytalanmgcacacaaa
open Go.ChangeShapes Go.WideShapes Go.ChangeAt Go.RowKit Go.Deep
namespace PackBack
open L06

set_option maxRecDepth 100000 in
set_option maxHeartbeats 4000001 in
theorem yes_no (a s zi k : Int) (A : Option Addr) (l : List UInt8) (c : Nat) (hn : l.length ≤ 1000) (_ : l.length ≤ c) (ha : 0 ≤ a) (ha' : a ≤ 4294967295) (hs : 0 ≤ s) (hs' : s ≤ 255) (hz : 1 + s % 4 = zi) (hk : wrap64 (wrap32 a) = k) (k1 : -2147483648 ≤ k) (k2 : k < 2147483648) (w : World) (hl : SeenB w A l)
    (h1 : a < (256 : Int) ^ zi.toNat) (h2 : (l.length : Int) < zi) :
    Calls Try.prog 5 #[.int .u32 a, .int .u8 s, .slice A l.length c] w (Ret w (.bool true)) := by
  have hln : ¬ (1000 < (l.length : Int)) := by omega
  have H1 := Lib.hid h1
  have z1 : 1 ≤ zi := by omega
  have z2 : zi ≤ 4 := by omega
  have hzz : ((zi.toNat : Nat) : Int) = zi := by omega
  have HZ := Lib.hid hzz
  have z3 : zi.toNat ≤ 4 := by omega
  clear h1 hzz
  go_enter Try.func5, Try.ntmps5
  go_wp2_with fail
  refine (L06.awake_any _).mono ?_; rintro e w1 ⟨rfl, x1⟩
  go_wp2_with fail
  refine (putn_yes a zi _ z1 z2 ha H1.out).mono ?_; rintro e w2 ⟨A2, c2, rfl, hc2, s2, x2⟩
  have X2 := x1.trans x2
  obtain ⟨v1, u1, A3, c3, u2, r1, r2, hc3, s3, xx1, xx2⟩ := run_join w2 A2 A zi.toNat l.length c2 c _ l s2 (hl.ext X2) (be_length _ _).symm rfl (by rw [be_length]; omega)
  have hzz := HZ.out
  go_wp2_with (first | (at_builtin; refine wpList_ran rfl _ _ rfl r1 ?_) | (at_builtin; refine wpList_ran rfl _ _ rfl r2 ?_))
  refine (take_back a zi A3 _ c3 l u2 z1 z2 ha H1.out s3 rfl hc3 hn).mono ?_; rintro e w3 ⟨A4, c4, rfl, s4, x4⟩
  have X3 := (X2.trans xx2).trans x4
  have q1 := str_of s4 c4 l.length rfl
  have q2 := str_of (hl.ext X3) c l.length rfl
  clear r1 r2 s3 s2 x1 x2 x4 xx1 xx2
  go_wp2_with fail
  clear q1 q2 s4 hzz
  refine (putfixn k _ k1 k2).mono ?_; rintro e w5 ⟨A5, c5, rfl, hc5, s5, x5⟩
  have X5 := X3.trans x5
  obtain ⟨v5, u5, A6, c6, u6, r5, r6, hc6, s6, xx5, xx6⟩ := run_join w5 A5 A 4 l.length c5 c _ l s5 (hl.ext X5) (be_length _ _).symm rfl (by rw [be_length]; omega)
  go_wp2_with (first | (at_builtin; refine wpList_ran rfl _ _ rfl r5 ?_) | (at_builtin; refine wpList_ran rfl _ _ rfl r6 ?_))
  refine (fix_back k A6 _ c6 l u6 k1 k2 s6 rfl hc6 hn).mono ?_; rintro e w7 ⟨A7, c7, rfl, s7, x7⟩
  have X7 := (X5.trans xx6).trans x7
  clear r5 r6 s6 s5 x5 x7 xx5 xx6 X5 X3
  go_wp2_with fail
  refine (take_no A l.length c zi _ (.inr ⟨⟨z1, z2⟩, h2⟩)).mono ?_; rintro e w8 ⟨rfl, x8⟩
  have X8 := X7.trans x8
  have s7 := s7.ext x8
  go_wp2_with fail
  refine (putn_yes 0 zi _ z1 z2 (by omega) (Int.pow_pos (by decide))).mono ?_; rintro e w9 ⟨A9, c9, rfl, hc9, s9, x9⟩
  have X9 := X8.trans x9
  have s7 := s7.ext x9
  have q1 := str_drew s7 c7 l.length rfl
  have q2 := str_drew (hl.ext X9) c l.length rfl
  go_wp2_with fail
  go_quiet (fail)
  go_wp2_with fail
  go_ret
  exact ⟨ret_bool (by simp; omega), X9.drewN _⟩

set_option maxRecDepth 100000 in
set_option maxHeartbeats 4000001 in
theorem no_no (a s zi k : Int) (A : Option Addr) (l : List UInt8) (c : Nat) (hn : l.length ≤ 1000) (_ : l.length ≤ c) (ha : 0 ≤ a) (ha' : a ≤ 4294967295) (hs : 0 ≤ s) (hs' : s ≤ 255) (hz : 1 + s % 4 = zi) (hk : wrap64 (wrap32 a) = k) (k1 : -2147483648 ≤ k) (k2 : k < 2147483648) (w : World) (hl : SeenB w A l)
    (h1 : (256 : Int) ^ zi.toNat ≤ a) (h2 : (l.length : Int) < zi) :
    Calls Try.prog 5 #[.int .u32 a, .int .u8 s, .slice A l.length c] w (Ret w (.bool true)) := by
  have hln : ¬ (1000 < (l.length : Int)) := by omega
  have H1 := Lib.hid h1
  have z1 : 1 ≤ zi := by omega
  have z2 : zi ≤ 4 := by omega
  have hzz : ((zi.toNat : Nat) : Int) = zi := by omega
  have HZ := Lib.hid hzz
  have z3 : zi.toNat ≤ 4 := by omega
  clear h1 hzz
  go_enter Try.func5, Try.ntmps5
  go_wp2_with fail
  refine (L06.awake_any _).mono ?_; rintro e w1 ⟨rfl, x1⟩
  go_wp2_with fail
  refine (put_no none 0 0 a zi _ (.inr ⟨⟨z1, z2⟩, .inr H1.out⟩)).mono ?_; rintro e w3 ⟨rfl, x2⟩
  have X3 := x1.trans x2
  clear x1 x2
  go_wp2_with fail
  refine (putfixn k _ k1 k2).mono ?_; rintro e w5 ⟨A5, c5, rfl, hc5, s5, x5⟩
  have X5 := X3.trans x5
  obtain ⟨v5, u5, A6, c6, u6, r5, r6, hc6, s6, xx5, xx6⟩ := run_join w5 A5 A 4 l.length c5 c _ l s5 (hl.ext X5) (be_length _ _).symm rfl (by rw [be_length]; omega)
  go_wp2_with (first | (at_builtin; refine wpList_ran rfl _ _ rfl r5 ?_) | (at_builtin; refine wpList_ran rfl _ _ rfl r6 ?_))
  refine (fix_back k A6 _ c6 l u6 k1 k2 s6 rfl hc6 hn).mono ?_; rintro e w7 ⟨A7, c7, rfl, s7, x7⟩
  have X7 := (X5.trans xx6).trans x7
  clear r5 r6 s6 s5 x5 x7 xx5 xx6 X5 X3
  go_wp2_with fail
  refine (take_no A l.length c zi _ (.inr ⟨⟨z1, z2⟩, h2⟩)).mono ?_; rintro e w8 ⟨rfl, x8⟩
  have X8 := X7.trans x8
  have s7 := s7.ext x8
  go_wp2_with fail
  refine (putn_yes 0 zi _ z1 z2 (by omega) (Int.pow_pos (by decide))).mono ?_; rintro e w9 ⟨A9, c9, rfl, hc9, s9, x9⟩
  have X9 := X8.trans x9
  have s7 := s7.ext x9
  have q1 := str_drew s7 c7 l.length rfl
  have q2 := str_drew (hl.ext X9) c l.length rfl
  go_wp2_with fail
  go_quiet (fail)
  go_wp2_with fail
  go_ret
  exact ⟨ret_bool (by simp; omega), X9.drewN _⟩

end PackBack
end Go.Proofs.Ytalanmgcacacaaa

