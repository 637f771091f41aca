/- Contracts of the library's division of two words by one. -/
import Derived.Test.YtpkmpbpifbpomaaDivMath02
import Derived.Test.YtpkmpbpifbpomaaShelf
import Derived.Deep.QuietTactic
import Derived.BigQuiet
import Derived.Deep.DeepCutAuto
import Derived.Deep.CutBlock
import Derived.Lib.ItoaNum
namespace Go.Proofs.Ytpkmpbpifbpomaa
open Go.RowKit


theorem div64_zero (lo y : Nat) (hlo : lo < 18446744073709551616) (h0 : 0 < y) (hy : y < 18446744073709551616) (w : World) :
    Calls Try.prog 133 #[.int .u64 0, .int .u64 lo, .int .u64 y] w (fun e w' => e = .returned (.tuple #[.int .u64 ((lo / y : Nat) : Int), .int .u64 ((lo % y : Nat) : Int)]) ∧ ∃ n, w' = w.drewN n) := by
  have e0 : ((y : Int) == 0) = false := by simp; omega
  go_enter Try.func133, Try.ntmps133
  go_wp2_with fail
  go_quiet (fail)
  go_wp2_with fail
  go_ret2
  have hq : lo / y < 18446744073709551616 := Nat.lt_of_le_of_lt (Nat.div_le_self _ _) hlo
  exact ⟨ret_two (by rw [← Int.natCast_ediv]; exact Mul64.wrapN _ hq) (by rw [Int.natCast_emod]), nq, rfl⟩

theorem lz_any (y : Nat) (h0 : 0 < y) (hy : y < 18446744073709551616) (w : World) :
    Calls Try.prog 135 #[.int .u64 y] w (fun e w' => ∃ s : Nat, s < 64 ∧ 9223372036854775808 ≤ y * 2 ^ s ∧ y * 2 ^ s < 18446744073709551616 ∧ e = .returned (.int .i64 s) ∧ w = w') := by
  refine (Try.bits_LeadingZeros64 y w (by omega) (by omega)).mono ?_
  rintro e w' ⟨rfl, rfl⟩
  have h := Lib.bitLenAux_bounds 64 y (by omega) (by omega)
  obtain ⟨hb, h2, h3⟩ := h
  have h4 := Lib.bitLen_le y 64 (by omega) (by omega)
  change 1 ≤ Lib.bitLen y at hb
  change 2 ^ (Lib.bitLen y - 1) ≤ y at h2
  change y < 2 ^ Lib.bitLen y at h3
  show ∃ s, s < 64 ∧ _ ∧ _ ∧ Ending.returned (.int .i64 (64 - (Lib.bitLen y : Int))) = _ ∧ _
  
  generalize Lib.bitLen y = b at *
  have e1 : (2 : Nat) ^ (b - 1) * 2 ^ (64 - b) = 9223372036854775808 := by rw [← Nat.pow_add, show b - 1 + (64 - b) = 63 from by omega]
  have e2 : (2 : Nat) ^ b * 2 ^ (64 - b) = 18446744073709551616 := by rw [← Nat.pow_add, show b + (64 - b) = 64 from by omega]
  refine ⟨64 - b, by omega, ?_, ?_, ret_int (by rw [show ((64 - b : Nat) : Int) = 64 - (b : Int) from by omega]), rfl⟩
  · rw [← e1]; exact Nat.mul_le_mul_right _ h2
  · rw [← e2]; exact Nat.mul_lt_mul_of_pos_right h3 (Nat.two_pow_pos _)

theorem shifts (hi lo y s : Nat) (hs : s < 64) (h1 : hi < y) (hlo : lo < 18446744073709551616) (hs2 : y * 2 ^ s < 18446744073709551616) :
    0 < 2 ^ s ∧ hi * 2 ^ s + lo / 2 ^ (64 - s) < y * 2 ^ s ∧ IntKind.u64.wrap ((y : Int) * 2 ^ s) = ((y * 2 ^ s : Nat) : Int) ∧
      bits .or .u64 (IntKind.u64.wrap ((hi : Int) * 2 ^ s)) ((lo : Int) / 2 ^ (64 - s)) = ((hi * 2 ^ s + lo / 2 ^ (64 - s) : Nat) : Int) ∧
      IntKind.u64.wrap ((lo : Int) * 2 ^ s) = ((lo * 2 ^ s % 18446744073709551616 : Nat) : Int) := by
  have hp : 0 < 2 ^ s := Nat.two_pow_pos s
  have hq : 0 < 2 ^ (64 - s) := Nat.two_pow_pos _
  have hpq : 2 ^ s * 2 ^ (64 - s) = 18446744073709551616 := by rw [← Nat.pow_add, show s + (64 - s) = 64 from by omega]
  have hl : lo / 2 ^ (64 - s) < 2 ^ s := by rw [Nat.div_lt_iff_lt_mul hq, hpq]; exact hlo
  have hh : (hi + 1) * 2 ^ s ≤ y * 2 ^ s := Nat.mul_le_mul_right _ h1
  rw [Nat.add_mul] at hh
  have c1 : (y : Int) * 2 ^ s = ((y * 2 ^ s : Nat) : Int) := by simp
  have c2 : (hi : Int) * 2 ^ s = ((hi * 2 ^ s : Nat) : Int) := by simp
  have c3 : (lo : Int) * 2 ^ s = ((lo * 2 ^ s : Nat) : Int) := by simp
  have c4 : (lo : Int) / 2 ^ (64 - s) = ((lo / 2 ^ (64 - s) : Nat) : Int) := by simp
  refine ⟨hp, by omega, ?_, ?_, ?_⟩
  · rw [c1, Mul64.wrapN _ hs2]
  · rw [c2, c4, Mul64.wrapN _ (by omega), bits_or_u64_nat _ _ (by omega) (by omega)]
    congr 1
    rw [Nat.mul_comm, Nat.two_pow_add_eq_or_of_lt hl]
  · rw [c3, Mul64.wrapM]

set_option maxRecDepth 100000 in
theorem div64_some (hi lo y : Nat) (hlo : lo < 18446744073709551616) (h0 : 0 < hi) (h1 : hi < y) (hy : y < 18446744073709551616) (w : World) :
    Calls Try.prog 133 #[.int .u64 hi, .int .u64 lo, .int .u64 y] w (fun e w' => e = .returned (.tuple #[.int .u64 (((hi * 18446744073709551616 + lo) / y : Nat) : Int), .int .u64 (((hi * 18446744073709551616 + lo) % y : Nat) : Int)]) ∧ w = w') := by
  have e0 : ((y : Int) == 0) = false := by simp; omega
  have e1 : ((hi : Int) == 0) = false := by simp; omega
  have e2 : decide ((y : Int) ≤ hi) = false := by simp; omega
  go_enter Try.func133, Try.ntmps133
  go_wp2_with fail
  refine (lz_any _ (by omega) (by omega) _).mono ?_; rintro e w' ⟨s, hs, hs1, hs2, rfl, rfl⟩
  go_upto_region 15 with (fail)
  obtain ⟨hp1, hpL, F1, F2, F3⟩ := shifts hi lo y s hs h1 hlo hs2
  simp only [F1, F2, F3, Mul64.maskN _ hs2, Mul64.maskN _ (Nat.mod_lt (lo * 2 ^ s) (by decide)), Mul64.divN]
  have hfin := Lib.hid (DivM.scaled hi lo s hs)
  have hY : y * 2 ^ s = y * 2 ^ s / 4294967296 * 4294967296 + y * 2 ^ s % 4294967296 := by omega
  have HY := Lib.hid hY
  clear hY F1 F2 F3
  have ok : DivM.Ok ((hi * 2 ^ s + lo / 2 ^ (64 - s) : Nat) : Int) ((lo * 2 ^ s % 18446744073709551616 / 4294967296 : Nat) : Int) ((y * 2 ^ s / 4294967296 : Nat) : Int) ((y * 2 ^ s % 4294967296 : Nat) : Int) :=
    ⟨by omega, by omega, by omega, by omega, by omega, by omega, Int.natCast_nonneg _, by omega⟩
  have hY' : ((y * 2 ^ s : Nat) : Int) = ((y * 2 ^ s / 4294967296 : Nat) : Int) * 4294967296 + ((y * 2 ^ s % 4294967296 : Nat) : Int) := by omega
  have hv : ((lo * 2 ^ s % 18446744073709551616 % 4294967296 : Nat) : Int) ≤ 4294967295 := by omega
  have hv' : 0 ≤ ((lo * 2 ^ s % 18446744073709551616 % 4294967296 : Nat) : Int) := by omega
  generalize gL : ((lo * 2 ^ s % 18446744073709551616 : Nat) : Int) = L at *
  generalize gH : ((hi * 2 ^ s + lo / 2 ^ (64 - s) : Nat) : Int) = H at *
  generalize gu : ((lo * 2 ^ s % 18446744073709551616 / 4294967296 : Nat) : Int) = u at *
  generalize gv : ((lo * 2 ^ s % 18446744073709551616 % 4294967296 : Nat) : Int) = v at *
  generalize ga : ((y * 2 ^ s / 4294967296 : Nat) : Int) = a at *
  generalize gb : ((y * 2 ^ s % 4294967296 : Nat) : Int) = b at *
  generalize gY : ((y * 2 ^ s : Nat) : Int) = Y at *
  have GH := Lib.hid gH; have Gu := Lib.hid gu; have Gv := Lib.hid gv; have Ga := Lib.hid ga; have Gb := Lib.hid gb; have GY := Lib.hid gY; have HY' := Lib.hid hY'
  clear gL gH gu gv ga gb gY hY' hs1 hs2 hp1 hpL
  have ok' := ok
  obtain ⟨ha, ha', hb, hb', hu, hu', hH, hH'⟩ := ok'
  have okH := Lib.hid ok
  clear ok
  have ha0 : (a == 0) = false := by simp; omega
  have hB2 := Lib.hid okH.out.begins.2
  go_upto_block 0 with (fail)
  simp only [hB2.out]
  go_cut [15, 16] (fun q r wx => q = .int .u64 (DivM.quoD H u a b) ∧ wx = w)
  case first =>
    go_wp2_with fail
    go_loop [15, 16] (fun q r => ∃ n m : Int, DivM.At H u a b n m ∧ q = .int .u64 n ∧ r = .int .u64 m) (fun q _ => (intOf q).toNat)
    case atStart => exact ⟨_, _, okH.out.start, rfl, rfl⟩
    case round =>
      obtain ⟨n, m, hat, rfl, rfl⟩ := hrel
      have hn := hat.most
      have hn0 := hat.posq
      have hm := hat.small
      have hm0 := hat.pos
      have hAt := Lib.hid hat
      clear hat
      by_cases hc : 4294967296 ≤ n
      · go_wp2_with fail
        · go_meet
          exact ⟨congrArg _ (DivM.stop okH.out hAt.out (.inl hc) (by assumption)), rfl⟩
        · go_round
          case rel => exact ⟨_, _, DivM.At.go okH.out hAt.out (.inl hc) (by assumption), rfl, rfl⟩
          case measure => simp only [intOf]; omega
      · have hw := DivM.mul_lt (q := n) (b := b) (by omega) (by omega) (by omega) (by omega)
        generalize hgen : n * b = g at *
        have hgen' := Lib.hid hgen
        have hw1 := hw.1
        have hw2 := hw.2
        clear hw
        by_cases hd : 4294967296 * m + u < g
        · have h1n := (DivM.next okH.out hAt.out (.inr (by rw [hgen'.out]; exact hd))).1
          go_wp2_with fail
          · go_meet
            exact ⟨congrArg _ (DivM.stop okH.out hAt.out (.inr (by rw [hgen'.out]; exact hd)) (by assumption)), rfl⟩
          · go_round
            case rel => exact ⟨_, _, DivM.At.go okH.out hAt.out (.inr (by rw [hgen'.out]; exact hd)) (by assumption), rfl, rfl⟩
            case measure => simp only [intOf]; omega
        · go_wp2_with fail
          go_meet
          exact ⟨congrArg _ (DivM.done okH.out hAt.out (by rw [hgen'.out]; assumption)), rfl⟩
  case rest =>
    obtain ⟨rfl, rfl⟩ := hcut
    obtain ⟨hl1, hl2, hl3, hl4, hl5, hl6⟩ := okH.out.left
    rw [← HY'.out] at hl1 hl2
    have HL1 := Lib.hid hl1
    have HL2 := Lib.hid hl2
    clear hl1 hl2
    generalize gq1 : DivM.quoD H u a b = q1 at *
    generalize gz : DivM.remD H u a b = z at *
    clear gq1 gz
    have okZ := Lib.hid (show DivM.Ok z v a b from ⟨by omega, by omega, by omega, by omega, by omega, by omega, hl3, hl4⟩)
    go_upto_region 22 with (fail)
    simp only [HL1.out]
    have hC2 := Lib.hid okZ.out.begins.2
    go_upto_block 2 with (fail)
    simp only [hC2.out]
    go_cut [18, 16] (fun q r wx => q = .int .u64 (DivM.quoD z v a b) ∧ wx = wc)
    case first =>
      go_wp2_with fail
      go_loop [18, 16] (fun q r => ∃ n m : Int, DivM.At z v a b n m ∧ q = .int .u64 n ∧ r = .int .u64 m) (fun q _ => (intOf q).toNat)
      case atStart => exact ⟨_, _, okZ.out.start, rfl, rfl⟩
      case round =>
        obtain ⟨n, m, hat, rfl, rfl⟩ := hrel
        have hn := hat.most
        have hn0 := hat.posq
        have hm := hat.small
        have hm0 := hat.pos
        have hAt := Lib.hid hat
        clear hat
        by_cases hc : 4294967296 ≤ n
        · go_wp2_with fail
          · go_meet
            exact ⟨congrArg _ (DivM.stop okZ.out hAt.out (.inl hc) (by assumption)), rfl⟩
          · go_round
            case rel => exact ⟨_, _, DivM.At.go okZ.out hAt.out (.inl hc) (by assumption), rfl, rfl⟩
            case measure => simp only [intOf]; omega
        · have hw := DivM.mul_lt (q := n) (b := b) (by omega) (by omega) (by omega) (by omega)
          generalize hgen : n * b = g at *
          have hgen' := Lib.hid hgen
          have hw1 := hw.1
          have hw2 := hw.2
          clear hw
          by_cases hd : 4294967296 * m + v < g
          · have h1n := (DivM.next okZ.out hAt.out (.inr (by rw [hgen'.out]; exact hd))).1
            go_wp2_with fail
            · go_meet
              exact ⟨congrArg _ (DivM.stop okZ.out hAt.out (.inr (by rw [hgen'.out]; exact hd)) (by assumption)), rfl⟩
            · go_round
              case rel => exact ⟨_, _, DivM.At.go okZ.out hAt.out (.inr (by rw [hgen'.out]; exact hd)) (by assumption), rfl, rfl⟩
              case measure => simp only [intOf]; omega
          · go_wp2_with fail
            go_meet
            exact ⟨congrArg _ (DivM.done okZ.out hAt.out (by rw [hgen'.out]; assumption)), rfl⟩
    case rest =>
      obtain ⟨rfl, rfl⟩ := hcut
      obtain ⟨hr1, hr2, hr3, hr4, hr5, hr6⟩ := okZ.out.left
      rw [← HY'.out] at hr1 hr2
      have HR1 := Lib.hid hr1
      have HR2 := Lib.hid hr2
      clear hr1 hr2
      generalize gq0 : DivM.quoD z v a b = q0 at *
      generalize gr : DivM.remD z v a b = r at *
      clear gq0 gr
      have hfin' := DivM.wholeI (x := hi * 18446744073709551616 + lo) (y := y) (p := 2 ^ s) (q1 := q1) (q0 := q0) (z := z) (r := r) (Nat.two_pow_pos s) (by omega) hfin.out hl5 hr5 hl3 hr3
        (by rw [GH.out, Gu.out, GY.out]; exact HL2.out) (by rw [Gv.out, GY.out]; exact HR2.out) (by rw [GY.out, HY'.out]; exact hr4)
      have hQ := Lib.hid hfin'.1
      have hR := Lib.hid hfin'.2
      clear hfin'
      go_wp2_with fail
      go_ret2
      exact ⟨ret_two (by rw [← hQ.out]) (by rw [← hR.out, HR1.out]; simp), rfl⟩
theorem div64_any (hi lo y : Int) (hh : 0 ≤ hi) (h1 : hi < y) (hlo : 0 ≤ lo) (hlo' : lo ≤ 18446744073709551615) (hy : y ≤ 18446744073709551615) (w : World) :
    Calls Try.prog 133 #[.int .u64 hi, .int .u64 lo, .int .u64 y] w (Ret w (.tuple #[.int .u64 ((hi * 18446744073709551616 + lo) / y), .int .u64 ((hi * 18446744073709551616 + lo) % y)])) := by
  obtain ⟨h, rfl⟩ := Int.eq_ofNat_of_zero_le hh
  obtain ⟨l, rfl⟩ := Int.eq_ofNat_of_zero_le hlo
  obtain ⟨z, rfl⟩ := Int.eq_ofNat_of_zero_le (show 0 ≤ y by omega)
  have e1 : ((h : Int) * 18446744073709551616 + (l : Int)) = ((h * 18446744073709551616 + l : Nat) : Int) := by omega
  rw [e1, ← Int.natCast_ediv, ← Int.natCast_emod]
  rcases Nat.eq_zero_or_pos h with h0 | h0
  · subst h0
    refine (div64_zero l z (by omega) (by omega) (by omega) w).mono ?_
    rintro e w' ⟨rfl, n, rfl⟩
    rw [Nat.zero_mul, Nat.zero_add]
    exact ⟨rfl, (Ext.refl _).drewN n⟩
  · refine (div64_some h l z (by omega) h0 (by omega) (by omega) w).mono ?_
    rintro e w' ⟨rfl, rfl⟩
    exact ⟨rfl, Ext.refl _⟩

theorem rem64_any (hi lo y : Int) (hh : 0 ≤ hi) (h1 : 0 < y) (hi' : hi ≤ 18446744073709551615) (hlo : 0 ≤ lo) (hlo' : lo ≤ 18446744073709551615) (hy : y ≤ 18446744073709551615) (w : World) :
    Calls Try.prog 132 #[.int .u64 hi, .int .u64 lo, .int .u64 y] w (Ret w (.int .u64 ((hi * 18446744073709551616 + lo) % y))) := by
  have hm := Int.emod_lt_of_pos hi h1
  have hm0 := Int.emod_nonneg hi (show y ≠ 0 by omega)
  have e0 : (y == 0) = false := by simp; omega
  have e : (hi % y * 18446744073709551616 + lo) % y = (hi * 18446744073709551616 + lo) % y := by
    rw [Int.add_emod, Int.mul_emod, Int.emod_emod, ← Int.mul_emod, ← Int.add_emod]
  have E := Lib.hid e
  clear e
  go_enter Try.func132, Try.ntmps132
  go_wp2_with fail
  refine (div64_any _ _ _ (by omega) (by omega) (by omega) (by omega) (by omega) _).mono ?_; rintro e w1 ⟨rfl, x1⟩
  go_wp2_with fail
  go_ret
  exact ⟨ret_int E.out, x1⟩

theorem mul64_any (x y : Int) (hx : 0 ≤ x) (hx' : x ≤ 18446744073709551615) (hy : 0 ≤ y) (hy' : y ≤ 18446744073709551615) (w : World) :
    Calls Try.prog 131 #[.int .u64 x, .int .u64 y] w (fun e w' => e = .returned (.tuple #[.int .u64 (x * y / 18446744073709551616), .int .u64 (x * y % 18446744073709551616)]) ∧ w = w') := by
  obtain ⟨a, rfl⟩ := Int.eq_ofNat_of_zero_le hx
  obtain ⟨b, rfl⟩ := Int.eq_ofNat_of_zero_le hy
  refine (Try.bits_Mul64 a b (by omega) (by omega) w).mono ?_
  rintro e w' ⟨rfl, rfl⟩
  rw [← Int.natCast_mul]
  exact ⟨ret_two (by omega) (by omega), rfl⟩

end Go.Proofs.Ytpkmpbpifbpomaa

