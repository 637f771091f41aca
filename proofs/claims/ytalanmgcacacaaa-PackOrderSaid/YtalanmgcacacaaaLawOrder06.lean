/- PackOrder: bytes of one size are ordered as their numbers are: for every input. -/
import Derived.Test.YtalanmgcacacaaaAwake06
import Derived.OpenShut
namespace Go.Proofs.Ytalanmgcacacaaa
open Go.ChangeShapes Go.WideShapes Go.ChangeAt Go.RowKit Go.Deep
namespace PackOrder
open L06

theorem less_be (a b : Nat) : ∀ z, Op.bytesLess (be a z) (be b z) = decide (a % 256 ^ z < b % 256 ^ z)
  | 0 => by simp [be, Op.bytesLess, Nat.mod_one]
  | z + 1 => by
    have ih := less_be a b z
    have hp : 0 < 256 ^ z := Nat.pow_pos (by decide)
    have ha := Nat.mod_lt a hp
    have hb := Nat.mod_lt b hp
    rw [be, be, Op.bytesLess, ih, Nat.pow_succ, Nat.mod_mul, Nat.mod_mul]
    have e1 : (UInt8.ofNat (a / 256 ^ z)).toNat = a / 256 ^ z % 256 := by simp
    have e2 : (UInt8.ofNat (b / 256 ^ z)).toNat = b / 256 ^ z % 256 := by simp
    generalize UInt8.ofNat (a / 256 ^ z) = x at *
    generalize UInt8.ofNat (b / 256 ^ z) = y at *
    rw [← e1, ← e2]
    generalize a % 256 ^ z = u at *
    generalize b % 256 ^ z = v at *
    generalize 256 ^ z = p at *
    rw [Bool.eq_iff_iff]
    simp only [Bool.or_eq_true, Bool.and_eq_true, decide_eq_true_eq, beq_iff_eq, UInt8.lt_iff_toNat_lt]
    rw [← UInt8.toNat_inj]
    generalize x.toNat = x at *
    generalize y.toNat = y at *
    rcases Nat.lt_trichotomy x y with h | h | h
    · have : p * (x + 1) ≤ p * y := Nat.mul_le_mul_left p h
      rw [Nat.mul_add] at this
      constructor
      · intro _; omega
      · intro _; exact .inl h
    · subst h; simp
    · have : p * (y + 1) ≤ p * x := Nat.mul_le_mul_left p h
      rw [Nat.mul_add] at this
      constructor
      · intro h'; omega
      · intro h'; omega
theorem be_inj {a b z : Nat} (ha : a < 256 ^ z) (hb : b < 256 ^ z) : be a z = be b z ↔ a = b :=
  ⟨fun h => by rw [← num_be a z ha, ← num_be b z hb, h], fun h => by rw [h]⟩

/-- A number put behind nothing. -/
theorem putn_yes (n zi : Int) (w : World) (h1 : 1 ≤ zi) (h2 : zi ≤ 4) (hn0 : 0 ≤ n) (hn : n < 256 ^ zi.toNat) :
    Calls Try.prog 10 #[.slice none 0 0, .int .i64 n, .int .i64 zi] w
      (fun e w' => ∃ A c, e = .returned (.tuple #[.slice A zi.toNat c, .int .i64 0]) ∧ zi.toNat ≤ c ∧ SeenB w' A (be n.toNat zi.toNat) ∧ Ext w w') := by
  have T := put_yes none [] 0 zi.toNat n w SeenB.nil (by simp) (by omega) (by omega) hn0 hn
  rw [Int.toNat_of_nonneg (by omega)] at T
  refine T.mono ?_
  intro e w' h
  have := GivesB.open h
  simpa using this

theorem put_some (n zi : Int) (w : World) : Calls Try.prog 10 #[.slice none 0 0, .int .i64 n, .int .i64 zi] w (fun e w' => ∃ v : Value, ∃ x : Int, e = .returned (.tuple #[v, .int .i64 x]) ∧ Ext w w') := by
  rcases put_ways n zi with h | ⟨z, rfl, h1, h2, h3, h4⟩
  · exact (put_no none 0 0 n zi w h).mono fun e w' ⟨he, x⟩ => ⟨_, _, he, x⟩
  · exact (putn_yes n z w (by omega) (by omega) h3 (by simpa using h4)).mono fun e w' ⟨A, c, he, _, _, x⟩ => ⟨_, _, he, x⟩

set_option maxRecDepth 100000 in
set_option maxHeartbeats 2000000 in
theorem first_no (a b s zi : Int) (hs : 0 ≤ s) (hs' : s ≤ 255) (ha : 0 ≤ a) (ha' : a ≤ 4294967295) (hb : 0 ≤ b) (hb' : b ≤ 4294967295) (hz : 1 + s % 4 = zi) (w : World)
    (h1 : (zi < 1 ∨ 4 < zi) ∨ ((1 ≤ zi ∧ zi ≤ 4) ∧ (a < 0 ∨ (256 : Int) ^ zi.toNat ≤ a))) :
    Calls Try.prog 6 #[.int .u32 a, .int .u32 b, .int .u8 s] w (Ret w (.bool true)) := by
  have H1 := Lib.hid h1
  clear h1
  go_enter Try.func6, Try.ntmps6
  go_wp2_with fail
  refine (L06.awake_any _).mono ?_; rintro e w1 ⟨rfl, x1⟩
  go_wp2_with fail
  refine (put_no none 0 0 a zi _ H1.out).mono ?_; rintro e w2 ⟨rfl, x2⟩
  go_wp2_with fail
  refine (put_some b zi _).mono ?_; rintro e w3 ⟨v, x, rfl, x3⟩
  go_wp2_with fail
  go_ret
  exact ⟨rfl, (x1.trans x2).trans x3⟩

set_option maxRecDepth 100000 in
set_option maxHeartbeats 2000000 in
theorem second_no (a b s zi : Int) (hs : 0 ≤ s) (hs' : s ≤ 255) (ha : 0 ≤ a) (ha' : a ≤ 4294967295) (hb : 0 ≤ b) (hb' : b ≤ 4294967295) (hz : 1 + s % 4 = zi) (w : World)
    (h0 : a < (256 : Int) ^ zi.toNat) (h1 : (zi < 1 ∨ 4 < zi) ∨ ((1 ≤ zi ∧ zi ≤ 4) ∧ (b < 0 ∨ (256 : Int) ^ zi.toNat ≤ b))) :
    Calls Try.prog 6 #[.int .u32 a, .int .u32 b, .int .u8 s] w (Ret w (.bool true)) := by
  have H0 := Lib.hid h0
  have H1 := Lib.hid h1
  have HZ := Lib.hid hz
  clear h1 h0
  go_enter Try.func6, Try.ntmps6
  go_wp2_with fail
  refine (L06.awake_any _).mono ?_; rintro e w1 ⟨rfl, x1⟩
  go_wp2_with fail
  refine (putn_yes a zi _ (by have := HZ.out; omega) (by have := HZ.out; omega) ha H0.out).mono ?_; rintro e w2 ⟨A2, c2, rfl, _, s2, x2⟩
  go_wp2_with fail
  refine (put_no none 0 0 b zi _ H1.out).mono ?_; rintro e w3 ⟨rfl, x3⟩
  go_wp2_with fail
  go_ret
  exact ⟨rfl, (x1.trans x2).trans x3⟩

set_option maxRecDepth 100000 in
set_option maxHeartbeats 2000000 in
theorem both (a b s zi : Int) (hs : 0 ≤ s) (hs' : s ≤ 255) (ha : 0 ≤ a) (ha' : a ≤ 4294967295) (hb : 0 ≤ b) (hb' : b ≤ 4294967295) (hz : 1 + s % 4 = zi) (w : World)
    (h0 : a < (256 : Int) ^ zi.toNat) (h1 : b < (256 : Int) ^ zi.toNat) :
    Calls Try.prog 6 #[.int .u32 a, .int .u32 b, .int .u8 s] w (Ret w (.bool true)) := by
  have na : a.toNat < 256 ^ zi.toNat := by have : ((a.toNat : Nat) : Int) < ((256 ^ zi.toNat : Nat) : Int) := by simpa [Int.toNat_of_nonneg ha] using h0
                                           exact_mod_cast this
  have nb : b.toNat < 256 ^ zi.toNat := by have : ((b.toNat : Nat) : Int) < ((256 ^ zi.toNat : Nat) : Int) := by simpa [Int.toNat_of_nonneg hb] using h1
                                           exact_mod_cast this
  have L := less_be a.toNat b.toNat zi.toNat
  rw [Nat.mod_eq_of_lt na, Nat.mod_eq_of_lt nb] at L
  rw [show decide (a.toNat < b.toNat) = decide (a < b) from decide_eq_decide.2 (by omega)] at L
  have I : (be a.toNat zi.toNat = be b.toNat zi.toNat) ↔ a = b := (be_inj na nb).trans (by omega)
  have H0 := Lib.hid h0
  have H1 := Lib.hid h1
  have HZ := Lib.hid hz
  clear h1 h0 na nb
  go_enter Try.func6, Try.ntmps6
  go_wp2_with fail
  refine (L06.awake_any _).mono ?_; rintro e w1 ⟨rfl, x1⟩
  go_wp2_with fail
  refine (putn_yes a zi _ (by have := HZ.out; omega) (by have := HZ.out; omega) ha H0.out).mono ?_; rintro e w2 ⟨A2, c2, rfl, _, s2, x2⟩
  go_wp2_with fail
  refine (putn_yes b zi _ (by have := HZ.out; omega) (by have := HZ.out; omega) hb H1.out).mono ?_; rintro e w3 ⟨A3, c3, rfl, _, s3, x3⟩
  have q1 := str_of (s2.ext x3) c2 zi.toNat (be_length _ _).symm
  have q2 := str_of s3 c3 zi.toNat (be_length _ _).symm
  go_wp2_with fail
  go_ret
  refine ⟨ret_bool ?_, (x1.trans x2).trans x3⟩
  rw [beq_iff_eq, Bool.eq_iff_iff, beq_iff_eq, beq_iff_eq]
  exact I

theorem walk (a : Int) (ha : 0 ≤ a ∧ a ≤ 4294967295) (b : Int) (hb : 0 ≤ b ∧ b ≤ 4294967295) (s : Int) (hs : 0 ≤ s ∧ s ≤ 255) (w : World) :
    Calls Try.prog 6 #[.int .u32 a, .int .u32 b, .int .u8 s] w (Ret w (.bool true)) := by
  obtain ⟨zi, hz⟩ : ∃ zi, 1 + s % 4 = zi := ⟨_, rfl⟩
  rcases put_ways a zi with h | ⟨z, e, h1, h2, h3, h4⟩
  · exact first_no a b s zi hs.1 hs.2 ha.1 ha.2 hb.1 hb.2 hz w h
  · have h4' : a < (256 : Int) ^ zi.toNat := by rw [e]; simpa using h4
    rcases put_ways b zi with h | ⟨z', e', _, _, _, h8⟩
    · exact second_no a b s zi hs.1 hs.2 ha.1 ha.2 hb.1 hb.2 hz w h4' h
    · exact both a b s zi hs.1 hs.2 ha.1 ha.2 hb.1 hb.2 hz w h4' (by rw [e']; simpa using h8)

set_option maxRecDepth 100000 in
theorem lifted (os : Os) (started : os.Started) (H : Type) (enc : TypeId × Value → H) :
    ReturnsInHanded {} Try.checked os 6 .any (Rows.packOrderSpec.pre6 enc Try.prog Try.f6 [] false) (Rows.packOrderSpec.post enc Try.prog Try.f6 false true false false) := by
  refine law_lift (C := Try.checked) own started (by kernel_rfl) Try.func6 laidOut rfl rfl Try.underlying4 (by kernel_rfl) ?_
    (ChangeSpec.witness6 (enc := enc) (C := Try.checked) false ⟨#[], #[.int .u32 0, .int .u32 0, .int .u8 0], []⟩ 8 (by kernel_rfl) (by kernel_rfl) (by kernel_rfl) (by kernel_rfl)) ?_
  · intro H ds h
    match ds, h with
    | [_, _, _], _ => rfl
  · intro W base args ds p hval hA hlt hwt hsh
    rw [Try.params6] at hA hval
    obtain ⟨v0, vs0, d0, ds0, p0, q0, hargs, rfl, rfl, h0, r0⟩ := trodAll_cons hA
    obtain ⟨v1, vs1, d1, ds1, p1, q1, rfl, rfl, rfl, h1, r1⟩ := trodAll_cons r0
    obtain ⟨v2, vs2, d2, ds2, p2, q2, rfl, rfl, rfl, h2, r2⟩ := trodAll_cons r1
    obtain ⟨rfl, rfl, rfl⟩ := trodAll_nil r2
    obtain rfl : args = #[v0, v1, v2] := by cases args; simp_all
    obtain ⟨a0, rfl, rfl, rfl, wf0⟩ := open_int Try.underlying33 (hval 0 33 v0 rfl rfl) h0
    obtain ⟨a1, rfl, rfl, rfl, wf1⟩ := open_int Try.underlying33 (hval 1 33 v1 rfl rfl) h1
    obtain ⟨a2, rfl, rfl, rfl, wf2⟩ := open_int Try.underlying5 (hval 2 5 v2 rfl rfl) h2
    exact walk a0 (bounds_u32 wf0) a1 (bounds_u32 wf1) a2 (bounds_u8 wf2) W 

theorem holds : Rows.PackOrderSaid :=
  OpenClaim.holds_of_wide 6 Try.f6 rfl rfl rfl rfl rfl rfl rfl ⟨rfl, rfl, rfl, rfl, rfl⟩ rfl rfl rfl rfl rfl (by kernel_rfl) Try.func6 (by kernel_rfl)
    (of_decide_eq_true (by kernel_rfl)) (by unfold Func.isWrapper; first | (rw [if_pos (by decide +kernel)]; kernel_rfl) | (rw [if_neg (by decide +kernel)]; exact ⟨rfl, rfl⟩))
    (fun os started H enc _ => lifted os started H enc)
end PackOrder
end Go.Proofs.Ytalanmgcacacaaa

