/- Contracts of the document's answers for layer 2: a division, bit by bit; the three calls. -/
import Derived.Test.YtllajmggopgimaaRef02
import Derived.Deep.Cut
namespace Go.Proofs.Ytllajmggopgimaa
open Go.RowKit
namespace L02

/-- A number without its last j bits. -/
def bitsOff (p : Nat) (j : Nat) : Int := ((p / 2 ^ j : Nat) : Int)
theorem bitsOff_zero (p : Nat) : bitsOff p 0 = p := by simp [bitsOff]
theorem bitsOff_nonneg (p j : Nat) : 0 ≤ bitsOff p j := Int.natCast_nonneg _

theorem bit_nat (p j : Nat) : p / 65536 ^ (j / 16) % 65536 / 2 ^ (j % 16) % 2 = p / 2 ^ j % 2 := by
  have hj : j = 16 * (j / 16) + j % 16 := by omega
  have hs : j % 16 < 16 := by omega
  generalize j / 16 = q at *
  generalize j % 16 = s at *
  subst hj
  have e1 : (65536 : Nat) = 2 ^ s * (2 * 2 ^ (15 - s)) := by
    rw [← Nat.pow_succ', ← Nat.pow_add, show s + (15 - s + 1) = 16 from by omega]
  have e2 : (2 : Nat) ^ (16 * q + s) = 65536 ^ q * 2 ^ s := by rw [Nat.pow_add, Nat.pow_mul]
  rw [e2, ← Nat.div_div_eq_div_mul]
  generalize p / 65536 ^ q = x
  conv => lhs; rw [e1]
  rw [Nat.mod_mul_right_div_self, Nat.mod_mul_right_mod]

theorem bit_next (p j : Nat) : p / 2 ^ j = 2 * (p / 2 ^ (j + 1)) + p / 2 ^ j % 2 := by
  rw [Nat.pow_succ, ← Nat.div_div_eq_div_mul]; omega

theorem Eight.limb {p o0 o1 o2 o3 o4 o5 o6 o7 : Int} {P : Nat} (h : Eight p o0 o1 o2 o3 o4 o5 o6 o7) (hp : p = P) (m : Nat) (hm : m < 8) :
    (#[Value.int .i64 o0, .int .i64 o1, .int .i64 o2, .int .i64 o3, .int .i64 o4, .int .i64 o5, .int .i64 o6, .int .i64 o7] : Array Value)[m]? = some (.int .i64 ((P / 65536 ^ m % 65536 : Nat) : Int)) := by
  obtain ⟨hs, _, _, _, _, _, _, _, _⟩ := h
  have key : ∀ o : Int, o = ((P / 65536 ^ m % 65536 : Nat) : Int) → some (Value.int .i64 o) = some (.int .i64 ((P / 65536 ^ m % 65536 : Nat) : Int)) := fun o e => by rw [e]
  rcases m with _ | _ | _ | _ | _ | _ | _ | _ | m
  · exact key o0 (by simp; omega)
  · exact key o1 (by simp; omega)
  · exact key o2 (by simp only [Nat.reduceAdd, Nat.reducePow]; omega)
  · exact key o3 (by simp only [Nat.reduceAdd, Nat.reducePow]; omega)
  · exact key o4 (by simp only [Nat.reduceAdd, Nat.reducePow]; omega)
  · exact key o5 (by simp only [Nat.reduceAdd, Nat.reducePow]; omega)
  · exact key o6 (by simp only [Nat.reduceAdd, Nat.reducePow]; omega)
  · exact key o7 (by simp only [Nat.reduceAdd, Nat.reducePow]; omega)
  · omega

/-- Where the division stands behind some bits. -/
structure DivAt (T c n m : Int) (t : Bool) : Prop where
  rest : m = T % c
  quo : (t = true ∧ n = T / c) ∨ (t = false ∧ 9223372036854775808 ≤ T / c)
  n0 : 0 ≤ n
  n1 : n ≤ 9223372036854775807

theorem div_step {T c b : Int} (hc : 1 ≤ c) (hb : b = 0 ∨ b = 1) :
    (c ≤ 2 * (T % c) + b → (2 * T + b) % c = 2 * (T % c) + b - c ∧ (2 * T + b) / c = 2 * (T / c) + 1) ∧
    (¬ c ≤ 2 * (T % c) + b → (2 * T + b) % c = 2 * (T % c) + b ∧ (2 * T + b) / c = 2 * (T / c)) := by
  have h1 := Int.mul_ediv_add_emod T c
  have h2 := Int.emod_nonneg T (show c ≠ 0 by omega)
  have h3 := Int.emod_lt_of_pos T (show 0 < c by omega)
  have key : ∀ q r p : Int, 0 ≤ r → r < c → p = q * c + r → p % c = r ∧ p / c = q := by
    intro q r p h0 hr e
    rw [e]
    refine ⟨?_, ?_⟩
    · rw [Int.add_comm, Int.add_mul_emod_self_right, Int.emod_eq_of_lt h0 hr]
    · rw [Int.add_comm, Int.add_mul_ediv_right _ _ (by omega), Int.ediv_eq_zero_of_lt h0 hr, Int.zero_add]
  rw [Int.mul_comm] at h1
  constructor
  · intro h; exact key _ _ _ (by omega) (by omega) (by rw [Int.add_mul, Int.mul_assoc]; omega)
  · intro h; exact key _ _ _ (by omega) (by omega) (by rw [Int.mul_assoc]; omega)

theorem DivAt.go {T T' c n m b : Int} {t : Bool} (h : DivAt T c n m t) (hc : 1 ≤ c) (hb : b = 0 ∨ b = 1) (hT : T' = 2 * T + b) {n' m' : Int} {t' : Bool}
    (ht : (4611686018427387904 ≤ n ∧ t' = false ∧ n' = (if c ≤ 2 * m + b then 1 else 0)) ∨ (n < 4611686018427387904 ∧ t' = t ∧ n' = 2 * n + (if c ≤ 2 * m + b then 1 else 0)))
    (hm : m' = if c ≤ 2 * m + b then 2 * m + b - c else 2 * m + b) : DivAt T' c n' m' t' := by
  have hs := div_step (T := T) hc hb
  rw [← h.rest, ← hT] at hs
  have h0 := h.n0
  by_cases k : c ≤ 2 * m + b
  · simp only [if_pos k] at ht hm
    obtain ⟨e1, e2⟩ := hs.1 k
    refine ⟨by omega, ?_, by omega, by omega⟩
    rcases ht with ⟨k1, k2, _⟩ | ⟨k1, k2, k3⟩
    · refine .inr ⟨k2, ?_⟩
      rcases h.quo with ⟨_, q⟩ | ⟨_, q⟩ <;> omega
    · rcases h.quo with ⟨q1, q⟩ | ⟨q1, q⟩
      · exact .inl ⟨k2.trans q1, by omega⟩
      · exact .inr ⟨k2.trans q1, by omega⟩
  · simp only [if_neg k] at ht hm
    obtain ⟨e1, e2⟩ := hs.2 k
    refine ⟨by omega, ?_, by omega, by omega⟩
    rcases ht with ⟨k1, k2, _⟩ | ⟨k1, k2, k3⟩
    · refine .inr ⟨k2, ?_⟩
      rcases h.quo with ⟨_, q⟩ | ⟨_, q⟩ <;> omega
    · rcases h.quo with ⟨q1, q⟩ | ⟨q1, q⟩
      · exact .inl ⟨k2.trans q1, by omega⟩
      · exact .inr ⟨k2.trans q1, by omega⟩

def DivRet (p c : Int) (w : World) (e : Ending) (w' : World) : Prop :=
  ∃ (n m : Int) (t : Bool), DivAt p c n m t ∧ e = .returned (.tuple #[.int .i64 n, .int .i64 m, .bool t]) ∧ Ext w w'

theorem divide_ref (p c o0 o1 o2 o3 o4 o5 o6 o7 : Int) (h8 : Eight p o0 o1 o2 o3 o4 o5 o6 o7) (hp : 0 ≤ p) (hp' : p < 340282366920938463463374607431768211456) (hc : 1 ≤ c) (hc' : c ≤ 4611686018427387903) (w : World) :
    Calls Try.prog 25 #[.agg #[.int .i64 o0, .int .i64 o1, .int .i64 o2, .int .i64 o3, .int .i64 o4, .int .i64 o5, .int .i64 o6, .int .i64 o7], .int .i64 c] w (DivRet p c w) := by
  obtain ⟨P, hP⟩ := Int.eq_ofNat_of_zero_le hp
  have H8 := Lib.hid h8
  have HP := Lib.hid hP
  have HS : Hid (bitsOff P 128 = 0) := by
    refine Lib.hid ?_
    unfold bitsOff
    rw [Nat.div_eq_of_lt (by omega)]; rfl
  clear h8 hP
  go_enter Try.func25, Try.ntmps25
  go_wp2_with fail
  generalize hW : w.alloc (.cells #[.int .i64 o0, .int .i64 o1, .int .i64 o2, .int .i64 o3, .int .i64 o4, .int .i64 o5, .int .i64 o6, .int .i64 o7] 47) = wa
  have HW := Lib.hid hW
  clear hW hp hp'
  go_loop [7, 8, 9, 10] (fun q r ok i => ∃ (k : Nat) (n m : Int) (t : Bool), k ≤ 128 ∧ i = .int .i64 ((k : Int) - 1) ∧ q = .int .i64 n ∧ r = .int .i64 m ∧ ok = .bool t ∧ DivAt (bitsOff P k) c n m t) (fun _ _ _ i => (intOf i + 1).toNat)
  case atStart => exact ⟨128, 0, 0, true, by omega, rfl, rfl, rfl, rfl, ⟨by rw [HS.out]; simp, .inl ⟨rfl, by rw [HS.out]; simp⟩, by omega, by omega⟩⟩
  case round =>
    obtain ⟨k, n, m, t, hk, rfl, rfl, rfl, rfl, hat⟩ := hrel
    have h1 := hat.n0
    have h2 := hat.n1
    have h3 : 0 ≤ m := by rw [hat.rest]; exact Int.emod_nonneg _ (by omega)
    have h4 : m < c := by rw [hat.rest]; exact Int.emod_lt_of_pos _ (by omega)
    have HA := Lib.hid hat
    clear hat
    rcases Nat.eq_zero_or_pos k with rfl | hk0
    · go_wp2_with fail
      go_ret3
      exact ⟨n, m, t, by rw [HP.out, ← bitsOff_zero]; exact HA.out, rfl, by rw [← HW.out]; exact (Ext.refl _).alloc _⟩
    · obtain ⟨j, rfl⟩ : ∃ j, k = j + 1 := ⟨k - 1, by omega⟩
      have hj : ((j + 1 : Nat) : Int) - 1 = j := by omega
      rw [hj]
      clear hj
      have hD : wa.cell? ⟨w.heap.size, j / 16, none⟩ = some (.int .i64 ((P / 65536 ^ (j / 16) % 65536 : Nat) : Int)) := by
        rw [← HW.out, World.cell?_alloc_new]
        exact H8.out.limb HP.out (j / 16) (by omega)
      have hbit : ((((P / 65536 ^ (j / 16) % 65536 : Nat) : Int)) / 2 ^ (j % 16)).tmod 2 = ((P / 2 ^ j % 2 : Nat) : Int) := by
        rw [← bit_nat]
        have : (((P / 65536 ^ (j / 16) % 65536 : Nat) : Int)) / 2 ^ (j % 16) = ((P / 65536 ^ (j / 16) % 65536 / 2 ^ (j % 16) : Nat) : Int) := by simp
        rw [this]
        generalize P / 65536 ^ (j / 16) % 65536 / 2 ^ (j % 16) = z
        rw [Int.tmod_eq_emod_of_nonneg (by omega)]; omega
      have hT : bitsOff P j = 2 * bitsOff P (j + 1) + ((P / 2 ^ j % 2 : Nat) : Int) := by
        have := bit_next P j
        unfold bitsOff
        omega
      have hb : ((P / 2 ^ j % 2 : Nat) : Int) = 0 ∨ ((P / 2 ^ j % 2 : Nat) : Int) = 1 := by omega
      have hD1 : ((P / 65536 ^ (j / 16) % 65536 : Nat) : Int) ≤ 65535 := by omega
      have hD0 : 0 ≤ ((P / 65536 ^ (j / 16) % 65536 : Nat) : Int) := by omega
      generalize ((P / 65536 ^ (j / 16) % 65536 : Nat) : Int) = D at *
      generalize ((P / 2 ^ j % 2 : Nat) : Int) = b at *
      have HT := Lib.hid hT
      have HBit := Lib.hid hbit
      clear hT hbit
      go_upto_region 8 with (fail)
      simp only [HBit.out]
      have hb0 : 0 ≤ b := by omega
      have hb1 : b ≤ 1 := by omega
      have HB := Lib.hid hb
      clear hb
      by_cases c1 : 4611686018427387904 ≤ n <;> by_cases c2 : c ≤ 2 * m + b
      all_goals
        go_wp2_with fail
        go_round
        case rel =>
          refine ⟨j, _, _, _, by omega, rfl, rfl, rfl, rfl, HA.out.go hc HB.out HT.out ?_ ?_⟩
          · first
              | exact .inl ⟨c1, rfl, by simp [c2]⟩
              | exact .inr ⟨by omega, rfl, by simp [c2]⟩
          · simp [c2]
        case measure => simp only [intOf]; omega
end L02
end Go.Proofs.Ytllajmggopgimaa

