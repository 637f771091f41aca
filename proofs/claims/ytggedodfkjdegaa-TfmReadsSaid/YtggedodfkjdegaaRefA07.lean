/- The document's answers of layer 7: which fonts may be. -/
import Derived.Test.YtggedodfkjdegaaFont07
namespace Go.Proofs.Ytggedodfkjdegaa
open Go.RowKit
namespace L07

/-- All of the first n. -/
def allB (p : Nat → Bool) : Nat → Bool
  | 0 => true
  | n + 1 => allB p n && p n
theorem allB_iff (p : Nat → Bool) : ∀ n, allB p n = true ↔ ∀ j, j < n → p j = true
  | 0 => by simp [allB]
  | n + 1 => by
    rw [allB, Bool.and_eq_true, allB_iff p n]
    constructor
    · rintro ⟨h, k⟩ j hj
      by_cases e : j = n
      · subst e; exact k
      · exact h j (by omega)
    · intro h
      exact ⟨fun j hj => h j (by omega), h n (by omega)⟩
theorem allB_no {p : Nat → Bool} {n j : Nat} (hj : j < n) (h : p j = false) : allB p n = false := by
  rw [← Bool.not_eq_true, allB_iff]
  intro k
  rw [k j hj] at h
  cases h

def inB (n m : Int) : Bool := decide (0 ≤ n ∧ n < m)
theorem in_any (n m : Int) (w : World) : Calls Try.prog 45 #[.int .i64 n, .int .i64 m] w (fun e w' => e = .returned (.bool (inB n m)) ∧ w = w') := by
  by_cases h : 0 ≤ n
  · go_enter Try.func45, Try.ntmps45
    go_wp2_with fail
    go_ret
    exact ⟨ret_bool (by simp [inB]; omega), rfl⟩
  · go_enter Try.func45, Try.ntmps45
    go_wp2_with fail
    go_ret
    exact ⟨ret_bool (by simp [inB]; omega), rfl⟩

/-- A fix. -/
def fixB (n : Int) : Bool := decide (-16777216 ≤ n ∧ n ≤ 16777215)
/-- So many fixes, the first one 0 if it is to be. -/
def fixesB (n : Nat) (f : Nat → Int) (least most : Int) (nought : Bool) : Bool :=
  decide (least ≤ n ∧ n ≤ most) && ((!nought || (decide (0 < n) && decide (f 0 = 0))) && allB (fun j => fixB (f j)) n)

theorem addr_zero (a : Addr) : a.add 0 = a := by simp [Addr.add]

set_option maxHeartbeats 1000000 in
theorem fixes_any (A : Option Addr) (n c : Nat) (f : Nat → Int) (least most : Int) (nought : Bool) (w : World) (hs : SeenF w A n f) (hc : n ≤ 9223372036854775807) :
    Calls Try.prog 46 #[.slice A n c, .int .i64 least, .int .i64 most, .bool nought] w (fun e w' => e = .returned (.bool (fixesB n f least most nought)) ∧ w = w') := by
  by_cases h1 : (n : Int) < least
  · have e : fixesB n f least most nought = false := by simp [fixesB]; omega
    rw [e]
    clear e
    go_enter Try.func46, Try.ntmps46
    go_wp2_with fail
    go_ret
    exact ⟨rfl, rfl⟩
  by_cases h2 : most < (n : Int)
  · have e : fixesB n f least most nought = false := by simp [fixesB]; omega
    rw [e]
    clear e
    go_enter Try.func46, Try.ntmps46
    go_wp2_with fail
    go_ret
    exact ⟨rfl, rfl⟩
  by_cases h3 : nought = true ∧ n = 0
  · obtain ⟨rfl, rfl⟩ := h3
    have e : fixesB 0 f least most true = false := by simp [fixesB]
    rw [e]
    clear e
    go_enter Try.func46, Try.ntmps46
    go_wp2_with fail
    go_ret
    exact ⟨rfl, rfl⟩
  by_cases h4 : nought = true ∧ f 0 ≠ 0
  · obtain ⟨rfl, h4⟩ := h4
    have hn : 0 < n := by simp at h3; omega
    obtain ⟨ad, rfl, g0⟩ := hs.get hn
    rw [addr_zero] at g0
    have e : fixesB n f least most true = false := by simp [fixesB, h4]
    rw [e]
    have hb : (f 0 == 0) = false := by simpa using h4
    have hb' : (f 0 != 0) = true := by simpa using h4
    clear e
    generalize f 0 = x at *
    go_enter Try.func46, Try.ntmps46
    go_wp2_with fail
    go_ret
    exact ⟨rfl, rfl⟩
  have e : fixesB n f least most nought = allB (fun j => fixB (f j)) n := by
    have a1 : decide (least ≤ (n : Int) ∧ (n : Int) ≤ most) = true := by simp; omega
    have a2 : (!nought || (decide (0 < n) && decide (f 0 = 0))) = true := by
      cases nought with
      | false => rfl
      | true => simp at h3 h4 ⊢; omega
    rw [fixesB, a1, a2]; simp
  rw [e]
  clear e
  have L : ∀ k, k ≤ n → (k < n → fixB (f k) = false → allB (fun j => fixB (f j)) n = false) ∧ (k < n → fixB (f k) = true → allB (fun j => fixB (f j)) k = true → allB (fun j => fixB (f j)) (k + 1) = true) := fun k _ =>
    ⟨fun h h' => allB_no h h', fun _ h h' => by rw [allB, h', h]; rfl⟩
  have HL := Lib.hid L
  clear L
  rcases (show nought = false ∨ (nought = true ∧ 0 < n ∧ f 0 = 0) from by
    cases nought with
    | false => exact .inl rfl
    | true => simp at h3 h4; exact .inr ⟨rfl, by omega, h4⟩) with rfl | ⟨rfl, hn, hf⟩
  · clear h3 h4
    go_enter Try.func46, Try.ntmps46
    go_wp2_with fail
    go_loop [9] (fun i => ∃ k : Nat, k ≤ n ∧ i = .int .i64 k ∧ Hid (allB (fun j => fixB (f j)) k = true)) (fun i => n - (intOf i).toNat)
    case atStart => exact ⟨0, by omega, rfl, rfl⟩
    case round =>
      obtain ⟨k, hk, rfl, hall⟩ := hrel
      by_cases hlt : k < n
      · have hL := HL.out k hk
        obtain ⟨ad, hA, g⟩ := hs.get hlt
        first | subst hA | (obtain rfl := Option.some.inj hA)
        cases hb : fixB (f k) with
        | true =>
          have hr : -16777216 ≤ f k ∧ f k ≤ 16777215 := by simpa [fixB] using hb
          obtain ⟨r1, r2⟩ := hr
          have HN := Lib.hid (hL.2 hlt hb hall.out)
          clear hb hL
          generalize f k = x at *
          go_wp2_with fail
          go_round
          case rel => exact ⟨k + 1, by omega, by go_num, HN.out⟩
          case measure => simp [intOf]; omega
        | false =>
          have hr : f k < -16777216 ∨ 16777215 < f k := by simp [fixB] at hb; omega
          have HN := Lib.hid (hL.1 hlt hb)
          clear hb hL
          generalize f k = x at *
          rcases hr with hr | hr
          · go_wp2_with fail
            go_ret
            exact ⟨ret_bool HN.out.symm, rfl⟩
          · have hr' : ¬ x < -16777216 := by omega
            go_wp2_with fail
            go_ret
            exact ⟨ret_bool HN.out.symm, rfl⟩
      · obtain rfl : k = n := by omega
        go_wp2_with fail
        go_ret
        exact ⟨ret_bool hall.out.symm, rfl⟩
  · obtain ⟨ad0, rfl, g0⟩ := hs.get hn
    rw [addr_zero, hf] at g0
    clear h3 h4 hf
    have hn0 : ¬ n = 0 := by omega
    go_enter Try.func46, Try.ntmps46
    go_wp2_with fail
    clear g0
    go_loop [9] (fun i => ∃ k : Nat, k ≤ n ∧ i = .int .i64 k ∧ Hid (allB (fun j => fixB (f j)) k = true)) (fun i => n - (intOf i).toNat)
    case atStart => exact ⟨0, by omega, rfl, rfl⟩
    case round =>
      obtain ⟨k, hk, rfl, hall⟩ := hrel
      by_cases hlt : k < n
      · have hL := HL.out k hk
        obtain ⟨ad, hA, g⟩ := hs.get hlt
        first | subst hA | (obtain rfl := Option.some.inj hA)
        cases hb : fixB (f k) with
        | true =>
          have hr : -16777216 ≤ f k ∧ f k ≤ 16777215 := by simpa [fixB] using hb
          obtain ⟨r1, r2⟩ := hr
          have HN := Lib.hid (hL.2 hlt hb hall.out)
          clear hb hL
          generalize f k = x at *
          go_wp2_with fail
          go_round
          case rel => exact ⟨k + 1, by omega, by go_num, HN.out⟩
          case measure => simp [intOf]; omega
        | false =>
          have hr : f k < -16777216 ∨ 16777215 < f k := by simp [fixB] at hb; omega
          have HN := Lib.hid (hL.1 hlt hb)
          clear hb hL
          generalize f k = x at *
          rcases hr with hr | hr
          · go_wp2_with fail
            go_ret
            exact ⟨ret_bool HN.out.symm, rfl⟩
          · have hr' : ¬ x < -16777216 := by omega
            go_wp2_with fail
            go_ret
            exact ⟨ret_bool HN.out.symm, rfl⟩
      · obtain rfl : k = n := by omega
        go_wp2_with fail
        go_ret
        exact ⟨ret_bool hall.out.symm, rfl⟩
end L07
end Go.Proofs.Ytggedodfkjdegaa

