/- Layer 10, plain: a word's runes, and what the landed program reads of them. -/
import Derived.Test.YtbiklbomacjihaaDoorLiang10
import Derived.Laws.RangeAny
namespace Go.Proofs.YtbiklbomacjihaaDoor
namespace L10

theorem get_list (s : ByteArray) (k : Nat) (h : k < s.size) : s.get! k = s.data.toList.getD k 0 := by
  have h' : k < s.data.toList.length := by simpa using h
  rw [List.getD, List.getElem?_eq_getElem h']
  simp [ByteArray.get!, getElem!_pos, h]
theorem list_len (s : ByteArray) : s.data.toList.length = s.size := by simp
/-- A rune that is no ASCII byte is made of none. -/
theorem decode_wide (s : ByteArray) (pos : Nat) (h : pos < s.size) (h1 : 128 ≤ (s.get! pos).toNat) :
    128 ≤ (Utf8.decode s pos).1 ∧ 1 ≤ (Utf8.decode s pos).2 ∧ pos + (Utf8.decode s pos).2 ≤ s.size ∧ ∀ k, k < (Utf8.decode s pos).2 → 128 ≤ (s.get! (pos + k)).toNat := by
  have e0 : s.get! (pos + 0) = s.get! pos := rfl
  have cont : ∀ k, (decide (pos + k < s.size) && (s.get! (pos + k)).toNat / 64 == 2) = true → pos + k < s.size ∧ 128 ≤ (s.get! (pos + k)).toNat := fun k hk => by
    simp only [Bool.and_eq_true, decide_eq_true_eq, beq_iff_eq] at hk
    omega
  have one : ∀ k, k < 1 → 128 ≤ (s.get! (pos + k)).toNat := fun k hk => by
    obtain rfl : k = 0 := by omega
    exact h1
  have b0 := (s.get! pos).toNat_lt
  simp only [Utf8.decode, e0]
  rw [if_neg (by omega)]
  split
  · rename_i hc
    simp only [Bool.and_eq_true] at hc
    obtain ⟨c1, c2⟩ := cont 1 (by simpa using hc.2)
    split
    · refine ⟨by simpa using ‹_›, by simp, by simp; omega, fun k hk => ?_⟩
      rcases (show k = 0 ∨ k = 1 by simp at hk; omega) with rfl | rfl
      · exact h1
      · exact c2
    · exact ⟨by simp [Utf8.runeError], by simp, by simp; omega, fun k hk => one k (by simpa using hk)⟩
  · split
    · rename_i hc
      simp only [Bool.and_eq_true] at hc
      obtain ⟨c1, c2⟩ := cont 1 (by simpa using hc.1.2)
      obtain ⟨c3, c4⟩ := cont 2 (by simpa using hc.2)
      split
      · rename_i hv
        simp only [Bool.and_eq_true, decide_eq_true_eq] at hv
        refine ⟨by simp; omega, by simp, by simp; omega, fun k hk => ?_⟩
        rcases (show k = 0 ∨ k = 1 ∨ k = 2 by simp at hk; omega) with rfl | rfl | rfl
        · exact h1
        · exact c2
        · exact c4
      · exact ⟨by simp [Utf8.runeError], by simp, by simp; omega, fun k hk => one k (by simpa using hk)⟩
    · split
      · rename_i hc
        simp only [Bool.and_eq_true] at hc
        obtain ⟨c1, c2⟩ := cont 1 (by simpa using hc.1.1.2)
        obtain ⟨c3, c4⟩ := cont 2 (by simpa using hc.1.2)
        obtain ⟨c5, c6⟩ := cont 3 (by simpa using hc.2)
        split
        · rename_i hv
          simp only [Bool.and_eq_true, decide_eq_true_eq] at hv
          refine ⟨by simp; omega, by simp, by simp; omega, fun k hk => ?_⟩
          rcases (show k = 0 ∨ k = 1 ∨ k = 2 ∨ k = 3 by simp at hk; omega) with rfl | rfl | rfl | rfl
          · exact h1
          · exact c2
          · exact c4
          · exact c6
        · exact ⟨by simp [Utf8.runeError], by simp, by simp; omega, fun k hk => one k (by simpa using hk)⟩
      · exact ⟨by simp [Utf8.runeError], by simp, by simp; omega, fun k hk => one k (by simpa using hk)⟩
theorem decode_one (s : ByteArray) (pos : Nat) (h1 : (s.get! pos).toNat < 128) : Utf8.decode s pos = ((s.get! pos).toNat, 1) := by
  have e0 : s.get! (pos + 0) = s.get! pos := rfl
  simp only [Utf8.decode, e0]
  rw [if_pos h1]
theorem decode_pos (s : ByteArray) (pos : Nat) (h : pos < s.size) : 1 ≤ (Utf8.decode s pos).2 := by
  by_cases h1 : (s.get! pos).toNat < 128
  · rw [decode_one s pos h1]; exact Nat.le_refl _
  · exact (decode_wide s pos h (by omega)).2.1

/-- A text's runes from a place on. -/
def runesF (s : ByteArray) : Nat → Nat → List Nat
  | 0, _ => []
  | f + 1, pos => if pos < s.size then (Utf8.decode s pos).1 :: runesF s f (pos + (Utf8.decode s pos).2) else []
def runesL (s : ByteArray) : List Nat := runesF s s.size 0
theorem drop_cons (s : ByteArray) (pos : Nat) (h : pos < s.size) : s.data.toList.drop pos = s.get! pos :: s.data.toList.drop (pos + 1) := by
  have h' : pos < s.data.toList.length := by rw [list_len]; exact h
  rw [List.drop_eq_getElem_cons h', get_list s pos h, List.getD, List.getElem?_eq_getElem h']
  rfl
theorem runes_ascii (s : ByteArray) (ha : ∀ b ∈ s.data.toList, b.toNat < 128) : ∀ f pos, s.size ≤ pos + f → runesF s f pos = (s.data.toList.drop pos).map UInt8.toNat
  | 0, pos, h => by rw [List.drop_of_length_le (by rw [list_len]; omega)]; rfl
  | f + 1, pos, h => by
    rw [runesF]
    split
    · rename_i hp
      have hb : (s.get! pos).toNat < 128 := ha _ (by
        have := drop_cons s pos hp
        exact List.mem_of_mem_drop (i := pos) (by rw [this]; simp))
      rw [decode_one s pos hb, runes_ascii s ha f (pos + 1) (by omega), drop_cons s pos hp]
      rfl
    · rw [List.drop_of_length_le (by rw [list_len]; omega)]; rfl
theorem runesL_ascii (s : ByteArray) (ha : ∀ b ∈ s.data.toList, b.toNat < 128) : runesL s = s.data.toList.map UInt8.toNat := by
  rw [runesL, runes_ascii s ha _ _ (by omega), List.drop_zero]
def letterN (r : Nat) : Bool := decide (97 ≤ r ∧ r ≤ 122)
theorem runes_letters (s : ByteArray) : ∀ f pos, s.size ≤ pos + f → (runesF s f pos).all letterN = (s.data.toList.drop pos).all letterB
  | 0, pos, h => by rw [List.drop_of_length_le (by rw [list_len]; omega)]; rfl
  | f + 1, pos, h => by
    rw [runesF]
    split
    · rename_i hp
      rw [drop_cons s pos hp, List.all_cons, List.all_cons]
      by_cases hb : (s.get! pos).toNat < 128
      · rw [decode_one s pos hb, runes_letters s f (pos + 1) (by omega)]
        rfl
      · have := decode_wide s pos hp (by omega)
        have h1 : letterN (Utf8.decode s pos).1 = false := by
          simp only [letterN, decide_eq_false_iff_not]; omega
        have h2 : letterB (s.get! pos) = false := by
          simp only [letterB, decide_eq_false_iff_not]; omega
        rw [h1, h2]; rfl
    · rw [List.drop_of_length_le (by rw [list_len]; omega)]; rfl

/-! ### What is read of a word -/
structure RS where
  L : List UInt8
  V : List Int
  v : Int
  A : List Int
  n : Nat
def readStep (st : RS) (r : Nat) : RS :=
  if 49 ≤ r ∧ r ≤ 57 then { st with v := (r : Int) - 48 }
  else if r = 45 then { st with A := st.A ++ [(st.n : Int)] }
  else if 97 ≤ r ∧ r ≤ 122 then ⟨st.L ++ [UInt8.ofNat r], st.V ++ [st.v], 0, st.A, st.n + 1⟩
  else if r = 46 then ⟨st.L ++ [46], st.V ++ [st.v], 0, st.A, st.n⟩
  else st
def readR (rs : List Nat) (st : RS) : RS := rs.foldl readStep st
def readL (s : ByteArray) : RS := readR (runesL s) ⟨[], [], 0, [], 0⟩
def RS.pat (st : RS) : TN := (st.L, st.V ++ [st.v])
def RS.exc (st : RS) : TN := (st.L, st.A)
theorem read_pat : ∀ (w : List UInt8) (st : RS) (p : TN), asPatGo w st.v = some p → (∀ b ∈ p.1, letterB b = true ∨ b = 46) → (readR (w.map UInt8.toNat) st).pat = (st.L ++ p.1, st.V ++ p.2)
  | [], st, p, h, _ => by
    simp only [asPatGo, Option.some.injEq] at h
    subst h
    simp [readR, RS.pat]
  | b :: r, st, p, h, hp => by
    simp only [asPatGo] at h
    rw [List.map_cons, readR, List.foldl_cons]
    split at h
    · rename_i hb
      split at h
      · cases h
      · have e : readStep st b.toNat = { st with v := (b.toNat : Int) - 48 } := by rw [readStep, if_pos hb]
        rw [e]
        exact read_pat r { st with v := (b.toNat : Int) - 48 } p h hp
    · rename_i hb
      cases hr : asPatGo r 0 with
      | none => rw [hr] at h; cases h
      | some q =>
        rw [hr] at h
        simp only [Option.map_some, Option.some.injEq] at h
        subst h
        have hq : ∀ c ∈ q.1, letterB c = true ∨ c = 46 := fun c hc => hp c (by simp [hc])
        rcases hp b (by simp) with h1 | h1
        · have hl := letter_lt h1
          have e : readStep st b.toNat = ⟨st.L ++ [b], st.V ++ [st.v], 0, st.A, st.n + 1⟩ := by
            rw [readStep, if_neg hb, if_neg (by omega), if_pos hl, UInt8.ofNat_toNat]
          rw [e]
          have := read_pat r ⟨st.L ++ [b], st.V ++ [st.v], 0, st.A, st.n + 1⟩ q hr hq
          rw [readR] at this
          rw [this]
          simp
        · subst h1
          have e : readStep st (46 : UInt8).toNat = ⟨st.L ++ [46], st.V ++ [st.v], 0, st.A, st.n⟩ := by
            rw [readStep, if_neg hb, if_neg (by decide), if_neg (by decide), if_pos (by decide)]
          rw [e]
          have := read_pat r ⟨st.L ++ [46], st.V ++ [st.v], 0, st.A, st.n⟩ q hr hq
          rw [readR] at this
          rw [this]
          simp
theorem read_exc : ∀ (w : List UInt8) (st : RS), (∀ b ∈ (asExcGo w st.n).1, letterB b = true) → (readR (w.map UInt8.toNat) st).exc = (st.L ++ (asExcGo w st.n).1, st.A ++ (asExcGo w st.n).2)
  | [], st, _ => by simp [readR, RS.exc, asExcGo]
  | b :: r, st, hp => by
    rw [List.map_cons, readR, List.foldl_cons]
    by_cases hb : b = 45
    · subst hb
      have ea : asExcGo (45 :: r) st.n = ((asExcGo r st.n).1, (st.n : Int) :: (asExcGo r st.n).2) := by rw [asExcGo, if_pos rfl]
      rw [ea] at hp ⊢
      have e : readStep st (45 : UInt8).toNat = { st with A := st.A ++ [(st.n : Int)] } := by
        rw [readStep, if_neg (by decide), if_pos (by decide)]
      rw [e]
      have := read_exc r { st with A := st.A ++ [(st.n : Int)] } hp
      rw [readR] at this
      rw [this]
      simp
    · have ea : asExcGo (b :: r) st.n = (b :: (asExcGo r (st.n + 1)).1, (asExcGo r (st.n + 1)).2) := by rw [asExcGo, if_neg hb]
      rw [ea] at hp ⊢
      have hl := letter_lt (hp b (by simp))
      have e : readStep st b.toNat = ⟨st.L ++ [b], st.V ++ [st.v], 0, st.A, st.n + 1⟩ := by
        rw [readStep, if_neg (by omega), if_neg (by omega), if_pos hl, UInt8.ofNat_toNat]
      rw [e]
      have := read_exc r ⟨st.L ++ [b], st.V ++ [st.v], 0, st.A, st.n + 1⟩ (fun c hc => hp c (by simp [hc]))
      rw [readR] at this
      rw [this]
      simp
theorem digit_ascii {v : Int} (h : 0 ≤ v ∧ v ≤ 9) : ∀ b ∈ digitL v, b.toNat < 128 := fun b hb => by
  unfold digitL at hb
  split at hb
  · simp at hb
  · rename_i h0
    have := digit_nat h h0
    simp only [List.mem_singleton] at hb
    rw [hb, this]; omega
theorem wordTo_ascii {p : TN} (h : patB p = true) : ∀ k, k ≤ p.1.length + 1 → ∀ b ∈ wordTo p k, b.toNat < 128
  | 0, _, b, hb => by simp [wordTo] at hb
  | k + 1, hk, b, hb => by
    obtain ⟨h1, h2⟩ := pat_vals h
    rw [wordTo] at hb
    rcases List.mem_append.1 hb with hb | hb
    · exact wordTo_ascii h k (by omega) b hb
    · rcases List.mem_append.1 hb with hb | hb
      · refine digit_ascii (h2 _ ?_) b hb
        rw [List.getD, List.getElem?_eq_getElem (show k < p.2.length by omega)]
        exact List.getElem_mem _
      · split at hb
        · rename_i hl
          simp only [List.mem_singleton] at hb
          subst hb
          rw [List.getD, List.getElem?_eq_getElem hl, Option.getD_some]
          rcases pat_bytes h _ (List.getElem_mem hl) with h3 | h3
          · have := letter_lt h3; omega
          · rw [h3]; decide
        · simp at hb
theorem digit_length (v : Int) : (digitL v).length ≤ 1 := by unfold digitL; split <;> simp
theorem wordTo_length (p : TN) : ∀ k, (wordTo p k).length ≤ 2 * k
  | 0 => by simp [wordTo]
  | k + 1 => by
    have h1 := wordTo_length p k
    have h2 := digit_length (p.2.getD k 0)
    rw [wordTo, List.length_append, List.length_append]
    split
    · simp only [List.length_cons, List.length_nil]; omega
    · simp only [List.length_nil]; omega
theorem word_ascii {p : TN} (h : patB p = true) : ∀ b ∈ wordL p, b.toNat < 128 := wordTo_ascii h _ (Nat.le_refl _)
theorem partM_mem {a : List Int} : ∀ (s : List UInt8) (n : Nat), ∀ b ∈ partM a s n, b ∈ s ∨ b = 45
  | [], _, b, h => by simp [partM] at h
  | c :: s, n, b, h => by
    rw [partM] at h
    rcases List.mem_append.1 h with h | h
    · split at h
      · exact .inr (by simpa using h)
      · simp at h
    · rcases List.mem_cons.1 h with rfl | h
      · exact .inl (by simp)
      · rcases partM_mem s (n + 1) b h with h | h
        · exact .inl (by simp [h])
        · exact .inr h
theorem part_ascii {p : TN} (h : excB p = true) : ∀ b ∈ partL p, b.toNat < 128 := fun b hb => by
  rcases partM_mem p.1 0 b hb with h1 | h1
  · have := letter_lt (plain_letters (exc_parts h).1 b h1); omega
  · rw [h1]; decide
/-- The pattern, and the exception, that the landed program takes a word for. -/
theorem land_pat (s : ByteArray) : asPat s.data.toList = if patB (readL s).pat = true ∧ wordL (readL s).pat = s.data.toList then some (readL s).pat else none := by
  split
  · rename_i h
    rw [← h.2, asPat_word h.1]
  · rename_i h
    cases hp : asPat s.data.toList with
    | none => rfl
    | some p =>
      obtain ⟨h1, h2⟩ := word_asPat hp
      exfalso
      apply h
      have ha : ∀ b ∈ s.data.toList, b.toNat < 128 := by rw [← h1]; exact word_ascii h2
      have hg : asPatGo s.data.toList 0 = some p := by
        unfold asPat at hp
        split at hp
        · split at hp
          · cases hp; assumption
          · cases hp
        · cases hp
      have e := read_pat s.data.toList ⟨[], [], 0, [], 0⟩ p hg (pat_bytes h2)
      rw [← runesL_ascii s ha] at e
      have e' : (readL s).pat = p := by rw [readL, e]; simp
      rw [e']
      exact ⟨h2, h1⟩
theorem land_exc (s : ByteArray) : asExc s.data.toList = if excB (readL s).exc = true ∧ partL (readL s).exc = s.data.toList then some (readL s).exc else none := by
  split
  · rename_i h
    rw [← h.2, asExc_part h.1]
  · rename_i h
    cases hp : asExc s.data.toList with
    | none => rfl
    | some p =>
      obtain ⟨h1, h2⟩ := part_asExc hp
      exfalso
      apply h
      have ha : ∀ b ∈ s.data.toList, b.toNat < 128 := by rw [← h1]; exact part_ascii h2
      have hg : asExcGo s.data.toList 0 = p := by
        unfold asExc at hp
        split at hp
        · cases hp; rfl
        · cases hp
      have e := read_exc s.data.toList ⟨[], [], 0, [], 0⟩ (by show ∀ b ∈ (asExcGo s.data.toList 0).1, _; rw [hg]; exact plain_letters (exc_parts h2).1)
      rw [← runesL_ascii s ha] at e
      have e' : (readL s).exc = p := by rw [readL, e]; show ([] ++ (asExcGo s.data.toList 0).1, [] ++ (asExcGo s.data.toList 0).2) = p; rw [hg]; simp
      rw [e']
      exact ⟨h2, h1⟩
end L10
end Go.Proofs.YtbiklbomacjihaaDoor

