/- A seat without tables: no door is wanted. Layer 10, plain: a word's runes, and what the landed program reads of them. The landed letter, gap, lettersMayBe of layer 10. The landed patternMayBe, exceptionMayBe of layer 10. The landed exceptionMayBe, patternWord, exceptionWord of layer 10. The landed exceptionWord of layer 10. The landed exceptionWord of layer 10: its walk. The landed Check, and Write, of layer 10. -/
import Derived.Test.YtmmgmcfhlhghoaaGreatDoorGA16
import Derived.Test.YtmmgmcfhlhghoaaGreatDoorShelf
import Derived.Deep.LoopGhost
import Derived.Test.YtmmgmcfhlhghoaaGreatDoorGB16
import Derived.Laws.RangeAny
import Derived.Lib.OthersKept
import Derived.Deep.Cut
import Derived.Lib.AppendStr
import Derived.Laws.DeepStrings4
namespace Go.Proofs.YtmmgmcfhlhghoaaGreatDoor
end Go.Proofs.YtmmgmcfhlhghoaaGreatDoor

namespace Go.Proofs.YtmmgmcfhlhghoaaGreatDoor
namespace L10

theorem get_list (s : ByteArray) (k : Nat) (h : k < s.size) : s.get! k = s.data.toList.getD k 0 := by
  have h' : k < s.data.toList.length := by simpa using h
  rw [List.getD, List.getElem?_eq_getElem h']
  simp [ByteArray.get!, getElem!_pos, h]
theorem list_len (s : ByteArray) : s.data.toList.length = s.size := by simp
/-- A rune that is no ASCII byte is made of none. -/
theorem decode_wide (s : ByteArray) (pos : Nat) (h : pos < s.size) (h1 : 128 ≤ (s.get! pos).toNat) :
    128 ≤ (Utf8.decode s pos).1 ∧ 1 ≤ (Utf8.decode s pos).2 ∧ pos + (Utf8.decode s pos).2 ≤ s.size ∧ ∀ k, k < (Utf8.decode s pos).2 → 128 ≤ (s.get! (pos + k)).toNat := by
  have e0 : s.get! (pos + 0) = s.get! pos := rfl
  have cont : ∀ k, (decide (pos + k < s.size) && (s.get! (pos + k)).toNat / 64 == 2) = true → pos + k < s.size ∧ 128 ≤ (s.get! (pos + k)).toNat := fun k hk => by
    simp only [Bool.and_eq_true, decide_eq_true_eq, beq_iff_eq] at hk
    omega
  have one : ∀ k, k < 1 → 128 ≤ (s.get! (pos + k)).toNat := fun k hk => by
    obtain rfl : k = 0 := by omega
    exact h1
  have b0 := (s.get! pos).toNat_lt
  simp only [Utf8.decode, e0]
  rw [if_neg (by omega)]
  split
  · rename_i hc
    simp only [Bool.and_eq_true] at hc
    obtain ⟨c1, c2⟩ := cont 1 (by simpa using hc.2)
    split
    · refine ⟨by simpa using ‹_›, by simp, by simp; omega, fun k hk => ?_⟩
      rcases (show k = 0 ∨ k = 1 by simp at hk; omega) with rfl | rfl
      · exact h1
      · exact c2
    · exact ⟨by simp [Utf8.runeError], by simp, by simp; omega, fun k hk => one k (by simpa using hk)⟩
  · split
    · rename_i hc
      simp only [Bool.and_eq_true] at hc
      obtain ⟨c1, c2⟩ := cont 1 (by simpa using hc.1.2)
      obtain ⟨c3, c4⟩ := cont 2 (by simpa using hc.2)
      split
      · rename_i hv
        simp only [Bool.and_eq_true, decide_eq_true_eq] at hv
        refine ⟨by simp; omega, by simp, by simp; omega, fun k hk => ?_⟩
        rcases (show k = 0 ∨ k = 1 ∨ k = 2 by simp at hk; omega) with rfl | rfl | rfl
        · exact h1
        · exact c2
        · exact c4
      · exact ⟨by simp [Utf8.runeError], by simp, by simp; omega, fun k hk => one k (by simpa using hk)⟩
    · split
      · rename_i hc
        simp only [Bool.and_eq_true] at hc
        obtain ⟨c1, c2⟩ := cont 1 (by simpa using hc.1.1.2)
        obtain ⟨c3, c4⟩ := cont 2 (by simpa using hc.1.2)
        obtain ⟨c5, c6⟩ := cont 3 (by simpa using hc.2)
        split
        · rename_i hv
          simp only [Bool.and_eq_true, decide_eq_true_eq] at hv
          refine ⟨by simp; omega, by simp, by simp; omega, fun k hk => ?_⟩
          rcases (show k = 0 ∨ k = 1 ∨ k = 2 ∨ k = 3 by simp at hk; omega) with rfl | rfl | rfl | rfl
          · exact h1
          · exact c2
          · exact c4
          · exact c6
        · exact ⟨by simp [Utf8.runeError], by simp, by simp; omega, fun k hk => one k (by simpa using hk)⟩
      · exact ⟨by simp [Utf8.runeError], by simp, by simp; omega, fun k hk => one k (by simpa using hk)⟩
theorem decode_one (s : ByteArray) (pos : Nat) (h1 : (s.get! pos).toNat < 128) : Utf8.decode s pos = ((s.get! pos).toNat, 1) := by
  have e0 : s.get! (pos + 0) = s.get! pos := rfl
  simp only [Utf8.decode, e0]
  rw [if_pos h1]
theorem decode_pos (s : ByteArray) (pos : Nat) (h : pos < s.size) : 1 ≤ (Utf8.decode s pos).2 := by
  by_cases h1 : (s.get! pos).toNat < 128
  · rw [decode_one s pos h1]; exact Nat.le_refl _
  · exact (decode_wide s pos h (by omega)).2.1

/-- A text's runes from a place on. -/
def runesF (s : ByteArray) : Nat → Nat → List Nat
  | 0, _ => []
  | f + 1, pos => if pos < s.size then (Utf8.decode s pos).1 :: runesF s f (pos + (Utf8.decode s pos).2) else []
def runesL (s : ByteArray) : List Nat := runesF s s.size 0
theorem drop_cons (s : ByteArray) (pos : Nat) (h : pos < s.size) : s.data.toList.drop pos = s.get! pos :: s.data.toList.drop (pos + 1) := by
  have h' : pos < s.data.toList.length := by rw [list_len]; exact h
  rw [List.drop_eq_getElem_cons h', get_list s pos h, List.getD, List.getElem?_eq_getElem h']
  rfl
theorem runes_ascii (s : ByteArray) (ha : ∀ b ∈ s.data.toList, b.toNat < 128) : ∀ f pos, s.size ≤ pos + f → runesF s f pos = (s.data.toList.drop pos).map UInt8.toNat
  | 0, pos, h => by rw [List.drop_of_length_le (by rw [list_len]; omega)]; rfl
  | f + 1, pos, h => by
    rw [runesF]
    split
    · rename_i hp
      have hb : (s.get! pos).toNat < 128 := ha _ (by
        have := drop_cons s pos hp
        exact List.mem_of_mem_drop (i := pos) (by rw [this]; simp))
      rw [decode_one s pos hb, runes_ascii s ha f (pos + 1) (by omega), drop_cons s pos hp]
      rfl
    · rw [List.drop_of_length_le (by rw [list_len]; omega)]; rfl
theorem runesL_ascii (s : ByteArray) (ha : ∀ b ∈ s.data.toList, b.toNat < 128) : runesL s = s.data.toList.map UInt8.toNat := by
  rw [runesL, runes_ascii s ha _ _ (by omega), List.drop_zero]
def letterN (r : Nat) : Bool := decide (97 ≤ r ∧ r ≤ 122)
theorem runes_letters (s : ByteArray) : ∀ f pos, s.size ≤ pos + f → (runesF s f pos).all letterN = (s.data.toList.drop pos).all letterB
  | 0, pos, h => by rw [List.drop_of_length_le (by rw [list_len]; omega)]; rfl
  | f + 1, pos, h => by
    rw [runesF]
    split
    · rename_i hp
      rw [drop_cons s pos hp, List.all_cons, List.all_cons]
      by_cases hb : (s.get! pos).toNat < 128
      · rw [decode_one s pos hb, runes_letters s f (pos + 1) (by omega)]
        rfl
      · have := decode_wide s pos hp (by omega)
        have h1 : letterN (Utf8.decode s pos).1 = false := by
          simp only [letterN, decide_eq_false_iff_not]; omega
        have h2 : letterB (s.get! pos) = false := by
          simp only [letterB, decide_eq_false_iff_not]; omega
        rw [h1, h2]; rfl
    · rw [List.drop_of_length_le (by rw [list_len]; omega)]; rfl

/-! ### What is read of a word -/
structure RS where
  L : List UInt8
  V : List Int
  v : Int
  A : List Int
  n : Nat
def readStep (st : RS) (r : Nat) : RS :=
  if 49 ≤ r ∧ r ≤ 57 then { st with v := (r : Int) - 48 }
  else if r = 45 then { st with A := st.A ++ [(st.n : Int)] }
  else if 97 ≤ r ∧ r ≤ 122 then ⟨st.L ++ [UInt8.ofNat r], st.V ++ [st.v], 0, st.A, st.n + 1⟩
  else if r = 46 then ⟨st.L ++ [46], st.V ++ [st.v], 0, st.A, st.n⟩
  else st
def readR (rs : List Nat) (st : RS) : RS := rs.foldl readStep st
def readL (s : ByteArray) : RS := readR (runesL s) ⟨[], [], 0, [], 0⟩
def RS.pat (st : RS) : TN := (st.L, st.V ++ [st.v])
def RS.exc (st : RS) : TN := (st.L, st.A)
theorem read_pat : ∀ (w : List UInt8) (st : RS) (p : TN), asPatGo w st.v = some p → (∀ b ∈ p.1, letterB b = true ∨ b = 46) → (readR (w.map UInt8.toNat) st).pat = (st.L ++ p.1, st.V ++ p.2)
  | [], st, p, h, _ => by
    simp only [asPatGo, Option.some.injEq] at h
    subst h
    simp [readR, RS.pat]
  | b :: r, st, p, h, hp => by
    simp only [asPatGo] at h
    rw [List.map_cons, readR, List.foldl_cons]
    split at h
    · rename_i hb
      split at h
      · cases h
      · have e : readStep st b.toNat = { st with v := (b.toNat : Int) - 48 } := by rw [readStep, if_pos hb]
        rw [e]
        exact read_pat r { st with v := (b.toNat : Int) - 48 } p h hp
    · rename_i hb
      cases hr : asPatGo r 0 with
      | none => rw [hr] at h; cases h
      | some q =>
        rw [hr] at h
        simp only [Option.map_some, Option.some.injEq] at h
        subst h
        have hq : ∀ c ∈ q.1, letterB c = true ∨ c = 46 := fun c hc => hp c (by simp [hc])
        rcases hp b (by simp) with h1 | h1
        · have hl := letter_lt h1
          have e : readStep st b.toNat = ⟨st.L ++ [b], st.V ++ [st.v], 0, st.A, st.n + 1⟩ := by
            rw [readStep, if_neg hb, if_neg (by omega), if_pos hl, UInt8.ofNat_toNat]
          rw [e]
          have := read_pat r ⟨st.L ++ [b], st.V ++ [st.v], 0, st.A, st.n + 1⟩ q hr hq
          rw [readR] at this
          rw [this]
          simp
        · subst h1
          have e : readStep st (46 : UInt8).toNat = ⟨st.L ++ [46], st.V ++ [st.v], 0, st.A, st.n⟩ := by
            rw [readStep, if_neg hb, if_neg (by decide), if_neg (by decide), if_pos (by decide)]
          rw [e]
          have := read_pat r ⟨st.L ++ [46], st.V ++ [st.v], 0, st.A, st.n⟩ q hr hq
          rw [readR] at this
          rw [this]
          simp
theorem read_exc : ∀ (w : List UInt8) (st : RS), (∀ b ∈ (asExcGo w st.n).1, letterB b = true) → (readR (w.map UInt8.toNat) st).exc = (st.L ++ (asExcGo w st.n).1, st.A ++ (asExcGo w st.n).2)
  | [], st, _ => by simp [readR, RS.exc, asExcGo]
  | b :: r, st, hp => by
    rw [List.map_cons, readR, List.foldl_cons]
    by_cases hb : b = 45
    · subst hb
      have ea : asExcGo (45 :: r) st.n = ((asExcGo r st.n).1, (st.n : Int) :: (asExcGo r st.n).2) := by rw [asExcGo, if_pos rfl]
      rw [ea] at hp ⊢
      have e : readStep st (45 : UInt8).toNat = { st with A := st.A ++ [(st.n : Int)] } := by
        rw [readStep, if_neg (by decide), if_pos (by decide)]
      rw [e]
      have := read_exc r { st with A := st.A ++ [(st.n : Int)] } hp
      rw [readR] at this
      rw [this]
      simp
    · have ea : asExcGo (b :: r) st.n = (b :: (asExcGo r (st.n + 1)).1, (asExcGo r (st.n + 1)).2) := by rw [asExcGo, if_neg hb]
      rw [ea] at hp ⊢
      have hl := letter_lt (hp b (by simp))
      have e : readStep st b.toNat = ⟨st.L ++ [b], st.V ++ [st.v], 0, st.A, st.n + 1⟩ := by
        rw [readStep, if_neg (by omega), if_neg (by omega), if_pos hl, UInt8.ofNat_toNat]
      rw [e]
      have := read_exc r ⟨st.L ++ [b], st.V ++ [st.v], 0, st.A, st.n + 1⟩ (fun c hc => hp c (by simp [hc]))
      rw [readR] at this
      rw [this]
      simp
theorem digit_ascii {v : Int} (h : 0 ≤ v ∧ v ≤ 9) : ∀ b ∈ digitL v, b.toNat < 128 := fun b hb => by
  unfold digitL at hb
  split at hb
  · simp at hb
  · rename_i h0
    have := digit_nat h h0
    simp only [List.mem_singleton] at hb
    rw [hb, this]; omega
theorem wordTo_ascii {p : TN} (h : patB p = true) : ∀ k, k ≤ p.1.length + 1 → ∀ b ∈ wordTo p k, b.toNat < 128
  | 0, _, b, hb => by simp [wordTo] at hb
  | k + 1, hk, b, hb => by
    obtain ⟨h1, h2⟩ := pat_vals h
    rw [wordTo] at hb
    rcases List.mem_append.1 hb with hb | hb
    · exact wordTo_ascii h k (by omega) b hb
    · rcases List.mem_append.1 hb with hb | hb
      · refine digit_ascii (h2 _ ?_) b hb
        rw [List.getD, List.getElem?_eq_getElem (show k < p.2.length by omega)]
        exact List.getElem_mem _
      · split at hb
        · rename_i hl
          simp only [List.mem_singleton] at hb
          subst hb
          rw [List.getD, List.getElem?_eq_getElem hl, Option.getD_some]
          rcases pat_bytes h _ (List.getElem_mem hl) with h3 | h3
          · have := letter_lt h3; omega
          · rw [h3]; decide
        · simp at hb
theorem digit_length (v : Int) : (digitL v).length ≤ 1 := by unfold digitL; split <;> simp
theorem wordTo_length (p : TN) : ∀ k, (wordTo p k).length ≤ 2 * k
  | 0 => by simp [wordTo]
  | k + 1 => by
    have h1 := wordTo_length p k
    have h2 := digit_length (p.2.getD k 0)
    rw [wordTo, List.length_append, List.length_append]
    split
    · simp only [List.length_cons, List.length_nil]; omega
    · simp only [List.length_nil]; omega
theorem word_ascii {p : TN} (h : patB p = true) : ∀ b ∈ wordL p, b.toNat < 128 := wordTo_ascii h _ (Nat.le_refl _)
theorem partM_mem {a : List Int} : ∀ (s : List UInt8) (n : Nat), ∀ b ∈ partM a s n, b ∈ s ∨ b = 45
  | [], _, b, h => by simp [partM] at h
  | c :: s, n, b, h => by
    rw [partM] at h
    rcases List.mem_append.1 h with h | h
    · split at h
      · exact .inr (by simpa using h)
      · simp at h
    · rcases List.mem_cons.1 h with rfl | h
      · exact .inl (by simp)
      · rcases partM_mem s (n + 1) b h with h | h
        · exact .inl (by simp [h])
        · exact .inr h
theorem part_ascii {p : TN} (h : excB p = true) : ∀ b ∈ partL p, b.toNat < 128 := fun b hb => by
  rcases partM_mem p.1 0 b hb with h1 | h1
  · have := letter_lt (plain_letters (exc_parts h).1 b h1); omega
  · rw [h1]; decide
/-- The pattern, and the exception, that the landed program takes a word for. -/
theorem land_pat (s : ByteArray) : asPat s.data.toList = if patB (readL s).pat = true ∧ wordL (readL s).pat = s.data.toList then some (readL s).pat else none := by
  split
  · rename_i h
    rw [← h.2, asPat_word h.1]
  · rename_i h
    cases hp : asPat s.data.toList with
    | none => rfl
    | some p =>
      obtain ⟨h1, h2⟩ := word_asPat hp
      exfalso
      apply h
      have ha : ∀ b ∈ s.data.toList, b.toNat < 128 := by rw [← h1]; exact word_ascii h2
      have hg : asPatGo s.data.toList 0 = some p := by
        unfold asPat at hp
        split at hp
        · split at hp
          · cases hp; assumption
          · cases hp
        · cases hp
      have e := read_pat s.data.toList ⟨[], [], 0, [], 0⟩ p hg (pat_bytes h2)
      rw [← runesL_ascii s ha] at e
      have e' : (readL s).pat = p := by rw [readL, e]; simp
      rw [e']
      exact ⟨h2, h1⟩
theorem land_exc (s : ByteArray) : asExc s.data.toList = if excB (readL s).exc = true ∧ partL (readL s).exc = s.data.toList then some (readL s).exc else none := by
  split
  · rename_i h
    rw [← h.2, asExc_part h.1]
  · rename_i h
    cases hp : asExc s.data.toList with
    | none => rfl
    | some p =>
      obtain ⟨h1, h2⟩ := part_asExc hp
      exfalso
      apply h
      have ha : ∀ b ∈ s.data.toList, b.toNat < 128 := by rw [← h1]; exact part_ascii h2
      have hg : asExcGo s.data.toList 0 = p := by
        unfold asExc at hp
        split at hp
        · cases hp; rfl
        · cases hp
      have e := read_exc s.data.toList ⟨[], [], 0, [], 0⟩ (by show ∀ b ∈ (asExcGo s.data.toList 0).1, _; rw [hg]; exact plain_letters (exc_parts h2).1)
      rw [← runesL_ascii s ha] at e
      have e' : (readL s).exc = p := by rw [readL, e]; show ([] ++ (asExcGo s.data.toList 0).1, [] ++ (asExcGo s.data.toList 0).2) = p; rw [hg]; simp
      rw [e']
      exact ⟨h2, h1⟩
end L10
end Go.Proofs.YtmmgmcfhlhghoaaGreatDoor

namespace Go.Proofs.YtmmgmcfhlhghoaaGreatDoor
open Go.RowKit
namespace L10

theorem letter_any (r : Int) (w : World) : Calls Tryz.prog 46 #[.int .i32 r] w (Ret w (.bool (decide (97 ≤ r ∧ r ≤ 122)))) := by
  by_cases h1 : 97 ≤ r
  · by_cases h2 : r ≤ 122
    · rw [decide_eq_true ⟨h1, h2⟩]
      go_enter Tryz.func46, Tryz.ntmps46
      go_wp2_with fail
      go_ret
      exact ⟨rfl, Ext.refl _⟩
    · rw [decide_eq_false (fun h => h2 h.2)]
      go_enter Tryz.func46, Tryz.ntmps46
      go_wp2_with fail
      go_ret
      exact ⟨rfl, Ext.refl _⟩
  · rw [decide_eq_false (fun h => h1 h.1)]
    go_enter Tryz.func46, Tryz.ntmps46
    go_wp2_with fail
    go_ret
    exact ⟨rfl, Ext.refl _⟩
def gapN (r : Int) : Bool := decide (r = 9 ∨ r = 10 ∨ r = 13 ∨ r = 32)
set_option maxRecDepth 100000 in
set_option maxHeartbeats 2000000 in
theorem letters_any (s : ByteArray) (w : World) : Calls Tryz.prog 35 #[.string s] w (Ret w (.bool (plainB s.data.toList))) := by
  have hlen := list_len s
  by_cases h1 : s.size < 1
  · have e : plainB s.data.toList = false := by
      rw [plainB, hlen, decide_eq_false (by omega)]; rfl
    rw [e]
    go_enter Tryz.func35, Tryz.ntmps35
    go_wp2_with fail
    go_ret
    exact ⟨rfl, Ext.refl _⟩
  · by_cases h2 : 40 < s.size
    · have e : plainB s.data.toList = false := by
        rw [plainB, hlen, decide_eq_false (by omega)]; rfl
      rw [e]
      go_enter Tryz.func35, Tryz.ntmps35
      go_wp2_with fail
      go_ret
      exact ⟨rfl, Ext.refl _⟩
    · have e : plainB s.data.toList = (runesL s).all letterN := by
        rw [plainB, hlen, decide_eq_true (by omega), runesL, runes_letters s _ _ (by omega)]; rfl
      obtain ⟨b, hb⟩ : ∃ b, (runesL s).all letterN = b := ⟨_, rfl⟩
      rw [e, hb]
      have HB := Lib.hid (show (runesF s s.size 0).all letterN = b from hb)
      clear e hb hlen
      go_enter Tryz.func35, Tryz.ntmps35
      go_wp2_with fail
      go_loopg [] s.size (fun gk wx => ∃ pos : Nat, wx.heap[w.heap.size]? = some (.stringIter s pos) ∧ Ext w wx ∧ Hid ((runesF s gk pos).all letterN = b) ∧ s.size ≤ pos + gk)
      case atStart => exact ⟨0, World.iter_heap w s 0, (Ext.refl w).alloc _, HB, by omega⟩
      case round =>
        obtain ⟨pos, hit, X, hrest, hfu⟩ := hrel
        by_cases hp : pos < s.size
        · obtain ⟨g', rfl⟩ : ∃ g', gk = g' + 1 := ⟨gk - 1, by omega⟩
          have hnx : ∀ ty, (Instr.next (.pointer (some ⟨w.heap.size, 0, none⟩)) true ty).run Tryz.prog wr = _ := fun ty => Lib.run_next_any_at wr w.heap.size s pos ty hit hp
          have hwd := decode_pos s pos hp
          have hr := hrest.out
          rw [runesF, if_pos hp, List.all_cons] at hr
          obtain ⟨R, hR⟩ : ∃ R, (Utf8.decode s pos).1 = R := ⟨_, rfl⟩
          obtain ⟨K, hK⟩ : ∃ K, (Utf8.decode s pos).2 = K := ⟨_, rfl⟩
          rw [hR, hK] at hnx hr
          rw [hK] at hwd
          have hit2 := Lib.iterAt_heap wr w.heap.size s pos (pos + K) hit
          have X2 : Ext w (wr.iterAt w.heap.size s (pos + K)) := Lib.below_iterAt X (Nat.le_refl _) s (pos + K)
          generalize wr.iterAt w.heap.size s (pos + K) = W at *
          have C := Lib.hid (letter_any (R : Int) W)
          have hl : letterN R = decide (97 ≤ (R : Int) ∧ (R : Int) ≤ 122) := by
            unfold letterN
            rw [decide_eq_decide]
            omega
          have HR := Lib.hid hr
          rw [← hl] at C
          clear hr hR hK hrest hl
          go_wp2_with fail
          refine C.out.mono ?_; rintro e w2 ⟨rfl, x2⟩
          cases hL : letterN R with
          | false =>
            have hb := HR.out
            rw [hL] at hb
            simp only [Bool.false_and] at hb
            have HB2 := Lib.hid hb
            clear hb HR
            go_wp2_with fail
            go_ret
            exact ⟨ret_bool HB2.out, X2.trans x2⟩
          | true =>
            have hb := HR.out
            rw [hL, Bool.true_and] at hb
            have HB2 := Lib.hid hb
            clear hb HR
            go_wp2_with fail
            go_roundg g'
            case measure => omega
            case rel => exact ⟨pos + K, (x2.block _ (Array.getElem?_eq_some_iff.1 hit2).1).trans hit2, X2.trans x2, HB2, by omega⟩
        · have hnx : ∀ ty, (Instr.next (.pointer (some ⟨w.heap.size, 0, none⟩)) true ty).run Tryz.prog wr = _ := fun ty => Lib.run_next_end_at wr w.heap.size s pos ty hit hp
          have hb : true = b := by
            have := hrest.out
            cases gk with
            | zero => exact this
            | succ g => rw [runesF, if_neg hp] at this; exact this
          clear hrest
          have HB := Lib.hid hb
          clear hb
          go_wp2_with fail
          go_ret
          exact ⟨ret_bool HB.out, X⟩
end L10
end Go.Proofs.YtmmgmcfhlhghoaaGreatDoor

namespace Go.Proofs.YtmmgmcfhlhghoaaGreatDoor
open Go.RowKit
namespace L10

def tn (x : WP) : TN := (x.s.data.toList, x.ns)
theorem trim_front (l : List UInt8) : Lib.trimPrefix l [46] = headD l := by
  unfold Lib.trimPrefix Lib.hasPrefix headD
  cases l with
  | nil => rfl
  | cons b r =>
    by_cases h : b = 46
    · subst h; simp
    · have h2 : ¬ (46 : UInt8) = b := fun e => h e.symm
      simp [h, h2, List.isPrefixOf]
theorem trim_back (l : List UInt8) : Lib.trimSuffix l [46] = tailD l := by
  unfold Lib.trimSuffix Lib.hasSuffix tailD
  by_cases h : l.getLast? = some 46
  · have hne : l ≠ [] := by rintro rfl; simp at h
    rw [if_pos h, if_pos]
    · rw [List.dropLast_eq_take]; rfl
    · rw [List.isSuffixOf_iff_suffix]
      refine ⟨l.dropLast, ?_⟩
      have e := List.dropLast_concat_getLast hne
      rw [List.getLast?_eq_some_getLast hne, Option.some.injEq] at h
      rw [h] at e
      exact e
  · rw [if_neg h, if_neg]
    rw [List.isSuffixOf_iff_suffix]
    rintro ⟨m, e⟩
    apply h
    rw [← e]
    simp
theorem drop_all {p : Int → Bool} {l : List Int} {k : Nat} (h : k < l.length) : (l.drop k).all p = (p (l.getD k 0) && (l.drop (k + 1)).all p) := by
  rw [List.drop_eq_getElem_cons h, List.all_cons, List.getD, List.getElem?_eq_getElem h]; rfl
theorem getD_wide {l : List Int} (h : ∀ n ∈ l, -9223372036854775808 ≤ n ∧ n ≤ 9223372036854775807) (k : Nat) : -9223372036854775808 ≤ l.getD k 0 ∧ l.getD k 0 ≤ 9223372036854775807 := by
  by_cases hk : k < l.length
  · rw [List.getD, List.getElem?_eq_getElem hk]
    exact h _ (List.getElem_mem hk)
  · rw [List.getD, List.getElem?_eq_none (by omega)]
    simp

set_option maxRecDepth 100000 in
set_option maxHeartbeats 2000000 in
theorem pat_any (x : WP) (ok : x.Ok) (w : World) (sn : SeenL w x.A x.ns) : Calls Tryz.prog 25 #[wpV x] w (Ret w (.bool (patB (tn x)))) := by
  obtain ⟨s, ns, A, c⟩ := x
  obtain ⟨hr, hm, hsz, hwide⟩ := ok
  dsimp only at hr hm hsz hwide sn
  unfold maxLen at hm hsz
  obtain ⟨V, hV⟩ : ∃ V, V = w.alloc (.cells #[.string s, .slice A ns.length c] 56) := ⟨_, rfl⟩
  have W0 : Ext w V := by rw [hV]; exact (Ext.refl _).alloc _
  have kB : Blk V w.heap.size 56 [.string s, .slice A ns.length c] := by rw [hV]; exact Blk.lit _ _ _ _ rfl
  have SN := Lib.hid (sn.ext W0)
  have HP := Lib.hid (show patB (tn ⟨s, ns, A, c⟩) = (ns.all valB && (plainB (coreL s.data.toList) && decide (ns.length = s.size + 1))) by
    have hl := list_len s
    simp only [patB, tn, hl]
    cases plainB (coreL s.data.toList) <;> cases ns.all valB <;> simp)
  obtain ⟨b, hb⟩ : ∃ b, patB (tn ⟨s, ns, A, c⟩) = b := ⟨_, rfl⟩
  rw [hb]
  have HB := Lib.hid hb
  have HW := Lib.hid (fun k => getD_wide hwide k)
  obtain ⟨n, hn⟩ : ∃ n, n = ns.length := ⟨_, rfl⟩
  have HN := Lib.hid hn
  unfold wpV
  rw [← hn] at hV kB hr ⊢
  clear hb hwide sn hn
  have hn64 : (n : Int) ≤ 9223372036854775807 := by omega
  go_enter Tryz.func25, Tryz.ntmps25
  go_upto_region 1 with (fail)
  rw [← hV]
  clear hV
  generalize w.heap.size = B at *
  have q0 : V.cell? ⟨B, 0, none⟩ = some (.string s) := kB.cell 0
  have q1 : V.cell? ⟨B, 1, none⟩ = some (.slice A n c) := kB.cell 1
  have HX := Lib.hid W0
  clear W0
  go_wp2_with fail
  go_loop [9] (fun i => ∃ k : Nat, k ≤ n ∧ i = .int .i64 k ∧ Hid (ns.all valB = (ns.drop k).all valB)) (fun i => n - (intOf i).toNat)
  case atStart => exact ⟨0, Nat.zero_le _, rfl, rfl⟩
  case round =>
    obtain ⟨k, hk, rfl, hall⟩ := hrel
    by_cases hlt : k < n
    · have hlt' : k < ns.length := by rw [← HN.out]; exact hlt
      obtain ⟨ad, rfl, hc⟩ := SN.out.get hlt'
      have hall := hall.out
      rw [drop_all hlt'] at hall
      have hw := HW.out k
      have HALL := Lib.hid hall
      generalize ns.getD k 0 = v at *
      have hk64 : (k : Int) < (n : Int) := by omega
      clear hall
      by_cases h1 : v < 0
      · have H2 := Lib.hid (show false = b by rw [← HB.out, HP.out, HALL.out, show valB v = false from decide_eq_false (by omega)]; rfl)
        clear HALL
        go_wp2_with fail
        go_ret
        exact ⟨ret_bool H2.out, HX.out⟩
      · by_cases h2 : 9 < v
        · have H2 := Lib.hid (show false = b by rw [← HB.out, HP.out, HALL.out, show valB v = false from decide_eq_false (by omega)]; rfl)
          clear HALL
          go_wp2_with fail
          go_ret
          exact ⟨ret_bool H2.out, HX.out⟩
        · have H2 := Lib.hid (show ns.all valB = (ns.drop (k + 1)).all valB by rw [HALL.out, show valB v = true from decide_eq_true (by omega)]; rfl)
          clear HALL
          go_wp2_with fail
          go_round
          case rel => exact ⟨k + 1, by omega, by go_num, H2⟩
          case measure => simp [intOf]; omega
    · obtain rfl : k = n := by omega
      have H1 := Lib.hid (show ns.all valB = true by rw [hall.out, HN.out, List.drop_length]; rfl)
      have H2 := Lib.hid (show b = (plainB (coreL s.data.toList) && decide (k = s.size + 1)) by rw [← HB.out, HP.out, H1.out, HN.out]; rfl)
      clear hall H1
      have C1 := Lib.hid (Tryz.strings_TrimPrefix s ⟨#[46]⟩ V)
      go_wp2_with fail
      refine C1.out.mono ?_; rintro e w1 ⟨rfl, rfl⟩
      have e1 : Lib.trimPrefix s.data.toList (ByteArray.mk #[46]).data.toList = headD s.data.toList := trim_front _
      rw [e1]
      have hsz1 : (headD s.data.toList).length ≤ s.size := by
        rw [← list_len s]
        unfold headD
        split <;> simp
      obtain ⟨s1, hs1⟩ : ∃ s1 : ByteArray, s1 = ⟨(headD s.data.toList).toArray⟩ := ⟨_, rfl⟩
      rw [← hs1]
      have hl1 : s1.data.toList = headD s.data.toList := by rw [hs1]
      have C2 := Lib.hid (Tryz.strings_TrimSuffix s1 ⟨#[46]⟩ w1 (by rw [← list_len s1, hl1]; omega))
      rw [hl1, show (ByteArray.mk #[46]).data.toList = [46] from rfl, trim_back] at C2
      have hc : tailD (headD s.data.toList) = coreL s.data.toList := rfl
      rw [hc] at C2
      clear e1 hs1 hsz1 hl1 hc C1
      go_wp2_with fail
      refine C2.out.mono ?_; rintro e w2 ⟨rfl, rfl⟩
      obtain ⟨s2, hs2⟩ : ∃ s2 : ByteArray, s2 = ⟨(coreL s.data.toList).toArray⟩ := ⟨_, rfl⟩
      rw [← hs2]
      have C3 := Lib.hid (letters_any s2 w2)
      rw [show s2.data.toList = coreL s.data.toList by rw [hs2]] at C3
      clear hs2 C2
      go_wp2_with fail
      refine C3.out.mono ?_; rintro e w3 ⟨rfl, x3⟩
      clear C3
      have q0 := x3.at q0
      have q1 := x3.at q1
      have HX3 := Lib.hid (HX.out.trans x3)
      cases hp : plainB (coreL s.data.toList) with
      | false =>
        have H3 := Lib.hid (show false = b by rw [H2.out, hp]; rfl)
        clear H2 hp
        go_wp2_with fail
        go_ret
        exact ⟨ret_bool H3.out, HX3.out⟩
      | true =>
        have H3 := Lib.hid (show b = decide (k = s.size + 1) by rw [H2.out, hp]; rfl)
        clear H2 hp
        have h64 : (s.size : Int) ≤ 9223372036854775807 := by omega
        by_cases he : k = s.size + 1
        · have H4 := Lib.hid (show true = b by rw [H3.out, decide_eq_true he])
          clear H3
          have he' : ((k : Int) == wrap64 ((s.size : Int) + 1)) = true := by
            unfold wrap64; simp; omega
          go_wp2_with fail
          go_ret
          exact ⟨ret_bool H4.out, HX3.out⟩
        · have H4 := Lib.hid (show false = b by rw [H3.out, decide_eq_false he])
          have HE := Lib.hid (show ((k : Int) == wrap64 ((s.size : Int) + 1)) = false by
            unfold wrap64; simp; omega)
          clear H3
          go_wp2_with fail
          go_ret
          exact ⟨ret_bool (HE.out.trans H4.out), HX3.out⟩
end L10
end Go.Proofs.YtmmgmcfhlhghoaaGreatDoor

namespace Go.Proofs.YtmmgmcfhlhghoaaGreatDoor
open Go.RowKit
namespace L10

theorem rises_drop {m least : Int} {l : List Int} {k : Nat} (h : k < l.length) : risesB m least (l.drop k) = (decide (least ≤ l.getD k 0 ∧ l.getD k 0 < m) && risesB m (l.getD k 0 + 1) (l.drop (k + 1))) := by
  rw [List.drop_eq_getElem_cons h, risesB, List.getD, List.getElem?_eq_getElem h]; rfl
theorem seenB_one (w : World) (t : TypeId) (z : Int) (b : UInt8) (h : z = b.toNat) : SeenB (w.alloc (.cells #[.int .u8 z] t)) (some ⟨w.heap.size, 0, none⟩) [b] := by
  subst h
  exact (Blk.lit w w.heap.size t #[.int .u8 (b.toNat : Int)] rfl).seen rfl
theorem byte_info : (Tryz.prog.info? 5).map (fun i => (i.zero, i.size, i.bytes)) = some (some (.int .u8 0), 1, 1) := by kernel_rfl
/-- append(own, b). -/
theorem run_byte {w w0 : World} {v : Value} {m : List UInt8} (h : OwnB 5 w0 w v m) (a : Option Addr) (b : UInt8) (hs : SeenB w a [b]) (hm : m.length ≤ 900000) (ty : TypeId) :
    ∃ v' w', (Builtin.append_ #[132, 132] ty #[v, .slice a 1 1]).run Tryz.prog w = .ok v' w' ∧ OwnB 5 w0 w' v' (m ++ [b]) := by
  obtain ⟨v', w', h1, h2, _⟩ := run_putB (P := Tryz.prog) 132 ty 5 Tryz.underlying132 byte_info h a [b] 1 1 hs rfl (by simp; omega)
  exact ⟨v', w', h1, h2⟩

set_option maxRecDepth 100000 in
set_option maxHeartbeats 2000000 in
theorem exc_any (x : WP) (ok : x.Ok) (w : World) (sn : SeenL w x.A x.ns) : Calls Tryz.prog 26 #[wpV x] w (Ret w (.bool (excB (tn x)))) := by
  obtain ⟨s, ns, A, c⟩ := x
  obtain ⟨hr, hm, hsz, hwide⟩ := ok
  dsimp only at hr hm hsz hwide sn
  unfold maxLen at hm hsz
  obtain ⟨V, hV⟩ : ∃ V, V = w.alloc (.cells #[.string s, .slice A ns.length c] 58) := ⟨_, rfl⟩
  have W0 : Ext w V := by rw [hV]; exact (Ext.refl _).alloc _
  have kB : Blk V w.heap.size 58 [.string s, .slice A ns.length c] := by rw [hV]; exact Blk.lit _ _ _ _ rfl
  have SN := Lib.hid (sn.ext W0)
  have HP := Lib.hid (show excB (tn ⟨s, ns, A, c⟩) = (risesB s.size 1 ns && (plainB s.data.toList && decide (0 < ns.length))) by
    have hl := list_len s
    rw [Bool.eq_iff_iff]
    simp only [excB, tn, hl, Bool.and_eq_true]
    exact ⟨fun ⟨a, b, c⟩ => ⟨c, a, b⟩, fun ⟨c, a, b⟩ => ⟨a, b, c⟩⟩)
  obtain ⟨b, hb⟩ : ∃ b, excB (tn ⟨s, ns, A, c⟩) = b := ⟨_, rfl⟩
  rw [hb]
  have HB := Lib.hid hb
  have HW := Lib.hid (fun k => getD_wide hwide k)
  obtain ⟨n, hn⟩ : ∃ n, n = ns.length := ⟨_, rfl⟩
  have HN := Lib.hid hn
  unfold wpV
  dsimp only
  rw [← hn] at hV kB hr ⊢
  clear hb hwide sn hn
  have hn64 : (n : Int) ≤ 9223372036854775807 := by omega
  go_enter Tryz.func26, Tryz.ntmps26
  go_upto_region 1 with (fail)
  rw [← hV]
  clear hV
  generalize w.heap.size = B at *
  have q0 : V.cell? ⟨B, 0, none⟩ = some (.string s) := kB.cell 0
  have q1 : V.cell? ⟨B, 1, none⟩ = some (.slice A n c) := kB.cell 1
  have HX := Lib.hid W0
  have h64 : (s.size : Int) ≤ 9223372036854775807 := by omega
  clear W0
  go_wp2_with fail
  go_loop [3, 9] (fun lv i => ∃ (k : Nat) (z : Int), k ≤ n ∧ i = .int .i64 k ∧ lv = .int .i64 z ∧ 1 ≤ z ∧ z ≤ 9223372036854775807 ∧ Hid (risesB s.size 1 ns = risesB s.size z (ns.drop k))) (fun _ i => n - (intOf i).toNat)
  case atStart => exact ⟨0, 1, Nat.zero_le _, rfl, rfl, by omega, by omega, rfl⟩
  case round =>
    obtain ⟨k, z, hk, rfl, rfl, hz1, hz2, hall⟩ := hrel
    by_cases hlt : k < n
    · have hlt' : k < ns.length := by rw [← HN.out]; exact hlt
      obtain ⟨ad, rfl, hc⟩ := SN.out.get hlt'
      have hall := hall.out
      rw [rises_drop hlt'] at hall
      have hw := HW.out k
      have HALL := Lib.hid hall
      generalize ns.getD k 0 = v at *
      have hk64 : (k : Int) < (n : Int) := by omega
      clear hall
      by_cases h1 : v < z
      · have H2 := Lib.hid (show false = b by rw [← HB.out, HP.out, HALL.out, decide_eq_false (by omega)]; rfl)
        clear HALL
        go_wp2_with fail
        go_ret
        exact ⟨ret_bool H2.out, HX.out⟩
      · by_cases h2 : (s.size : Int) ≤ v
        · have H2 := Lib.hid (show false = b by rw [← HB.out, HP.out, HALL.out, decide_eq_false (by omega)]; rfl)
          clear HALL
          go_wp2_with fail
          go_ret
          exact ⟨ret_bool H2.out, HX.out⟩
        · have H2 := Lib.hid (show risesB s.size 1 ns = risesB s.size (v + 1) (ns.drop (k + 1)) by rw [HALL.out, decide_eq_true (by omega)]; rfl)
          clear HALL
          go_wp2_with fail
          go_round
          case rel => exact ⟨k + 1, v + 1, by omega, by go_num, rfl, by omega, by omega, H2⟩
          case measure => simp [intOf]; omega
    · obtain rfl : k = n := by omega
      have H1 := Lib.hid (show risesB s.size 1 ns = true by rw [hall.out, HN.out, List.drop_length]; rfl)
      have H2 := Lib.hid (show b = (plainB s.data.toList && decide (0 < k)) by rw [← HB.out, HP.out, H1.out, HN.out]; rfl)
      clear hall H1
      have C1 := Lib.hid (letters_any s V)
      go_wp2_with fail
      refine C1.out.mono ?_; rintro e w3 ⟨rfl, x3⟩
      clear C1
      have q0 := x3.at q0
      have q1 := x3.at q1
      have HX3 := Lib.hid (HX.out.trans x3)
      cases hp : plainB s.data.toList with
      | false =>
        have H3 := Lib.hid (show false = b by rw [H2.out, hp]; rfl)
        clear H2 hp
        go_wp2_with fail
        go_ret
        exact ⟨ret_bool H3.out, HX3.out⟩
      | true =>
        have H3 := Lib.hid (show decide (0 < k) = b by rw [H2.out, hp, Bool.true_and])
        clear H2 hp
        go_wp2_with fail
        go_ret
        exact ⟨ret_bool H3.out, HX3.out⟩

end L10
end Go.Proofs.YtmmgmcfhlhghoaaGreatDoor

namespace Go.Proofs.YtmmgmcfhlhghoaaGreatDoor
open Go.RowKit
namespace L10

theorem rises_lt {n : Int} : ∀ (l : List Int) (least : Int), risesB n least l = true → ∀ i j, i < j → j < l.length → l.getD i 0 < l.getD j 0
  | [], _, _, i, j, _, h => by simp at h
  | a :: r, least, h, i, j, hij, hj => by
    simp only [risesB, Bool.and_eq_true, decide_eq_true_eq] at h
    cases j with
    | zero => omega
    | succ j =>
      have hj' : j < r.length := by simpa using hj
      cases i with
      | zero =>
        have := rises_mem r (a + 1) h.2 (r.getD j 0) (by rw [List.getD, List.getElem?_eq_getElem hj']; exact List.getElem_mem hj')
        simp only [List.getD_cons_zero, List.getD_cons_succ]
        omega
      | succ i =>
        simp only [List.getD_cons_succ]
        exact rises_lt r (a + 1) h.2 i j (by omega) hj'
/-- Where the part behind the first k places begins, and what stands ahead of it. -/
def behE (p : TN) (k : Nat) : Nat := if k = 0 then 0 else (p.2.getD (k - 1) 0).toNat
def preE (p : TN) (k : Nat) : List UInt8 := if k = 0 then [] else partM p.2 (p.1.take (p.2.getD (k - 1) 0).toNat) 0 ++ [45]
theorem get_mem {l : List Int} {k : Nat} (h : k < l.length) : l.getD k 0 ∈ l := by
  rw [List.getD, List.getElem?_eq_getElem h]; exact List.getElem_mem h
theorem mem_get {l : List Int} {a : Int} (h : a ∈ l) : ∃ i, i < l.length ∧ l.getD i 0 = a := by
  obtain ⟨i, hi, rfl⟩ := List.getElem_of_mem h
  exact ⟨i, hi, by rw [List.getD, List.getElem?_eq_getElem hi]; rfl⟩
theorem behE_le {p : TN} (h : excB p = true) {k : Nat} (hk : k < p.2.length) : behE p k < (p.2.getD k 0).toNat ∧ 1 ≤ p.2.getD k 0 ∧ p.2.getD k 0 < p.1.length := by
  obtain ⟨_, _, h3⟩ := exc_parts h
  have hm := rises_mem _ _ h3 _ (get_mem hk)
  refine ⟨?_, hm.1, hm.2⟩
  unfold behE
  split
  · omega
  · rename_i h0
    have := rises_lt _ _ h3 (k - 1) k (by omega) hk
    have := rises_mem _ _ h3 _ (get_mem (show k - 1 < p.2.length by omega))
    omega
theorem preE_step {p : TN} (h : excB p = true) {k : Nat} (hk : k < p.2.length) : preE p (k + 1) = preE p k ++ (p.1.drop (behE p k)).take ((p.2.getD k 0).toNat - behE p k) ++ [45] := by
  obtain ⟨_, _, h3⟩ := exc_parts h
  obtain ⟨hb, ha1, ha2⟩ := behE_le h hk
  have e1 : preE p (k + 1) = partM p.2 (p.1.take (p.2.getD k 0).toNat) 0 ++ [45] := by simp [preE]
  rw [e1]
  have htake : p.1.take (p.2.getD k 0).toNat = p.1.take (behE p k) ++ (p.1.drop (behE p k)).take ((p.2.getD k 0).toNat - behE p k) := by
    rw [← List.take_add]; congr 1; omega
  rw [htake, partM_append, List.length_take, Nat.min_eq_left (by omega), Nat.zero_add]
  have hlen : ((p.1.drop (behE p k)).take ((p.2.getD k 0).toNat - behE p k)).length = (p.2.getD k 0).toNat - behE p k := by
    rw [List.length_take, List.length_drop]; omega
  have none_in : ∀ j : Nat, behE p k < j → j < (p.2.getD k 0).toNat → (j : Int) ∉ p.2 := fun j h1 h2 hm => by
    obtain ⟨i, hi, he⟩ := mem_get hm
    rcases Nat.lt_or_ge i k with hik | hik
    · unfold behE at h1
      split at h1
      · omega
      · rcases Nat.lt_or_ge i (k - 1) with h4 | h4
        · have := rises_lt _ _ h3 i (k - 1) h4 (by omega); omega
        · obtain rfl : i = k - 1 := by omega
          omega
    · rcases Nat.lt_or_ge k i with h4 | h4
      · have := rises_lt _ _ h3 k i h4 hi; omega
      · obtain rfl : i = k := by omega
        omega
  generalize hM : (p.1.drop (behE p k)).take ((p.2.getD k 0).toNat - behE p k) = M at *
  by_cases h0 : k = 0
  · subst h0
    have hb0 : behE p 0 = 0 := rfl
    have hp0 : preE p 0 = [] := rfl
    have hn : partM p.2 M (behE p 0) = M := by
      refine partM_none _ _ fun j h1 h2 hm => ?_
      rw [hlen] at h2
      rcases Nat.eq_zero_or_pos j with h4 | h4
      · have := rises_mem _ _ h3 _ hm; omega
      · exact none_in j (by omega) (by omega) hm
    rw [hn, hp0, hb0]
    simp [partM]
  · have hbk : behE p k = (p.2.getD (k - 1) 0).toNat := if_neg h0
    have hpk : preE p k = partM p.2 (p.1.take (behE p k)) 0 ++ [45] := by rw [hbk]; exact if_neg h0
    have hk1 := rises_mem _ _ h3 _ (get_mem (show k - 1 < p.2.length by omega))
    have hh : partM p.2 M (behE p k) = 45 :: M := partM_hit _ _ (by omega) (by rw [hbk]; rw [show ((p.2.getD (k - 1) 0).toNat : Int) = p.2.getD (k - 1) 0 by omega]; exact get_mem (by omega)) (fun j h1 h2 => none_in j h1 (by omega))
    rw [hh, hpk]
    simp
theorem preE_end {p : TN} (h : excB p = true) : preE p p.2.length ++ p.1.drop (behE p p.2.length) = partL p := by
  obtain ⟨_, h2, h3⟩ := exc_parts h
  have h0 : p.2.length ≠ 0 := by omega
  have hbk : behE p p.2.length = (p.2.getD (p.2.length - 1) 0).toNat := if_neg h0
  have hpk : preE p p.2.length = partM p.2 (p.1.take (behE p p.2.length)) 0 ++ [45] := by rw [hbk]; exact if_neg h0
  have hk1 := rises_mem _ _ h3 _ (get_mem (show p.2.length - 1 < p.2.length by omega))
  have e : partL p = partM p.2 (p.1.take (behE p p.2.length)) 0 ++ partM p.2 (p.1.drop (behE p p.2.length)) (behE p p.2.length) := by
    have : p.1 = p.1.take (behE p p.2.length) ++ p.1.drop (behE p p.2.length) := (List.take_append_drop _ _).symm
    rw [partL]
    conv => lhs; rw [this]
    rw [partM_append, List.length_take, Nat.min_eq_left (by omega), Nat.zero_add]
  have hh : partM p.2 (p.1.drop (behE p p.2.length)) (behE p p.2.length) = 45 :: p.1.drop (behE p p.2.length) := by
    refine partM_hit _ _ (by rw [List.length_drop]; omega) (by rw [hbk]; rw [show ((p.2.getD (p.2.length - 1) 0).toNat : Int) = p.2.getD (p.2.length - 1) 0 by omega]; exact get_mem (by omega)) ?_
    intro j h1 _ hm
    obtain ⟨i, hi, he⟩ := mem_get hm
    rcases Nat.lt_or_ge i (p.2.length - 1) with h4 | h4
    · have := rises_lt _ _ h3 i (p.2.length - 1) h4 (by omega); omega
    · obtain rfl : i = p.2.length - 1 := by omega
      omega
  rw [e, hh, hpk]
  simp
theorem preE_length {p : TN} (h : excB p = true) : ∀ k, k ≤ p.2.length → (preE p k).length ≤ behE p k + k
  | 0, _ => by simp [preE]
  | k + 1, hk => by
    have ih := preE_length h k (by omega)
    have hb := behE_le h (show k < p.2.length by omega)
    have e : behE p (k + 1) = (p.2.getD k 0).toNat := by simp [behE]
    rw [preE_step h (by omega), e]
    simp only [List.length_append, List.length_cons, List.length_nil]
    have := List.length_take_le ((p.2.getD k 0).toNat - behE p k) (p.1.drop (behE p k))
    omega
/-- Rising places are no more than there is room. -/
theorem rises_length {n : Int} : ∀ (l : List Int) (least : Int), risesB n least l = true → least ≤ n → (l.length : Int) ≤ n - least
  | [], least, _, h => by simp; omega
  | a :: r, least, h, _ => by
    simp only [risesB, Bool.and_eq_true, decide_eq_true_eq] at h
    have := rises_length r (a + 1) h.2 (by omega)
    simp only [List.length_cons]
    omega
/-- An append of a text whose run is known. -/
theorem wpList_ranS {P : Program} {w w' : World} {ops : Array Oper} {rest : List Oper} {o : Oper} {a : Act} {Q : Exit → Act → World → Prop} {t u : TypeId} {v : Value} (hgd : o.guard = none) (s x : Operand)
    (ho : o.op = .call { callee := .builtin .append, args := #[s, x], argTypes := #[t, u] }) (hrun : (Builtin.append_ #[t, u] o.type #[a.eval s, a.eval x]).run P w = .ok v w')
    (h : wpList P ops Q rest (a.put o.dst v) w') : wpList P ops Q (o :: rest) a w := by
  refine wpList_plain hgd fun K hK => ?_
  unfold Oper.wp execOp
  simp only [ho, resolve, invoke, builtin, Sem.run_bind, Sem.run_pure, Result.andThen_ok, List.map_toArray, List.map_cons, List.map_nil, hrun]
  exact hK _ _ h
/-- append(own, text...). -/
theorem run_str {w w0 : World} {v : Value} {m : List UInt8} (h : OwnB 5 w0 w v m) (s : ByteArray) (hm : m.length + s.size ≤ 900000) (ty : TypeId) :
    ∃ v' w', (Builtin.append_ #[132, 9] ty #[v, .string s]).run Tryz.prog w = .ok v' w' ∧ OwnB 5 w0 w' v' (m ++ s.data.toList) := by
  obtain ⟨i, h1, h2, h3, h4⟩ := info_parts byte_info
  obtain ⟨v', w', hr, ho, hg, _⟩ := Lib.run_append_own_string (P := Tryz.prog) (w := w) w0.heap.size 132 9 ty 5 i Tryz.underlying132 Tryz.underlying9 h1 h2 h3 h4 v m.length (bv m) h.1 s (by unfold maxLen; omega) (by omega) h.2.size
  refine ⟨v', w', hr, ?_, Below.grown h.2 hg h.2.size (fun n e => (h.1.lt n e).1)⟩
  have e : Lib.strCells s = bv s.data.toList := by
    simp [Lib.strCells, bv]
  rw [e] at ho
  rw [List.length_append, bv_append, list_len]
  exact ho
end L10
end Go.Proofs.YtmmgmcfhlhghoaaGreatDoor

namespace Go.Proofs.YtmmgmcfhlhghoaaGreatDoor
open Go.RowKit
namespace L10

end L10
end Go.Proofs.YtmmgmcfhlhghoaaGreatDoor

namespace Go.Proofs.YtmmgmcfhlhghoaaGreatDoor
open Go.RowKit
namespace L10

def rd (D : PatsD) : LL := (D.l.map tn, D.m.map tn)
theorem all_drop {α : Type} {p : α → Bool} {l : List α} {k : Nat} (h : k < l.length) : (l.drop k).all p = (p l[k] && (l.drop (k + 1)).all p) := by
  rw [List.drop_eq_getElem_cons h, List.all_cons]
theorem patsB_rd (D : PatsD) : patsB (rd D) = (decide (D.l.length + D.m.length ≤ 300) && (D.l.all (fun x => patB (tn x)) && D.m.all (fun x => excB (tn x)))) := by
  simp only [patsB, rd, List.length_map, List.all_map]
  rfl

set_option maxRecDepth 100000 in
set_option maxHeartbeats 4000000 in
theorem check_any (D : PatsD) (P : PatsP) (lok : ∀ x ∈ D.l, x.Ok) (mok : ∀ x ∈ D.m, x.Ok) (w : World) (sn : SeenPats w D P) (hl : D.l.length ≤ 1000000) (hm : D.m.length ≤ 1000000) : Calls Tryz.prog 13 #[patsV D P] w (Ret w (.bool (patsB (rd D)))) := by
  obtain ⟨l, m⟩ := D
  obtain ⟨A, c, B, d⟩ := P
  dsimp only at lok mok hl hm
  obtain ⟨V, hV⟩ : ∃ V, V = w.alloc (.cells #[.slice A l.length c, .slice B m.length d] 25) := ⟨_, rfl⟩
  have W0 : Ext w V := by rw [hV]; exact (Ext.refl _).alloc _
  have kB : Blk V w.heap.size 25 [.slice A l.length c, .slice B m.length d] := by rw [hV]; exact Blk.lit _ _ _ _ rfl
  have SL := Lib.hid (fun w' (x : Ext V w') => ((sn.ext W0).ext x).l)
  have SM := Lib.hid (fun w' (x : Ext V w') => ((sn.ext W0).ext x).m)
  have LOK := Lib.hid lok
  have MOK := Lib.hid mok
  obtain ⟨b, hb⟩ : ∃ b, patsB (rd ⟨l, m⟩) = b := ⟨_, rfl⟩
  rw [hb]
  have HB0 := Lib.hid (show (decide (l.length + m.length ≤ 300) && (l.all (fun x => patB (tn x)) && m.all (fun x => excB (tn x)))) = b by rw [← hb, patsB_rd])
  unfold patsV
  obtain ⟨n, hn⟩ : ∃ n, n = l.length := ⟨_, rfl⟩
  obtain ⟨q, hq⟩ : ∃ q, q = m.length := ⟨_, rfl⟩
  dsimp only at SL SM ⊢
  rw [← hn] at hl hV kB HB0 ⊢
  rw [← hq] at hm hV kB HB0 ⊢
  have HN := Lib.hid hn
  have HQ := Lib.hid hq
  clear hb hn hq lok mok sn
  have hn64 : (n : Int) ≤ 1000000 := by omega
  have hq64 : (q : Int) ≤ 1000000 := by omega
  by_cases h300 : 300 < n + q
  · have HF := Lib.hid (show false = b by rw [← HB0.out, decide_eq_false (by omega)]; rfl)
    have h300' : (300 : Int) < (n : Int) + (q : Int) := by omega
    clear HB0 SL SM LOK MOK kB h300
    go_enter Tryz.func13, Tryz.ntmps13
    go_upto_region 2 with (fail)
    all_goals
      rw [← hV]
      go_wp2_with fail
      go_ret
      exact ⟨ret_bool HF.out, W0⟩
  have HB := Lib.hid (show (l.all (fun x => patB (tn x)) && m.all (fun x => excB (tn x))) = b by rw [← HB0.out, decide_eq_true (by omega), Bool.true_and])
  have h300' : ¬ (300 : Int) < (n : Int) + (q : Int) := by omega
  clear h300 HB0
  go_enter Tryz.func13, Tryz.ntmps13
  go_upto_region 1 with (fail)
  rw [← hV]
  clear hV
  generalize w.heap.size = Bx at *
  have HX := Lib.hid W0
  clear W0
  have q0 : V.cell? ⟨Bx, 0, none⟩ = some (.slice A n c) := kB.cell 0
  have q1 : V.cell? ⟨Bx, 1, none⟩ = some (.slice B q d) := kB.cell 1
  go_wp2_with fail
  go_loopw [18] (fun i wr => ∃ k : Nat, k ≤ n ∧ i = .int .i64 k ∧ Hid (Ext V wr) ∧ Hid (l.all (fun x => patB (tn x)) = (l.drop k).all (fun x => patB (tn x)))) (fun i _ => n - (intOf i).toNat)
  case atStart => exact ⟨0, Nat.zero_le _, rfl, Lib.hid (Ext.refl _), rfl⟩
  case round =>
    obtain ⟨k, hk, rfl, hX, hall⟩ := hrel
    have g0 := hX.out.at q0
    have g1 := hX.out.at q1
    by_cases hlt : k < n
    · have hlt' : k < l.length := by rw [← HN.out]; exact hlt
      obtain ⟨⟨ad, rfl, e0, e1⟩, hsn⟩ := (SL.out wr hX.out).get hlt'
      have hok := LOK.out l[k] (List.getElem_mem hlt')
      have hall := hall.out
      rw [all_drop hlt'] at hall
      have HALL := Lib.hid hall
      have hk64 : (k : Int) < (n : Int) := by omega
      generalize l[k] = x at *
      obtain ⟨s, ns, A', c'⟩ := x
      have X2 : Ext V (wr.alloc (.cells #[.string s, .slice A' ns.length c'] 56)) := hX.out.alloc _
      have C := Lib.hid (pat_any ⟨s, ns, A', c'⟩ hok _ (SeenL.ext hsn ((Ext.refl wr).alloc (.cells #[.string s, .slice A' ns.length c'] 56))))
      unfold wpV at C
      dsimp only at C e0 e1
      have HX2 := Lib.hid X2
      clear hsn hok hall hX X2
      go_wp2_with fail
      refine C.out.mono ?_; rintro e w2 ⟨rfl, x2⟩
      have HX3 := Lib.hid (HX2.out.trans x2)
      clear C x2
      cases hp : patB (tn ⟨s, ns, A', c'⟩) with
      | false =>
        have HF := Lib.hid (show false = b by rw [← HB.out, HALL.out, hp]; rfl)
        clear hp HALL
        go_wp2_with fail
        go_ret
        exact ⟨ret_bool HF.out, HX.out.trans HX3.out⟩
      | true =>
        have HR := Lib.hid (show l.all (fun x => patB (tn x)) = (l.drop (k + 1)).all (fun x => patB (tn x)) by rw [HALL.out, hp]; rfl)
        clear hp HALL
        go_wp2_with fail
        go_roundw
        case rel => exact ⟨k + 1, by omega, by go_num, HX3, HR⟩
        case measure => simp [intOf]; omega
    · obtain rfl : k = n := by omega
      have H1 := Lib.hid (show l.all (fun x => patB (tn x)) = true by rw [hall.out, HN.out, List.drop_length]; rfl)
      have HB2 := Lib.hid (show m.all (fun x => excB (tn x)) = b by rw [← HB.out, H1.out]; rfl)
      clear hall H1 HB
      obtain ⟨wo, rfl⟩ : ∃ wo : World, wo = wr := ⟨_, rfl⟩
      go_wp2_with fail
      go_loopw [29] (fun i wr => ∃ k : Nat, k ≤ q ∧ i = .int .i64 k ∧ Hid (Ext wo wr) ∧ Hid (m.all (fun x => excB (tn x)) = (m.drop k).all (fun x => excB (tn x)))) (fun i _ => q - (intOf i).toNat)
      case atStart => exact ⟨0, Nat.zero_le _, rfl, Lib.hid (Ext.refl _), rfl⟩
      case round =>
        obtain ⟨j, hj, rfl, hY, hall⟩ := hrel
        have g0 := hY.out.at g0
        have g1 := hY.out.at g1
        by_cases hlt2 : j < q
        · have hlt' : j < m.length := by rw [← HQ.out]; exact hlt2
          obtain ⟨⟨ad, rfl, e0, e1⟩, hsn⟩ := (SM.out wr (hX.out.trans hY.out)).get hlt'
          have hok := MOK.out m[j] (List.getElem_mem hlt')
          have hall := hall.out
          rw [all_drop hlt'] at hall
          have HALL := Lib.hid hall
          have hj64 : (j : Int) < (q : Int) := by omega
          generalize m[j] = x at *
          obtain ⟨s, ns, A', c'⟩ := x
          have X2 : Ext wo (wr.alloc (.cells #[.string s, .slice A' ns.length c'] 58)) := hY.out.alloc _
          have C := Lib.hid (exc_any ⟨s, ns, A', c'⟩ hok _ (SeenL.ext hsn ((Ext.refl wr).alloc (.cells #[.string s, .slice A' ns.length c'] 58))))
          unfold wpV at C
          dsimp only at C e0 e1
          have HX2 := Lib.hid X2
          clear hsn hok hall hY X2
          go_wp2_with fail
          refine C.out.mono ?_; rintro e w2 ⟨rfl, x2⟩
          have HX3 := Lib.hid (HX2.out.trans x2)
          clear C x2
          cases hp : excB (tn ⟨s, ns, A', c'⟩) with
          | false =>
            have HF := Lib.hid (show false = b by rw [← HB2.out, HALL.out, hp]; rfl)
            clear hp HALL
            go_wp2_with fail
            go_ret
            exact ⟨ret_bool HF.out, (HX.out.trans hX.out).trans HX3.out⟩
          | true =>
            have HR := Lib.hid (show m.all (fun x => excB (tn x)) = (m.drop (j + 1)).all (fun x => excB (tn x)) by rw [HALL.out, hp]; rfl)
            clear hp HALL
            go_wp2_with fail
            go_roundw
            case rel => exact ⟨j + 1, by omega, by go_num, HX3, HR⟩
            case measure => simp [intOf]; omega
        · obtain rfl : j = q := by omega
          have HF := Lib.hid (show true = b by rw [← HB2.out, hall.out, HQ.out, List.drop_length]; rfl)
          clear hall
          go_wp2_with fail
          go_ret
          exact ⟨ret_bool HF.out, (HX.out.trans hX.out).trans hY.out⟩
end L10
end Go.Proofs.YtmmgmcfhlhghoaaGreatDoor

