/- The landed exceptionWord of layer 10. -/
import Derived.Test.YtenajekmnggkeaaLandC10
import Derived.Lib.AppendStr
import Derived.Laws.DeepStrings4
namespace Go.Proofs.Ytenajekmnggkeaa
open Go.RowKit
namespace L10

theorem rises_lt {n : Int} : ∀ (l : List Int) (least : Int), risesB n least l = true → ∀ i j, i < j → j < l.length → l.getD i 0 < l.getD j 0
  | [], _, _, i, j, _, h => by simp at h
  | a :: r, least, h, i, j, hij, hj => by
    simp only [risesB, Bool.and_eq_true, decide_eq_true_eq] at h
    cases j with
    | zero => omega
    | succ j =>
      have hj' : j < r.length := by simpa using hj
      cases i with
      | zero =>
        have := rises_mem r (a + 1) h.2 (r.getD j 0) (by rw [List.getD, List.getElem?_eq_getElem hj']; exact List.getElem_mem hj')
        simp only [List.getD_cons_zero, List.getD_cons_succ]
        omega
      | succ i =>
        simp only [List.getD_cons_succ]
        exact rises_lt r (a + 1) h.2 i j (by omega) hj'
/-- Where the part behind the first k places begins, and what stands ahead of it. -/
def behE (p : TN) (k : Nat) : Nat := if k = 0 then 0 else (p.2.getD (k - 1) 0).toNat
def preE (p : TN) (k : Nat) : List UInt8 := if k = 0 then [] else partM p.2 (p.1.take (p.2.getD (k - 1) 0).toNat) 0 ++ [45]
theorem get_mem {l : List Int} {k : Nat} (h : k < l.length) : l.getD k 0 ∈ l := by
  rw [List.getD, List.getElem?_eq_getElem h]; exact List.getElem_mem h
theorem mem_get {l : List Int} {a : Int} (h : a ∈ l) : ∃ i, i < l.length ∧ l.getD i 0 = a := by
  obtain ⟨i, hi, rfl⟩ := List.getElem_of_mem h
  exact ⟨i, hi, by rw [List.getD, List.getElem?_eq_getElem hi]; rfl⟩
theorem behE_le {p : TN} (h : excB p = true) {k : Nat} (hk : k < p.2.length) : behE p k < (p.2.getD k 0).toNat ∧ 1 ≤ p.2.getD k 0 ∧ p.2.getD k 0 < p.1.length := by
  obtain ⟨_, _, h3⟩ := exc_parts h
  have hm := rises_mem _ _ h3 _ (get_mem hk)
  refine ⟨?_, hm.1, hm.2⟩
  unfold behE
  split
  · omega
  · rename_i h0
    have := rises_lt _ _ h3 (k - 1) k (by omega) hk
    have := rises_mem _ _ h3 _ (get_mem (show k - 1 < p.2.length by omega))
    omega
theorem preE_step {p : TN} (h : excB p = true) {k : Nat} (hk : k < p.2.length) : preE p (k + 1) = preE p k ++ (p.1.drop (behE p k)).take ((p.2.getD k 0).toNat - behE p k) ++ [45] := by
  obtain ⟨_, _, h3⟩ := exc_parts h
  obtain ⟨hb, ha1, ha2⟩ := behE_le h hk
  have e1 : preE p (k + 1) = partM p.2 (p.1.take (p.2.getD k 0).toNat) 0 ++ [45] := by simp [preE]
  rw [e1]
  have htake : p.1.take (p.2.getD k 0).toNat = p.1.take (behE p k) ++ (p.1.drop (behE p k)).take ((p.2.getD k 0).toNat - behE p k) := by
    rw [← List.take_add]; congr 1; omega
  rw [htake, partM_append, List.length_take, Nat.min_eq_left (by omega), Nat.zero_add]
  have hlen : ((p.1.drop (behE p k)).take ((p.2.getD k 0).toNat - behE p k)).length = (p.2.getD k 0).toNat - behE p k := by
    rw [List.length_take, List.length_drop]; omega
  have none_in : ∀ j : Nat, behE p k < j → j < (p.2.getD k 0).toNat → (j : Int) ∉ p.2 := fun j h1 h2 hm => by
    obtain ⟨i, hi, he⟩ := mem_get hm
    rcases Nat.lt_or_ge i k with hik | hik
    · unfold behE at h1
      split at h1
      · omega
      · rcases Nat.lt_or_ge i (k - 1) with h4 | h4
        · have := rises_lt _ _ h3 i (k - 1) h4 (by omega); omega
        · obtain rfl : i = k - 1 := by omega
          omega
    · rcases Nat.lt_or_ge k i with h4 | h4
      · have := rises_lt _ _ h3 k i h4 hi; omega
      · obtain rfl : i = k := by omega
        omega
  generalize hM : (p.1.drop (behE p k)).take ((p.2.getD k 0).toNat - behE p k) = M at *
  by_cases h0 : k = 0
  · subst h0
    have hb0 : behE p 0 = 0 := rfl
    have hp0 : preE p 0 = [] := rfl
    have hn : partM p.2 M (behE p 0) = M := by
      refine partM_none _ _ fun j h1 h2 hm => ?_
      rw [hlen] at h2
      rcases Nat.eq_zero_or_pos j with h4 | h4
      · have := rises_mem _ _ h3 _ hm; omega
      · exact none_in j (by omega) (by omega) hm
    rw [hn, hp0, hb0]
    simp [partM]
  · have hbk : behE p k = (p.2.getD (k - 1) 0).toNat := if_neg h0
    have hpk : preE p k = partM p.2 (p.1.take (behE p k)) 0 ++ [45] := by rw [hbk]; exact if_neg h0
    have hk1 := rises_mem _ _ h3 _ (get_mem (show k - 1 < p.2.length by omega))
    have hh : partM p.2 M (behE p k) = 45 :: M := partM_hit _ _ (by omega) (by rw [hbk]; rw [show ((p.2.getD (k - 1) 0).toNat : Int) = p.2.getD (k - 1) 0 by omega]; exact get_mem (by omega)) (fun j h1 h2 => none_in j h1 (by omega))
    rw [hh, hpk]
    simp
theorem preE_end {p : TN} (h : excB p = true) : preE p p.2.length ++ p.1.drop (behE p p.2.length) = partL p := by
  obtain ⟨_, h2, h3⟩ := exc_parts h
  have h0 : p.2.length ≠ 0 := by omega
  have hbk : behE p p.2.length = (p.2.getD (p.2.length - 1) 0).toNat := if_neg h0
  have hpk : preE p p.2.length = partM p.2 (p.1.take (behE p p.2.length)) 0 ++ [45] := by rw [hbk]; exact if_neg h0
  have hk1 := rises_mem _ _ h3 _ (get_mem (show p.2.length - 1 < p.2.length by omega))
  have e : partL p = partM p.2 (p.1.take (behE p p.2.length)) 0 ++ partM p.2 (p.1.drop (behE p p.2.length)) (behE p p.2.length) := by
    have : p.1 = p.1.take (behE p p.2.length) ++ p.1.drop (behE p p.2.length) := (List.take_append_drop _ _).symm
    rw [partL]
    conv => lhs; rw [this]
    rw [partM_append, List.length_take, Nat.min_eq_left (by omega), Nat.zero_add]
  have hh : partM p.2 (p.1.drop (behE p p.2.length)) (behE p p.2.length) = 45 :: p.1.drop (behE p p.2.length) := by
    refine partM_hit _ _ (by rw [List.length_drop]; omega) (by rw [hbk]; rw [show ((p.2.getD (p.2.length - 1) 0).toNat : Int) = p.2.getD (p.2.length - 1) 0 by omega]; exact get_mem (by omega)) ?_
    intro j h1 _ hm
    obtain ⟨i, hi, he⟩ := mem_get hm
    rcases Nat.lt_or_ge i (p.2.length - 1) with h4 | h4
    · have := rises_lt _ _ h3 i (p.2.length - 1) h4 (by omega); omega
    · obtain rfl : i = p.2.length - 1 := by omega
      omega
  rw [e, hh, hpk]
  simp
theorem preE_length {p : TN} (h : excB p = true) : ∀ k, k ≤ p.2.length → (preE p k).length ≤ behE p k + k
  | 0, _ => by simp [preE]
  | k + 1, hk => by
    have ih := preE_length h k (by omega)
    have hb := behE_le h (show k < p.2.length by omega)
    have e : behE p (k + 1) = (p.2.getD k 0).toNat := by simp [behE]
    rw [preE_step h (by omega), e]
    simp only [List.length_append, List.length_cons, List.length_nil]
    have := List.length_take_le ((p.2.getD k 0).toNat - behE p k) (p.1.drop (behE p k))
    omega
/-- Rising places are no more than there is room. -/
theorem rises_length {n : Int} : ∀ (l : List Int) (least : Int), risesB n least l = true → least ≤ n → (l.length : Int) ≤ n - least
  | [], least, _, h => by simp; omega
  | a :: r, least, h, _ => by
    simp only [risesB, Bool.and_eq_true, decide_eq_true_eq] at h
    have := rises_length r (a + 1) h.2 (by omega)
    simp only [List.length_cons]
    omega
/-- An append of a text whose run is known. -/
theorem wpList_ranS {P : Program} {w w' : World} {ops : Array Oper} {rest : List Oper} {o : Oper} {a : Act} {Q : Exit → Act → World → Prop} {t u : TypeId} {v : Value} (hgd : o.guard = none) (s x : Operand)
    (ho : o.op = .call { callee := .builtin .append, args := #[s, x], argTypes := #[t, u] }) (hrun : (Builtin.append_ #[t, u] o.type #[a.eval s, a.eval x]).run P w = .ok v w')
    (h : wpList P ops Q rest (a.put o.dst v) w') : wpList P ops Q (o :: rest) a w := by
  refine wpList_plain hgd fun K hK => ?_
  unfold Oper.wp execOp
  simp only [ho, resolve, invoke, builtin, Sem.run_bind, Sem.run_pure, Result.andThen_ok, List.map_toArray, List.map_cons, List.map_nil, hrun]
  exact hK _ _ h
/-- append(own, text...). -/
theorem run_str {w w0 : World} {v : Value} {m : List UInt8} (h : OwnB 5 w0 w v m) (s : ByteArray) (hm : m.length + s.size ≤ 900000) (ty : TypeId) :
    ∃ v' w', (Builtin.append_ #[41, 9] ty #[v, .string s]).run Try.prog w = .ok v' w' ∧ OwnB 5 w0 w' v' (m ++ s.data.toList) := by
  obtain ⟨i, h1, h2, h3, h4⟩ := info_parts byte_info
  obtain ⟨v', w', hr, ho, hg, _⟩ := Lib.run_append_own_string (P := Try.prog) (w := w) w0.heap.size 41 9 ty 5 i Try.underlying41 Try.underlying9 h1 h2 h3 h4 v m.length (bv m) h.1 s (by unfold maxLen; omega) (by omega) h.2.size
  refine ⟨v', w', hr, ?_, Below.grown h.2 hg h.2.size (fun n e => (h.1.lt n e).1)⟩
  have e : Lib.strCells s = bv s.data.toList := by
    simp [Lib.strCells, bv]
  rw [e] at ho
  rw [List.length_append, bv_append, list_len]
  exact ho
end L10
end Go.Proofs.Ytenajekmnggkeaa

