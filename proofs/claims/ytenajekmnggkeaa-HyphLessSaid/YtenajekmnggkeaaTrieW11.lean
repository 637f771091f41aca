/- Layer 11: a trie's maps in memory. -/
import Derived.Test.YtenajekmnggkeaaTrie11
import Derived.Test.YtenajekmnggkeaaMapG11
import Derived.Test.YtenajekmnggkeaaBut11
namespace Go.Proofs.Ytenajekmnggkeaa
open Go.RowKit
namespace L11
open L10 (TN plainB patB)

/-! ### Numbers of nodes -/
def num (ns : List (List UInt8)) (q : List UInt8) : Int := ((ns.idxOf q + 1 : Nat) : Int)
/-- The node that a step leads to. -/
def stepN (ns : List (List UInt8)) (a : Int) (b : UInt8) : Option Int :=
  if 1 ≤ a then (match ns[(a - 1).toNat]? with
    | some q => if q ++ [b] ∈ ns then some (num ns (q ++ [b])) else none
    | none => none) else none
theorem num_pos (ns : List (List UInt8)) (q : List UInt8) : 1 ≤ num ns q := by unfold num; omega
theorem num_le {ns : List (List UInt8)} {q : List UInt8} (h : q ∈ ns) : num ns q ≤ ns.length := by
  have := List.idxOf_lt_length_of_mem h
  unfold num; omega
theorem num_nil {ns : List (List UInt8)} (h : Nds ns) : num ns [] = 1 := by
  have h0 := h.head
  cases ns with
  | nil => simp at h0
  | cons a r =>
    simp at h0
    subst h0
    simp [num, List.idxOf_cons_self]
theorem get_num {ns : List (List UInt8)} {q : List UInt8} (h : q ∈ ns) : ns[(num ns q - 1).toNat]? = some q := by
  have hl := List.idxOf_lt_length_of_mem h
  have e : (num ns q - 1).toNat = ns.idxOf q := by unfold num; omega
  rw [e, List.getElem?_eq_getElem hl, List.getElem_idxOf]
theorem num_inj {ns : List (List UInt8)} {q r : List UInt8} (hq : q ∈ ns) (hr : r ∈ ns) (h : num ns q = num ns r) : q = r := by
  have h1 := get_num hq
  rw [h, get_num hr] at h1
  exact (Option.some.inj h1).symm
theorem num_append {ns : List (List UInt8)} {q : List UInt8} (h : q ∈ ns) (m : List (List UInt8)) : num (ns ++ m) q = num ns q := by
  unfold num
  rw [List.idxOf_append, if_pos h]
theorem num_new {ns : List (List UInt8)} {q : List UInt8} (h : q ∉ ns) : num (ns ++ [q]) q = (ns.length : Int) + 1 := by
  unfold num
  rw [List.idxOf_append, if_neg h, List.idxOf_cons_self]
  omega
theorem stepN_num {ns : List (List UInt8)} {q : List UInt8} (h : q ∈ ns) (b : UInt8) : stepN ns (num ns q) b = if q ++ [b] ∈ ns then some (num ns (q ++ [b])) else none := by
  unfold stepN
  rw [if_pos (num_pos ns q), get_num h]
theorem stepN_add {ns : List (List UInt8)} (h : Nds ns) {q : List UInt8} {b : UInt8} (hq : q ∈ ns) (hn : q ++ [b] ∉ ns) (a : Int) (c : UInt8) :
    stepN (ns ++ [q ++ [b]]) a c = if a = num ns q ∧ c = b then some ((ns.length : Int) + 1) else stepN ns a c := by
  by_cases ha : 1 ≤ a
  · by_cases hk : (a - 1).toNat < ns.length
    · obtain ⟨r, hr⟩ : ∃ r, ns[(a - 1).toNat]? = some r := ⟨_, List.getElem?_eq_getElem hk⟩
      have hm : r ∈ ns := List.mem_of_getElem? hr
      have ea : a = num ns r := by
        have h1 := get_num hm
        have h2 : (num ns r - 1).toNat = (a - 1).toNat := by
          have hl := List.idxOf_lt_length_of_mem hm
          have e : (num ns r - 1).toNat = ns.idxOf r := by unfold num; omega
          rw [e]
          have e1 : ns[ns.idxOf r]? = ns[(a - 1).toNat]? := by rw [hr, ← h1, e]
          exact (List.getElem?_inj hl h.nodup).1 e1
        have := num_pos ns r
        omega
      subst ea
      have h1 : stepN (ns ++ [q ++ [b]]) (num ns r) c = if r ++ [c] ∈ ns ++ [q ++ [b]] then some (num (ns ++ [q ++ [b]]) (r ++ [c])) else none := by
        rw [← num_append hm [q ++ [b]]]
        exact stepN_num (List.mem_append.2 (.inl hm)) c
      rw [h1, stepN_num hm]
      by_cases e : r = q ∧ c = b
      · obtain ⟨rfl, rfl⟩ := e
        rw [if_pos (by simp), if_pos ⟨rfl, rfl⟩, num_new hn]
      · have e2 : ¬ (num ns r = num ns q ∧ c = b) := fun ⟨h3, h4⟩ => e ⟨num_inj hm hq h3, h4⟩
        rw [if_neg e2]
        have e3 : (r ++ [c] ∈ ns ++ [q ++ [b]]) ↔ r ++ [c] ∈ ns := by
          rw [List.mem_append]
          refine ⟨fun k => k.elim id (fun k => ?_), .inl⟩
          have e4 := List.mem_singleton.1 k
          exact absurd ⟨List.append_inj_left' e4 rfl, by simpa using List.append_inj_right' e4 rfl⟩ e
        by_cases h5 : r ++ [c] ∈ ns
        · rw [if_pos (e3.2 h5), if_pos h5, num_append h5]
        · rw [if_neg (fun k => h5 (e3.1 k)), if_neg h5]
    · have e1 : ns[(a - 1).toNat]? = none := List.getElem?_eq_none (by omega)
      have e2 : stepN ns a c = none := by unfold stepN; rw [if_pos ha, e1]
      have e3 : ¬ (a = num ns q ∧ c = b) := fun k => by have := num_le hq; omega
      rw [e2, if_neg e3]
      unfold stepN
      rw [if_pos ha]
      by_cases hk2 : (a - 1).toNat = ns.length
      · rw [hk2, List.getElem?_append_right (Nat.le_refl _)]
        simp only [Nat.sub_self, List.getElem?_cons_zero]
        rw [if_neg]
        intro k
        rcases List.mem_append.1 k with k | k
        · exact hn (h.closed _ _ k)
        · have := congrArg List.length (List.mem_singleton.1 k)
          simp at this
      · rw [List.getElem?_eq_none (by simp; omega)]
  · have e3 : ¬ (a = num ns q ∧ c = b) := fun k => by have := num_pos ns q; omega
    rw [if_neg e3]
    unfold stepN
    rw [if_neg ha, if_neg ha]

/-! ### Keys -/
def keyS (a : Int) (b : UInt8) : Value := .agg #[.int .i64 a, .int .u8 (b.toNat : Int)]
theorem keyS_inj {a c : Int} {b d : UInt8} (h : keyS a b = keyS c d) : a = c ∧ b = d := by
  simp only [keyS, Value.agg.injEq] at h
  have h0 : (#[Value.int .i64 a, .int .u8 (b.toNat : Int)] : Array Value)[0]? = (#[Value.int .i64 c, .int .u8 (d.toNat : Int)] : Array Value)[0]? := by rw [h]
  have h1 : (#[Value.int .i64 a, .int .u8 (b.toNat : Int)] : Array Value)[1]? = (#[Value.int .i64 c, .int .u8 (d.toNat : Int)] : Array Value)[1]? := by rw [h]
  simp at h0 h1
  exact ⟨h0, UInt8.toNat.inj (by omega)⟩
theorem step_law : Maps.Keyed Try.prog 94 := Maps.Keyed.of_law (deep_law_laid laidOut (m := 2) (by omega) (of_decide_eq_true (by kernel_rfl)) (by kernel_rfl) (by kernel_rfl))
theorem node_law : Maps.Keyed Try.prog 91 := Maps.int_keyed Try.underlying91
theorem wf64 {x : Int} (h : -9223372036854775808 ≤ x ∧ x ≤ 9223372036854775807) : (Lit.int .i64 x).wf = true := by
  simp only [Lit.wf, IntKind.min, IntKind.max, IntKind.signed, IntKind.bits, Bool.and_eq_true, decide_eq_true_eq, if_true]
  omega
theorem wf8 (b : UInt8) : (Lit.int .u8 (b.toNat : Int)).wf = true := by
  have := b.toNat_lt
  simp only [Lit.wf, IntKind.min, IntKind.max, IntKind.signed, IntKind.bits, Bool.and_eq_true]
  simp
  omega
theorem size_two : ∃ n, Try.prog.types.size + 1 = n + 2 := ⟨Try.prog.types.size - 1, by have : 1 ≤ Try.prog.types.size := by decide +kernel
                                                                                        omega⟩
theorem keyS_lit (a : Int) (b : UInt8) (h : -9223372036854775808 ≤ a ∧ a ≤ 9223372036854775807) : ∃ l, keyOf Try.prog 94 (keyS a b) = some l := by
  obtain ⟨n, hn⟩ := size_two
  have h1 := wf64 h
  have h2 := wf8 b
  have hc : Try.prog.cellsOf 94 = 2 := by kernel_rfl
  have hc0 : Try.prog.cellsOf 91 = 1 := by kernel_rfl
  have hc1 : Try.prog.cellsOf 5 = 1 := by kernel_rfl
  have hk : Try.prog.keyType 94 = true := by kernel_rfl
  unfold keyOf
  simp only [Try.underlying94, hk, Bool.true_and]
  have hf : (keyS a b).formed Try.prog 94 = true := by
    simp [keyS, Value.formed, Try.underlying94, hc]
  rw [if_pos hf, hn]
  simp [keyS, Value.cells, Program.keyLits, Try.underlying94, Try.underlying91, Try.underlying5, hc, hc0, hc1, h1, h2]
end L11
end Go.Proofs.Ytenajekmnggkeaa

