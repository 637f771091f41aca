/- Layer 11: a trie's steps, and its values, in memory. -/
import Derived.Test.YtenajekmnggkeaaTrieW11
namespace Go.Proofs.Ytenajekmnggkeaa
open Go.RowKit
namespace L11
open L10 (TN plainB patB)

theorem num_of_get {ns : List (List UInt8)} (N : Nds ns) {a : Int} {r : List UInt8} (ha : 1 ≤ a) (hr : ns[(a - 1).toNat]? = some r) : a = num ns r := by
  have hm : r ∈ ns := List.mem_of_getElem? hr
  have hl := List.idxOf_lt_length_of_mem hm
  have e : (num ns r - 1).toNat = ns.idxOf r := by unfold num; omega
  have h1 := get_num hm
  rw [e] at h1
  have h2 : ns.idxOf r = (a - 1).toNat := (List.getElem?_inj hl N.nodup).1 (h1.trans hr.symm)
  unfold num
  omega
/-! ### Steps -/
/-- The map of steps. -/
def StepsAt (w : World) (bs n : Nat) (ns : List (List UInt8)) : Prop :=
  ∃ m, MapG Try.prog 94 (plainElem Try.prog 91) w bs n m ∧ ∀ a b, m (keyS a b) = (stepN ns a b).map fun c => .lit (.int .i64 c)
theorem StepsAt.lt {w : World} {bs n : Nat} {ns : List (List UInt8)} (h : StepsAt w bs n ns) : bs < w.heap.size := by
  obtain ⟨m, hm, _⟩ := h
  exact hm.lt
theorem StepsAt.block {w w' : World} {bs n : Nat} {ns : List (List UInt8)} (h : StepsAt w bs n ns) (e : w'.heap[bs]? = w.heap[bs]?) : StepsAt w' bs n ns := by
  obtain ⟨m, hm, q⟩ := h
  exact ⟨m, hm.block e, q⟩
theorem StepsAt.not_block {w : World} {bs n k : Nat} {ns : List (List UInt8)} (h : StepsAt w bs n ns) {cs : List Value} {t : TypeId} (hc : Blk w k t cs) : k ≠ bs := by
  obtain ⟨m, hm, _⟩ := h
  exact hm.not_block hc
theorem StepsAt.made (w : World) : StepsAt (w.alloc (.map #[] 0)) w.heap.size 0 [[]] := by
  refine ⟨_, MapG.made w, fun a b => ?_⟩
  have e : stepN [[]] a b = none := by
    unfold stepN
    split
    · split
      · rename_i q hq
        rw [if_neg]
        have hm : q ∈ [([] : List UInt8)] := List.mem_of_getElem? hq
        rw [List.mem_singleton.1 hm]
        simp
      · rfl
    · rfl
  rw [e]; rfl
theorem zero_node (w : World) : (zeroValue 91).run Try.prog w = .ok (.int .i64 0) w := by kernel_rfl
theorem plain_node (c : Int) (h : -9223372036854775808 ≤ c ∧ c ≤ 9223372036854775807) : plainElem (H := Unit) Try.prog 91 (.int .i64 c) = some (.lit (.int .i64 c), []) := plainElem_int Try.underlying91 (wf64 h)
/-- What is looked up. -/
theorem StepsAt.look {w : World} {bs n : Nat} {ns : List (List UInt8)} (h : StepsAt w bs n ns) (a : Int) (b : UInt8) (ha : -9223372036854775808 ≤ a ∧ a ≤ 9223372036854775807) :
    (Instr.lookup 70 (.map (some bs)) (.agg #[.int .i64 a, .int .u8 (b.toNat : Int)]) true).run Try.prog w = .ok (.tuple #[.int .i64 ((stepN ns a b).getD 0), .bool (stepN ns a b).isSome]) w := by
  obtain ⟨m, hm, q⟩ := h
  obtain ⟨l, hl⟩ := keyS_lit a b ha
  obtain ⟨v, ps, hr, hv⟩ := hm.look step_law Try.underlying70 (zero_node w) (plain_node 0 (by omega)) hl
  have e : (.agg #[.int .i64 a, .int .u8 (b.toNat : Int)] : Value) = keyS a b := rfl
  rw [e, hr, q]
  rw [q] at hv
  obtain ⟨c, rfl, hc, _⟩ := plainElem_int_inv Try.underlying91 hv
  simp only [Prod.mk.injEq] at hc
  cases hs : stepN ns a b with
  | none =>
    rw [hs] at hc
    obtain rfl : c = 0 := by have := hc.1; simp at this; exact this.symm
    rfl
  | some d =>
    rw [hs] at hc
    obtain rfl : c = d := by have := hc.1; simp at this; exact this.symm
    rfl
/-- What is stored: a node more. -/
theorem StepsAt.store {w : World} {bs n : Nat} {ns : List (List UInt8)} (h : StepsAt w bs n ns) (N : Nds ns) {q : List UInt8} {b : UInt8} (hq : q ∈ ns) (hn : q ++ [b] ∉ ns) (hl : n < 1000000) (hns : ns.length < 1000000) :
    ∃ w', (Instr.mapUpdate 70 (.map (some bs)) (.agg #[.int .i64 (num ns q), .int .u8 (b.toNat : Int)]) (.int .i64 ((ns.length : Int) + 1))).run Try.prog w = .ok () w' ∧ StepsAt w' bs (n + 1) (ns ++ [q ++ [b]]) ∧ w.grownBy w' (some bs) := by
  obtain ⟨m, hm, hmq⟩ := h
  have h1 := num_pos ns q
  have h2 := num_le hq
  obtain ⟨l, hl'⟩ := keyS_lit (num ns q) b (by omega)
  obtain ⟨w', hr, hm', hg⟩ := hm.store step_law Try.underlying70 (by unfold maxLen; omega) hl' (plain_node ((ns.length : Int) + 1) (by omega))
  refine ⟨w', hr, ⟨_, hm', fun a c => ?_⟩, hg⟩
  rw [stepN_add N hq hn]
  by_cases e : keyS a c = keyS (num ns q) b
  · obtain ⟨rfl, rfl⟩ := keyS_inj e
    simp
  · simp only [if_neg e]
    rw [if_neg (fun k => e (by rw [k.1, k.2])), hmq]

/-! ### Values -/
/-- How an element reads: a row of one's own, or none. -/
def rowElem (v : Value) : Option (DataW Unit × List MemPlace) := match v with
  | .slice none 0 0 => some (.nil, [])
  | .slice (some ⟨g, 0, none⟩) n c => some (.agg [.lit (.int .i64 g), .lit (.int .i64 n), .lit (.int .i64 c)], [])
  | _ => none
def rowD (x : Nat × Nat) : DataW Unit := .agg [.lit (.int .i64 x.1), .lit (.int .i64 x.2), .lit (.int .i64 x.2)]
def rowV (x : Option (Nat × Nat)) : Value := match x with
  | some (g, n) => .slice (some ⟨g, 0, none⟩) n n
  | none => .slice none 0 0
theorem rowElem_nil : rowElem (.slice none 0 0) = some (.nil, []) := rfl
theorem rowElem_some (g n : Nat) : rowElem (.slice (some ⟨g, 0, none⟩) n n) = some (rowD (g, n), []) := rfl
theorem rowElem_inv {v : Value} {ps : List MemPlace} : ∀ {x : Option (Nat × Nat)}, rowElem v = some ((x.map rowD).getD .nil, ps) → v = rowV x := by
  intro x h
  unfold rowElem at h
  split at h
  · cases x with
    | none => rfl
    | some x => simp [rowD] at h
  · cases x with
    | none => simp at h
    | some x =>
      simp [rowD] at h
      obtain ⟨⟨h1, h2, h3⟩, _⟩ := h
      obtain ⟨g, n⟩ := x
      simp only at h1 h2 h3
      rw [rowV]
      congr <;> omega
  · cases h
/-- The row of a node, of which the patterns' letters are ks. -/
def valN (ns : List (List UInt8)) (ks : List (List UInt8)) (G : List UInt8 → Nat) (a : Int) : Option (Nat × Nat) :=
  if 1 ≤ a then (match ns[(a - 1).toNat]? with
    | some q => if q ∈ ks then some (G q, q.length + 1) else none
    | none => none) else none
theorem valN_num {ns ks : List (List UInt8)} {G : List UInt8 → Nat} {q : List UInt8} (h : q ∈ ns) : valN ns ks G (num ns q) = if q ∈ ks then some (G q, q.length + 1) else none := by
  unfold valN
  rw [if_pos (num_pos ns q), get_num h]
theorem valN_grow {ns ks : List (List UInt8)} {G : List UInt8 → Nat} {r : List UInt8} (h : r ∉ ks) (a : Int) : valN (ns ++ [r]) ks G a = valN ns ks G a := by
  unfold valN
  split
  · by_cases h1 : (a - 1).toNat < ns.length
    · rw [List.getElem?_append_left h1]
    · rw [List.getElem?_eq_none (l := ns) (by omega)]
      by_cases h2 : (a - 1).toNat = ns.length
      · rw [h2, List.getElem?_append_right (Nat.le_refl _)]
        simp only [Nat.sub_self, List.getElem?_cons_zero]
        rw [if_neg h]
      · rw [List.getElem?_eq_none (by simp; omega)]
  · rfl
/-- A node's row. -/
def rowL (p : List TN) (q : List UInt8) : List Value := (List.range (q.length + 1)).map fun k => .int .i64 (valF p q k)
def keysL (p : List TN) : List (List UInt8) := p.map (·.1)
/-- The map of values, and the rows. -/
structure RowsAt (w : World) (bv n : Nat) (ns : List (List UInt8)) (p : List TN) (G : List UInt8 → Nat) : Prop where
  map : ∃ m, MapG Try.prog 91 rowElem w bv n m ∧ ∀ a, m (.int .i64 a) = (valN ns (keysL p) G a).map rowD
  row : ∀ q, q ∈ keysL p → Blk w (G q) 3 (rowL p q)
  inj : ∀ q r, q ∈ keysL p → r ∈ keysL p → G q = G r → q = r
theorem RowsAt.lt {w : World} {bv n : Nat} {ns : List (List UInt8)} {p : List TN} {G : List UInt8 → Nat} (h : RowsAt w bv n ns p G) : bv < w.heap.size := by
  obtain ⟨⟨m, hm, _⟩, _⟩ := h
  exact hm.lt
theorem RowsAt.not_block {w : World} {bv n k : Nat} {ns : List (List UInt8)} {p : List TN} {G : List UInt8 → Nat} (h : RowsAt w bv n ns p G) {cs : List Value} {t : TypeId} (hc : Blk w k t cs) : k ≠ bv := by
  obtain ⟨⟨m, hm, _⟩, _⟩ := h
  exact hm.not_block hc
theorem RowsAt.keep {w w' : World} {bv n : Nat} {ns : List (List UInt8)} {p : List TN} {G : List UInt8 → Nat} (h : RowsAt w bv n ns p G) (e : w'.heap[bv]? = w.heap[bv]?) (er : ∀ q, q ∈ keysL p → w'.heap[G q]? = w.heap[G q]?) : RowsAt w' bv n ns p G := by
  obtain ⟨⟨m, hm, q⟩, hr, hi⟩ := h
  exact ⟨⟨m, hm.block e, q⟩, fun q hq => (er q hq).trans (hr q hq), hi⟩
theorem RowsAt.grow {w : World} {bv n : Nat} {ns : List (List UInt8)} {p : List TN} {G : List UInt8 → Nat} (h : RowsAt w bv n ns p G) {r : List UInt8} (hr : r ∉ keysL p) : RowsAt w bv n (ns ++ [r]) p G := by
  obtain ⟨⟨m, hm, q⟩, hrow, hi⟩ := h
  exact ⟨⟨m, hm, fun a => by rw [valN_grow hr]; exact q a⟩, hrow, hi⟩
theorem RowsAt.made (w : World) (G : List UInt8 → Nat) : RowsAt (w.alloc (.map #[] 0)) w.heap.size 0 [[]] [] G := by
  refine ⟨⟨_, MapG.made w, fun a => ?_⟩, fun q hq => by simp [keysL] at hq, fun q r hq => by simp [keysL] at hq⟩
  have e : valN [[]] (keysL []) G a = none := by
    unfold valN
    split
    · split
      · rw [if_neg (by simp [keysL])]
      · rfl
    · rfl
  rw [e]; rfl
theorem RowsAt.congr {w : World} {bv n : Nat} {ns : List (List UInt8)} {p p' : List TN} {G : List UInt8 → Nat} (h : RowsAt w bv n ns p G) (hk : ∀ q, q ∈ keysL p' ↔ q ∈ keysL p) (hv : ∀ q k, q ∈ keysL p → valF p' q k = valF p q k) : RowsAt w bv n ns p' G := by
  obtain ⟨⟨m, hm, hq⟩, hrow, hi⟩ := h
  refine ⟨⟨m, hm, fun a => ?_⟩, fun q h1 => ?_, fun q r h1 h2 => hi q r ((hk q).1 h1) ((hk r).1 h2)⟩
  · rw [hq]
    refine congrArg (Option.map rowD) ?_
    unfold valN
    split
    · split
      · rename_i q _
        by_cases h2 : q ∈ keysL p
        · rw [if_pos h2, if_pos ((hk q).2 h2)]
        · rw [if_neg h2, if_neg (fun k => h2 ((hk q).1 k))]
      · rfl
    · rfl
  · have h2 := (hk q).1 h1
    have := hrow q h2
    have e : rowL p' q = rowL p q := List.map_congr_left fun k _ => by rw [hv q k h2]
    rw [e]; exact this
theorem zero_ints (w : World) : (zeroValue 26).run Try.prog w = .ok (.slice none 0 0) w := by kernel_rfl
theorem node_key {a : Int} (h : -9223372036854775808 ≤ a ∧ a ≤ 9223372036854775807) : keyOf Try.prog 91 (.int .i64 a) = some (.int .i64 a) := Maps.keyOf_int_mk Try.underlying91 (wf64 h)
/-- What is looked up. -/
theorem RowsAt.look {w : World} {bv n : Nat} {ns : List (List UInt8)} {p : List TN} {G : List UInt8 → Nat} (h : RowsAt w bv n ns p G) (a : Int) (ha : -9223372036854775808 ≤ a ∧ a ≤ 9223372036854775807) :
    (Instr.lookup 71 (.map (some bv)) (.int .i64 a) false).run Try.prog w = .ok (rowV (valN ns (keysL p) G a)) w := by
  obtain ⟨⟨m, hm, q⟩, _, _⟩ := h
  obtain ⟨v, ps, hr, hv⟩ := hm.look1 node_law Try.underlying71 (zero_ints w) rowElem_nil (node_key ha)
  rw [hr]
  rw [q] at hv
  rw [rowElem_inv hv]
theorem valF_zeros (p : List TN) (q : List UInt8) (n : Nat) (h : ∀ x ∈ p, x.1 ≠ q) (k : Nat) : valF (p ++ [(q, List.replicate n 0)]) q k = 0 := by
  have h1 := valF_same p (q, List.replicate n 0) k
  simp only at h1
  rw [h1, valF_none h]
  by_cases hk : k < n
  · simp [List.getD, hk]
  · simp [List.getD, hk]
theorem keysL_snoc (p : List TN) (x : TN) (q : List UInt8) : q ∈ keysL (p ++ [x]) ↔ q ∈ keysL p ∨ q = x.1 := by simp [keysL]
/-- A row of noughts more, of block g. -/
theorem RowsAt.new {w : World} {bv n : Nat} {ns : List (List UInt8)} {p : List TN} {G : List UInt8 → Nat} (h : RowsAt w bv n ns p G) (N : Nds ns) {q : List UInt8} (hq : q ∈ ns) (hk : q ∉ keysL p) (hl : n < 1000000) (hns : ns.length < 1000000)
    {g : Nat} (hg : Blk w g 3 ((List.range (q.length + 1)).map fun _ => .int .i64 0)) (hG : ∀ r, r ∈ keysL p → G r ≠ g) :
    ∃ w', (Instr.mapUpdate 71 (.map (some bv)) (.int .i64 (num ns q)) (.slice (some ⟨g, 0, none⟩) (q.length + 1) (q.length + 1))).run Try.prog w = .ok () w' ∧
      RowsAt w' bv (n + 1) ns (p ++ [(q, List.replicate (q.length + 1) 0)]) (fun r => if r = q then g else G r) ∧ w.grownBy w' (some bv) := by
  have hne : g ≠ bv := h.not_block hg
  have hbv := h.lt
  have hrb : ∀ r, r ∈ keysL p → G r ≠ bv := fun r hr => h.not_block (h.row r hr)
  obtain ⟨⟨m, hm, hmq⟩, hrow, hi⟩ := h
  have h1 := num_pos ns q
  have h2 := num_le hq
  obtain ⟨w', hr, hm', hgr⟩ := hm.store node_law Try.underlying71 (by unfold maxLen; omega) (node_key (a := num ns q) (by omega)) (rowElem_some g (q.length + 1))
  have keep : ∀ b, b < w.heap.size → b ≠ bv → w'.heap[b]? = w.heap[b]? := fun b hb hn => hgr.block b hb (fun e => hn (by cases e; rfl))
  have hself : valN ns (keysL (p ++ [(q, List.replicate (q.length + 1) 0)])) (fun r => if r = q then g else G r) (num ns q) = some (g, q.length + 1) := by
    rw [valN_num hq, if_pos ((keysL_snoc _ _ _).2 (.inr rfl)), if_pos rfl]
  refine ⟨w', hr, ⟨⟨_, hm', fun a => ?_⟩, fun r hr => ?_, fun r s hr hs e => ?_⟩, hgr⟩
  · by_cases e : a = num ns q
    · rw [e, hself, if_pos rfl]
      rfl
    · have e1 : ¬ (Value.int .i64 a) = .int .i64 (num ns q) := fun k => e (by cases k; rfl)
      refine (if_neg e1).trans ?_
      rw [hmq]
      refine congrArg (Option.map rowD) ?_
      unfold valN
      split
      · rename_i ha
        split
        · rename_i r hr
          have hne2 : r ≠ q := fun k => e (by rw [← k]; exact num_of_get N ha hr)
          by_cases h5 : r ∈ keysL p
          · rw [if_pos h5, if_pos ((keysL_snoc _ _ _).2 (.inl h5))]
            show _ = some ((if r = q then g else G r), r.length + 1)
            rw [if_neg hne2]
          · rw [if_neg h5, if_neg (fun k => ((keysL_snoc _ _ _).1 k).elim h5 hne2)]
        · rfl
      · rfl
  · by_cases e : r = q
    · subst e
      rw [if_pos rfl]
      have h3 : Blk w' g 3 ((List.range (r.length + 1)).map fun _ => .int .i64 0) := (keep g hg.lt hne).trans hg
      have h4 : rowL (p ++ [(r, List.replicate (r.length + 1) 0)]) r = (List.range (r.length + 1)).map fun _ => .int .i64 0 := List.map_congr_left fun k _ => by
        rw [valF_zeros]
        exact fun x hx e => hk (by rw [← e]; exact List.mem_map.2 ⟨x, hx, rfl⟩)
      rw [h4]; exact h3
    · rw [if_neg e]
      have hr' : r ∈ keysL p := ((keysL_snoc _ _ _).1 hr).elim id (fun k => absurd k e)
      have h3 : rowL (p ++ [(q, List.replicate (q.length + 1) 0)]) r = rowL p r := List.map_congr_left fun k _ => by
        have := valF_other p (q, List.replicate (q.length + 1) 0) (q := r) (fun k => e k.symm) k
        rw [this]
      rw [h3]
      exact (keep _ (hrow r hr').lt (hrb r hr')).trans (hrow r hr')
  · by_cases e1 : r = q
    · by_cases e2 : s = q
      · rw [e1, e2]
      · rw [if_pos e1, if_neg e2] at e
        exact absurd e.symm (hG s (((keysL_snoc _ _ _).1 hs).elim id (fun k => absurd k e2)))
    · by_cases e2 : s = q
      · rw [if_neg e1, if_pos e2] at e
        exact absurd e (hG r (((keysL_snoc _ _ _).1 hr).elim id (fun k => absurd k e1)))
      · rw [if_neg e1, if_neg e2] at e
        exact hi r s (((keysL_snoc _ _ _).1 hr).elim id (fun k => absurd k e1)) (((keysL_snoc _ _ _).1 hs).elim id (fun k => absurd k e2)) e
/-- A row that is lifted by a pattern's values. -/
theorem RowsAt.lift {w w' : World} {bv n : Nat} {ns : List (List UInt8)} {p : List TN} {G : List UInt8 → Nat} (h : RowsAt w bv n ns p G) (x : TN) (hx : x.1 ∈ keysL p) (hb : But (Only (G x.1)) w w')
    (hg : Blk w' (G x.1) 3 ((List.range (x.1.length + 1)).map fun k => .int .i64 (max (valF p x.1 k) (x.2.getD k 0)))) : RowsAt w' bv n ns (p ++ [x]) G := by
  have hbv := h.lt
  have hrb : ∀ r, r ∈ keysL p → G r ≠ bv := fun r hr => h.not_block (h.row r hr)
  obtain ⟨⟨m, hm, hmq⟩, hrow, hi⟩ := h
  have hk : ∀ q, q ∈ keysL (p ++ [x]) ↔ q ∈ keysL p := fun q => by
    rw [keysL_snoc]
    exact ⟨fun k => k.elim id (fun k => by rw [k]; exact hx), .inl⟩
  refine ⟨⟨m, hm.block (hb.block bv hbv (fun e => hrb _ hx e.symm)), fun a => ?_⟩, fun q hq => ?_, fun q r hq hr => hi q r ((hk q).1 hq) ((hk r).1 hr)⟩
  · rw [hmq]
    refine congrArg (Option.map rowD) ?_
    unfold valN
    split
    · split
      · rename_i q _
        by_cases h2 : q ∈ keysL p
        · rw [if_pos h2, if_pos ((hk q).2 h2)]
        · rw [if_neg h2, if_neg (fun k => h2 ((hk q).1 k))]
      · rfl
    · rfl
  · have hq' := (hk q).1 hq
    by_cases e : q = x.1
    · subst e
      have h3 : rowL (p ++ [x]) x.1 = (List.range (x.1.length + 1)).map fun k => .int .i64 (max (valF p x.1 k) (x.2.getD k 0)) := List.map_congr_left fun k _ => by rw [valF_same]
      rw [h3]; exact hg
    · have h3 : rowL (p ++ [x]) q = rowL p q := List.map_congr_left fun k _ => by rw [valF_other p x (fun k => e k.symm)]
      rw [h3]
      exact hb.blk (hrow q hq') (fun k => e (hi q x.1 hq' hx k))
end L11
end Go.Proofs.Ytenajekmnggkeaa

