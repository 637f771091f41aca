/- A slice that reads as a list. -/
import Derived.Test.YtmmgmcfhlhghoaaFrame
import Derived.OwnWalk
import Derived.Maps.AppendAt
import Derived.Laws.OwnMore
namespace Go.Proofs.Ytmmgmcfhlhghoaa
open Go.ChangeShapes Go.WideShapes Go.ChangeAt Go.RowKit

theorem addr_block (a : Addr) (n : Nat) : (a.add n).block = a.block := by unfold Addr.add; split <;> rfl
theorem addr_add (a : Addr) (i j : Nat) : (a.add i).add j = a.add (i + j) := by
  unfold Addr.add
  by_cases hi : i = 0 <;> by_cases hj : j = 0 <;> simp [hi, hj, Nat.add_assoc]

/-- A slice from address A on, whose elements are one cell each, reads as the values xs, and they lie below block B. -/
def Seen (B : Nat) (w : World) (A : Option Addr) (xs : List Value) : Prop :=
  ∀ k v, xs[k]? = some v → ∃ ad, A = some ad ∧ ad.block < B ∧ w.cell? (ad.add k) = some v

theorem seen_new (w : World) (cs : List Value) (t : TypeId) : Seen (w.alloc (.cells cs.toArray t)).heap.size (w.alloc (.cells cs.toArray t)) (some ⟨w.heap.size, 0, none⟩) cs := by
  intro k v hv
  refine ⟨_, rfl, by simp, ?_⟩
  have : ((⟨w.heap.size, 0, none⟩ : Addr).add k) = ⟨w.heap.size, k, none⟩ := by
    unfold Addr.add; by_cases h : k = 0 <;> simp [h]
  rw [this, World.cell?_alloc_at _ _ _ _ rfl]
  simpa using hv
theorem Seen.nil {B : Nat} {w : World} {A : Option Addr} : Seen B w A [] := fun k v h => by simp at h
theorem Seen.get {B : Nat} {w : World} {A : Option Addr} {xs : List Value} (h : Seen B w A xs) {k : Nat} (hk : k < xs.length) :
    ∃ ad, A = some ad ∧ ad.block < B ∧ w.cell? (ad.add k) = some xs[k] := h k _ (List.getElem?_eq_getElem hk)
theorem Seen.mono {B B' : Nat} {w : World} {A : Option Addr} {xs : List Value} (h : Seen B w A xs) (hB : B ≤ B') : Seen B' w A xs :=
  fun k v hv => by obtain ⟨ad, e, hb, hc⟩ := h k v hv; exact ⟨ad, e, by omega, hc⟩
theorem Seen.below {B : Nat} {w w' : World} {A : Option Addr} {xs : List Value} (h : Seen B w A xs) (hb : Below B w w') : Seen B w' A xs :=
  fun k v hv => by
    obtain ⟨ad, e, hl, hc⟩ := h k v hv
    exact ⟨ad, e, hl, (hb.cell (by rw [addr_block]; exact hl)).trans hc⟩
theorem Seen.ext {w w' : World} {A : Option Addr} {xs : List Value} (h : Seen w.heap.size w A xs) (hb : Ext w w') : Seen w'.heap.size w' A xs :=
  (h.below hb).mono hb.size

/-- What the form says of a slice of integers that came in. -/
theorem seen_ints {H : Type} {enc : TypeId × Value → H} {P : Program} {W : World} {base : Nat} {t e : TypeId} {k : IntKind} {v : Value} {d : DataW H} {p : List MemPlace}
    (ht : P.underlying t = some (.slice e)) (he : P.underlying e = some (.int k)) (hc : P.cellsOf e = 1)
    (hv : Value.okWide P W .any base t v) (h : DataW.Trod enc P W 0 (fun _ => true) true t v d p) :
    ∃ (A : Option Addr) (l : List Int) (c : Nat), v = .slice A l.length c ∧ l.length ≤ c ∧ c ≤ maxLen ∧ (∀ n ∈ l, (Lit.int k n).wf = true) ∧ Seen W.heap.size W A (l.map (.int k)) := by
  obtain ⟨a0, len0, cap0, rfl⟩ := okWide_slice ht hv
  obtain ⟨fuel, hf⟩ := h
  rcases open_ints ht he hc hf with ⟨hcs, _⟩ | ⟨x, n, c, zs, hcs, _, hl, hm, hz, hx, hcell, hwz⟩
  · simp [Value.cells] at hcs
    obtain ⟨rfl, rfl, rfl⟩ := hcs
    exact ⟨none, [], 0, rfl, by simp, by simp, by simp, Seen.nil⟩
  · simp [Value.cells] at hcs
    obtain ⟨rfl, rfl, rfl⟩ := hcs
    simp at hz
    have hlen : (zs.take len0).length = len0 := by simp; omega
    refine ⟨_, zs.take len0, cap0, by rw [hlen], by omega, hm, fun n hn => hwz n (List.mem_of_mem_take hn), ?_⟩
    intro k' v' hv'
    simp only [List.getElem?_map, Option.map_eq_some_iff] at hv'
    obtain ⟨z, hz', rfl⟩ := hv'
    have hk : k' < len0 := by
      have := (List.getElem?_eq_some_iff.1 hz').1
      rw [hlen] at this; exact this
    have h1 := hcell k' (by omega)
    refine ⟨x, rfl, ?_, ?_⟩
    · have := block_lt_of_cell h1
      rwa [addr_block] at this
    · rw [h1]
      have : zs[k']? = some z := by rw [← hz', List.getElem?_take, if_pos hk]
      simp [List.getD, this]

/-- The facts of a slice type t, whose elements are of type e, of so many cells and bytes. -/
structure SliceOf (P : Program) (t e : TypeId) (size bytes : Nat) : Prop where
  under : P.underlying t = some (.slice e)
  info : ∃ i z, P.info? e = some i ∧ i.zero = some z ∧ i.size = size ∧ i.bytes = bytes ∧ z.cells.size = size
  pos : 0 < size

theorem slice_of {P : Program} {t e : TypeId} {z : Value} {size bytes : Nat} (ht : P.underlying t = some (.slice e)) (h : (P.info? e).map (fun i => (i.zero, i.size, i.bytes)) = some (some z, size, bytes)) (hz : z.cells.size = size) (hp : 0 < size) : SliceOf P t e size bytes := by
  obtain ⟨i, h1, h2, h3, h4⟩ := info_parts h
  exact ⟨ht, ⟨i, z, h1, h2, h3, h4, hz⟩, hp⟩

/-- append of a slice that came in, or is one's own, nil or not, to one's own. -/
theorem wpList_put {P : Program} {w w0 : World} {ops : Array Oper} {rest : List Oper} {o : Oper} {a : Act} {Q : Exit → Act → World → Prop} {t e : TypeId} {size bytes : Nat} (T : SliceOf P t e size bytes)
    (hgd : o.guard = none) (s x : Operand) (ho : o.op = .call { callee := .builtin .append, args := #[s, x], argTypes := #[t, t] })
    {v : Value} {n : Nat} {xs : List Value} (hs : a.eval s = v) (hown : w.ownsRow w0.heap.size e size v n xs) (hx0 : Ext w0 w)
    {A : Option Addr} {m c B : Nat} {news : List Value} (hx : a.eval x = .slice A m c) (hl : news.length = m * size) (hn : Seen B w A news) (h1 : ∀ u ∈ news, u.oneCell' = true)
    (h63 : n + m ≤ 9223372036854775807) (hbytes : (n + m) * bytes ≤ 140737488355328)
    (h : ∀ v' w', w'.ownsRow w0.heap.size e size v' (n + m) (xs ++ news) → Ext w0 w' → w.grownBy w' v.ownBlock → (v'.ownBlock = v.ownBlock ∨ v'.ownBlock = some w.heap.size) → wpList P ops Q rest (a.put o.dst v') w') :
    wpList P ops Q (o :: rest) a w := by
  obtain ⟨ht, ⟨i, z, hi, hz, hsz, hby, hzs⟩, hpos⟩ := T
  have hm : n + m ≤ maxLen := by unfold maxLen; omega
  have hrow : ∀ k, v.ownBlock = some k → w0.heap.size ≤ k := fun k hk => (hown.lt k hk).1
  rcases A with _ | ad
  · have hm0 : m = 0 := by
      rcases Nat.eq_zero_or_pos m with h0 | h0
      · exact h0
      · have hlen : 0 < news.length := by rw [hl]; exact Nat.mul_pos h0 hpos
        obtain ⟨ad, h, _⟩ := hn 0 _ (List.getElem?_eq_getElem hlen)
        cases h
    subst hm0
    have hnews : news = [] := List.eq_nil_of_length_eq_zero (by simpa using hl)
    subst hnews
    refine wpList_plain hgd fun K hK => ?_
    have hrun : (Builtin.append_ #[t, t] o.type #[v, .slice none 0 c]).run P w = .ok v w := by
      rcases hown.2 with ⟨rfl, rfl⟩ | ⟨g, cap, cur, rfl, _, _, hnc, _⟩
      · simp [Builtin.append_, run_underlying ht, sizeOf, typeInfo, hi, Builtin.lenOf, Builtin.firstCells]
      · simp [Builtin.append_, run_underlying ht, sizeOf, typeInfo, hi, Builtin.lenOf, Builtin.firstCells, hnc, storeCells]
    unfold Oper.wp execOp
    simp only [ho, resolve, invoke, builtin, Sem.run_bind, Sem.run_pure, Result.andThen_ok, List.map_toArray, List.map_cons, List.map_nil, hs, hx, hrun]
    exact hK _ _ (h v w (by simpa using hown) hx0 (World.grownBy.refl w _) (.inl rfl))
  · refine wpList_append_own_at w hgd s x t ho w0.heap.size e i z size bytes ht hi hz hsz hby hzs hpos v n xs hs hown ad m c news hx hl ?_ h1 hm hbytes hx0.size ?_
    · intro j u hu
      obtain ⟨ad', he, _, hc⟩ := hn j u hu
      injection he with he
      subst he
      exact hc
    · intro v' w' hown' hg _ hat
      exact h v' w' hown' (Below.grown hx0 hg hx0.size hrow) hg hat

/-- What one owns is seen. -/
theorem own_seen {w : World} {base : Nat} {e : TypeId} {size n : Nat} {v : Value} {xs : List Value} (h : w.ownsRow base e size v n xs) : ∃ A c, v = .slice A n c ∧ Seen w.heap.size w A xs := by
  rcases h.2 with ⟨rfl, rfl⟩ | ⟨g, cap, cur, rfl, hb, hh, hnc, _⟩
  · have : xs = [] := List.eq_nil_of_length_eq_zero (by simpa using h.1)
    subst this
    exact ⟨none, 0, rfl, Seen.nil⟩
  · refine ⟨_, cap, rfl, fun k u hu => ⟨_, rfl, ?_, h.cells (g := g) rfl k u hu⟩⟩
    exact (h.lt g rfl).2

end Go.Proofs.Ytmmgmcfhlhghoaa

