/- What changes is at a few places alone: cells elsewhere stay. Any program. -/
import Derived.Test.YteflkagilhmeiaaDoorBytes
import Derived.Test.YteflkagilhmeiaaDoorRowF
import Derived.RangeFuncBox
import Derived.Maps.AppendAt
namespace Go.Proofs.YteflkagilhmeiaaDoor
open Go.RowKit

/-- All cells but those at T are as they were; so is all that lies below N. -/
structure Chg (T : Addr → Prop) (N : Nat) (w w' : World) : Prop where
  size : w.heap.size ≤ w'.heap.size
  cell : ∀ p v, ¬ T p → w.cell? p = some v → w'.cell? p = some v
  fz : ∀ p v, ¬ T p → w.cell? p = some v → w.frozen? p = false → w'.frozen? p = false
  blk : ∀ b cs t f, (∀ o, ¬ T ⟨b, o, none⟩) → w.heap[b]? = some (.cells cs t f) → w'.heap[b]? = some (.cells cs t f)
  old : ∀ w0, w0.heap.size ≤ N → Ext w0 w → Ext w0 w'
theorem Chg.refl (T : Addr → Prop) (N : Nat) (w : World) : Chg T N w w := ⟨Nat.le_refl _, fun _ _ _ h => h, fun _ _ _ _ h => h, fun _ _ _ _ _ h => h, fun _ _ h => h⟩
theorem Chg.trans {T : Addr → Prop} {N : Nat} {a b c : World} (h : Chg T N a b) (k : Chg T N b c) : Chg T N a c :=
  ⟨Nat.le_trans h.size k.size, fun p v hp hc => k.cell p v hp (h.cell p v hp hc), fun p v hp hc hf => k.fz p v hp (h.cell p v hp hc) (h.fz p v hp hc hf), fun b cs t f hb hc => k.blk b cs t f hb (h.blk b cs t f hb hc), fun w0 l x => k.old w0 l (h.old w0 l x)⟩
theorem Chg.of_ext {T : Addr → Prop} {N : Nat} {a b : World} (x : Ext a b) : Chg T N a b :=
  ⟨x.size, fun _ _ _ hc => x.at hc, fun _ _ _ hc hf => x.fz hc hf, fun b _ _ _ _ hc => (x.block b (Array.getElem?_eq_some_iff.1 hc).1).trans hc, fun _ _ y => y.trans x⟩
theorem Chg.wide {T U : Addr → Prop} {N M : Nat} {a b : World} (h : Chg T N a b) (hTU : ∀ p, T p → U p) (hM : M ≤ N) : Chg U M a b :=
  ⟨h.size, fun p v hp => h.cell p v (fun t => hp (hTU p t)), fun p v hp => h.fz p v (fun t => hp (hTU p t)), fun b cs t f hb => h.blk b cs t f (fun o t => hb o (hTU _ t)), fun w0 l => h.old w0 (by omega)⟩
theorem Chg.set {T : Addr → Prop} {N : Nat} (w : World) (g o : Nat) (u : Value) (ht : T ⟨g, o, none⟩) (hg : N ≤ g) : Chg T N w (w.setCell ⟨g, o, none⟩ u) := by
  refine ⟨Nat.le_of_eq (by simp [World.setCell]), fun p v hp hc => ?_, fun p v _ _ hf => by rw [World.frozen?_setCell]; exact hf, fun b cs t f hb hc => ?_, fun w0 l x => x.setCell (by simp; omega) u⟩
  · have hne : (⟨g, o, none⟩ : Addr) ≠ p := fun e => hp (by rw [← e]; exact ht)
    rw [World.cell?_setCell_other _ _ _ _ hne]
    exact hc
  · show (w.heap.modify g _)[b]? = _
    rw [Array.getElem?_modify, if_neg (fun e => hb o (by rw [← e]; exact ht)), hc]
theorem cell_of_block {w w' : World} {p : Addr} (h : w'.heap[p.block]? = w.heap[p.block]?) : w'.cell? p = w.cell? p ∧ w'.frozen? p = w.frozen? p := by
  unfold World.cell? World.frozen?
  rw [h]
  exact ⟨rfl, rfl⟩
theorem Chg.grown {T : Addr → Prop} {N : Nat} {a b c : World} {row : Option Nat} (h : Chg T N a b) (x : b.grownBy c row) (hr : ∀ k, row = some k → a.heap.size ≤ k) (hN : N ≤ a.heap.size) : Chg T N a c := by
  have e : ∀ p v, a.cell? p = some v → c.cell? p = b.cell? p ∧ c.frozen? p = b.frozen? p := fun p v hc => by
    have hlt := World.block_lt_of_cell? a _ hc
    exact cell_of_block (x.block p.block (Nat.lt_of_lt_of_le hlt h.size) fun e => by have := hr _ e.symm; omega)
  refine ⟨Nat.le_trans h.size x.size, fun p v hp hc => (e p v hc).1.trans (h.cell p v hp hc), fun p v hp hc hf => (e p v hc).2.trans (h.fz p v hp hc hf), fun n cs t f hb hc => ?_, fun w0 l y => ?_⟩
  · have hlt := (Array.getElem?_eq_some_iff.1 hc).1
    exact (x.block n (Nat.lt_of_lt_of_le hlt h.size) fun e => by have := hr _ e.symm; omega).trans (h.blk n cs t f hb hc)
  exact Below.grown (h.old w0 l y) x (h.old w0 l y).size fun k hk => Nat.le_trans l (Nat.le_trans hN (hr k hk))

/-- append(own, more...), whatever the elements are. -/
theorem run_putV {P : Program} {w : World} {base : Nat} (t ty e : TypeId) (z : Value) (size bytes : Nat) (ht : P.underlying t = some (.slice e)) (hz : (P.info? e).map (fun i => (i.zero, i.size, i.bytes)) = some (some z, size, bytes))
    (hzs : z.cells.size = size) (hsz : 0 < size) (hb : bytes ≤ 1000) {v : Value} {n : Nat} {xs : List Value} (hown : w.ownsRow base e size v n xs) (a : Addr) (m c : Nat) (news : List Value) (hl : news.length = m * size)
    (hnews : ∀ j u, news[j]? = some u → w.cell? (a.add j) = some u) (h1 : ∀ u ∈ news, u.oneCell' = true) (hm : n + m ≤ 1000000) (hbase : base ≤ w.heap.size) :
    ∃ A' c' w', (Builtin.append_ #[t, t] ty #[v, .slice (some a) m c]).run P w = .ok (.slice A' (n + m) c') w' ∧ w'.ownsRow base e size (.slice A' (n + m) c') (n + m) (xs ++ news) ∧ w.grownBy w' v.ownBlock := by
  obtain ⟨i, hi, hz0, hsz', hby⟩ := info_parts hz
  obtain ⟨v', w', hr, ho, hg, _, _⟩ := run_append_own_at (P := P) w base t ty e i z size bytes ht hi hz0 hsz' hby hzs hsz v n xs hown a m c news hl hnews h1 (by unfold maxLen; omega)
    (Nat.le_trans (Nat.mul_le_mul hm hb) (by omega)) hbase
  obtain ⟨A', c', rfl, _⟩ := own_seen ho
  exact ⟨A', c', w', hr, ho, hg⟩

/-- A row of integers of one's own reads as a function of the place. -/
theorem own_rowF {w : World} {base : Nat} {e : TypeId} {v : Value} {n : Nat} {f : Nat → Int} (h : w.ownsRow base e 1 v n ((List.range n).map fun j => .int .i64 (f j))) :
    ∃ A c, v = .slice A n c ∧ n ≤ c ∧ c ≤ maxLen ∧ ∀ j, j < n → ∃ r, A = some ⟨r, 0, none⟩ ∧ base ≤ r ∧ r < w.heap.size ∧ w.cell? ⟨r, j, none⟩ = some (.int .i64 (f j)) := by
  obtain ⟨hl, ⟨rfl, rfl⟩ | ⟨g, cap, cur, rfl, hb, hg, hc, hm, hs, ht⟩⟩ := h
  · exact ⟨none, 0, rfl, Nat.le_refl _, by simp [maxLen], fun j hj => by omega⟩
  · refine ⟨_, cap, rfl, hc, hm, fun j hj => ⟨g, rfl, hb, (Array.getElem?_eq_some_iff.1 hg).1, ?_⟩⟩
    have e1 : w.cell? ⟨g, j, none⟩ = cur[j]? := by simp [World.cell?, hg]
    rw [e1]
    have e2 : cur[j]? = (cur.toList.take (n * 1))[j]? := by rw [List.getElem?_take_of_lt (by omega)]; simp
    rw [e2, ht]
    simp [hj]
theorem Chg.owns {T : Addr → Prop} {N base size n : Nat} {e : TypeId} {w w' : World} {v : Value} {xs : List Value} (h : Chg T N w w') (ow : w.ownsRow base e size v n xs) (hT : ∀ r o, base ≤ r → ¬ T ⟨r, o, none⟩) : w'.ownsRow base e size v n xs := by
  refine ⟨ow.1, ?_⟩
  rcases ow.2 with hn | ⟨g, cap, cur, rfl, hb, hgg, rest⟩
  · exact .inl hn
  · exact .inr ⟨g, cap, cur, rfl, hb, h.blk g _ _ _ (fun o => hT g o hb) hgg, rest⟩
end Go.Proofs.YteflkagilhmeiaaDoor

