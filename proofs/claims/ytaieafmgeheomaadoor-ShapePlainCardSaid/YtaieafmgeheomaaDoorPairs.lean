/- Pairs of integers as arguments: by value, and in a slice; what is seen of a slice of pairs, over calls. Any program. -/
import Derived.Test.YtaieafmgeheomaaDoorRowF
import Derived.Deep.SlicePairs
import Derived.Lib.SmallJoins
namespace Go.Proofs.YtaieafmgeheomaaDoor
open Go.ChangeShapes Go.WideShapes Go.ChangeAt Go.RowKit Go.Joins Go.Deep

/-- Seen: pairs, from A on. -/
def SeenP (w : World) (A : Option Addr) (n : Nat) (d : Nat → Int × Int) : Prop :=
  ∀ j, j < n → ∃ ad, A = some ad ∧ ad.block < w.heap.size ∧ w.cell? (ad.add (j * 2)) = some (.int .i64 (d j).1) ∧ w.cell? (ad.add (j * 2 + 1)) = some (.int .i64 (d j).2)

theorem SeenP.ext {w w' : World} {A : Option Addr} {n : Nat} {f : Nat → Int × Int} (h : SeenP w A n f) (x : Ext w w') : SeenP w' A n f := fun j hj => by
  obtain ⟨ad, e, hb, h0, h1⟩ := h j hj
  exact ⟨ad, e, x.grows _ hb, x.at h0, x.at h1⟩
theorem SeenP.nil {w : World} {A : Option Addr} {f : Nat → Int × Int} : SeenP w A 0 f := fun j hj => absurd hj (by omega)
theorem SeenP.get {w : World} {A : Option Addr} {n : Nat} {f : Nat → Int × Int} (h : SeenP w A n f) {j : Nat} (hj : j < n) :
    ∃ ad, A = some ad ∧ w.cell? (ad.add (j * 2)) = some (.int .i64 (f j).1) ∧ w.cell? ⟨(ad.add (j * 2)).block, (ad.add (j * 2)).off + 1, none⟩ = some (.int .i64 (f j).2) := by
  obtain ⟨ad, e, _, h0, h1⟩ := h j hj
  refine ⟨ad, e, h0, ?_⟩
  rw [← addr_add] at h1
  exact h1
theorem RowP.seen {w : World} {b n : Nat} {f : Nat → Int × Int} (h : RowP w b n f) : SeenP w (some ⟨b, 0, none⟩) n f := fun j hj =>
  ⟨_, rfl, (by have := block_lt_of_cell (h j hj).1.1; exact this), by rw [add_zero_addr]; exact (h j hj).1.1, by rw [add_zero_addr]; exact (h j hj).1.2⟩

/-- A pair by value. -/
theorem arg_pair {H : Type} {enc : TypeId × Value → H} {P : Program} {W : World} {base : Nat} {t : TypeId} {f0 f1 : Field} {v : Value} {d : DataW H} {p : List MemPlace}
    (hs : P.underlying t = some (.struct #[f0, f1])) (hone : oneCellFields P #[f0, f1] = true) (hC : P.cellsOf t = 2) (h0 : P.underlying f0.type = some (.int .i64)) (h1 : P.underlying f1.type = some (.int .i64))
    (hv : Value.okWide P W .any base t v) (h : DataW.Trod enc P W 0 (fun _ => true) true t v d p) :
    ∃ a b : Int, v = .agg #[.int .i64 a, .int .i64 b] ∧ (Lit.int .i64 a).wf = true ∧ (Lit.int .i64 b).wf = true := by
  obtain ⟨c0, c1, y0, y1, m, rfl, _, _, hy0, hy1⟩ := open_agg2 hs hone hC hv h
  obtain ⟨a, e0, _, wa⟩ := DataW.trod_int h0 hy0
  obtain ⟨b, e1, _, wb⟩ := DataW.trod_int h1 hy1
  simp only [List.cons.injEq, and_true] at e0 e1
  exact ⟨a, b, by rw [e0, e1], wa, wb⟩

/-- A slice of pairs. -/
theorem arg_pairs {H : Type} {enc : TypeId × Value → H} {P : Program} {W : World} {base : Nat} {t e : TypeId} {f0 f1 : Field} {v : Value} {d : DataW H} {p : List MemPlace}
    (ht : P.underlying t = some (.slice e)) (he : P.underlying e = some (.struct #[f0, f1])) (ce : P.cellsOf e = 2) (o0 : f0.offset = 0) (o1 : f1.offset = 1) (c0 : P.cellsOf f0.type = 1) (c1 : P.cellsOf f1.type = 1)
    (h0 : P.underlying f0.type = some (.int .i64)) (h1 : P.underlying f1.type = some (.int .i64))
    (hv : Value.okWide P W .any base t v) (h : DataW.Trod enc P W 0 (fun _ => true) true t v d p) :
    ∃ (A : Option Addr) (n c : Nat) (f : Nat → Int × Int), v = .slice A n c ∧ n ≤ c ∧ c ≤ maxLen ∧ (∀ j, j < n → (Lit.int .i64 (f j).1).wf = true ∧ (Lit.int .i64 (f j).2).wf = true) ∧ SeenP W A n f := by
  obtain ⟨a0, len0, cap0, rfl⟩ := okWide_slice ht hv
  obtain ⟨fuel, hf⟩ := h
  rcases open_slice_pairs ht he ce o0 o1 c0 c1 hf with ⟨hcs, _⟩ | ⟨a, len, cap, m, n, V0, V1, D0, D1, P0, P1, hcs, _, hl, hm, hmm, _, hi⟩
  · simp [Value.cells] at hcs
    obtain ⟨rfl, rfl, rfl⟩ := hcs
    exact ⟨none, 0, 0, fun _ => (0, 0), rfl, by simp, by simp, fun j hj => absurd hj (by omega), SeenP.nil⟩
  · simp [Value.cells] at hcs
    obtain ⟨rfl, rfl, rfl⟩ := hcs
    simp at hmm
    have each : ∀ i, i < len0 → ∃ q : Int × Int, V0 i = .int .i64 q.1 ∧ V1 i = .int .i64 q.2 ∧ (Lit.int .i64 q.1).wf = true ∧ (Lit.int .i64 q.2).wf = true := fun i hi' => by
      obtain ⟨_, _, t0, t1⟩ := hi i (by omega)
      obtain ⟨x, e0, _, wx⟩ := DataW.trod_int h0 t0
      obtain ⟨y, e1, _, wy⟩ := DataW.trod_int h1 t1
      simp only [List.cons.injEq, and_true] at e0 e1
      exact ⟨(x, y), e0, e1, wx, wy⟩
    obtain ⟨q, hq⟩ := choose_lt each
    refine ⟨some a, len0, cap0, q, rfl, hl, hm, fun j hj => (hq j hj).2.2, fun j hj => ?_⟩
    obtain ⟨k0, k1, _, _⟩ := hi j (by omega)
    obtain ⟨e0, e1, _⟩ := hq j hj
    rw [e0] at k0
    rw [e1] at k1
    refine ⟨a, rfl, ?_, k0, k1⟩
    have := block_lt_of_cell k0
    rwa [addr_block] at this
end Go.Proofs.YtaieafmgeheomaaDoor

