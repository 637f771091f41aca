/- Rows of integers, and of pairs of them, by a function of the place: of one's own, or only seen. Any program. -/
import Derived.Test.YtmmgmcfhlhghoaaSlices
import Derived.Test.YtmmgmcfhlhghoaaArrays
namespace Go.Proofs.Ytmmgmcfhlhghoaa
open Go.RowKit

/-- Own: block b holds f 0, f 1, .. -/
def RowF (w : World) (b n : Nat) (f : Nat → Int) : Prop := ∀ j, j < n → w.cell? ⟨b, j, none⟩ = some (.int .i64 (f j)) ∧ w.frozen? ⟨b, j, none⟩ = false
/-- Seen: what is at A on. -/
def SeenF (w : World) (A : Option Addr) (n : Nat) (f : Nat → Int) : Prop := ∀ j, j < n → ∃ ad, A = some ad ∧ ad.block < w.heap.size ∧ w.cell? (ad.add j) = some (.int .i64 (f j))
/-- Own: block b holds pairs. -/
def RowP (w : World) (b n : Nat) (d : Nat → Int × Int) : Prop :=
  ∀ j, j < n → (w.cell? ⟨b, j * 2, none⟩ = some (.int .i64 (d j).1) ∧ w.cell? ⟨b, j * 2 + 1, none⟩ = some (.int .i64 (d j).2)) ∧ w.frozen? ⟨b, j * 2, none⟩ = false ∧ w.frozen? ⟨b, j * 2 + 1, none⟩ = false

theorem add_zero_addr (b j : Nat) : (⟨b, 0, none⟩ : Addr).add j = ⟨b, j, none⟩ := by
  unfold Addr.add; by_cases h : j = 0 <;> simp [h]

theorem RowF.ext {w w' : World} {b n : Nat} {f : Nat → Int} (h : RowF w b n f) (x : Ext w w') : RowF w' b n f := fun j hj => ⟨x.at (h j hj).1, x.fz (h j hj).1 (h j hj).2⟩
theorem SeenF.ext {w w' : World} {A : Option Addr} {n : Nat} {f : Nat → Int} (h : SeenF w A n f) (x : Ext w w') : SeenF w' A n f := fun j hj => by
  obtain ⟨ad, e, hb, hc⟩ := h j hj
  exact ⟨ad, e, x.grows _ hb, x.at hc⟩
theorem RowP.ext {w w' : World} {b n : Nat} {d : Nat → Int × Int} (h : RowP w b n d) (x : Ext w w') : RowP w' b n d := fun j hj => by
  obtain ⟨⟨h1, h2⟩, h3, h4⟩ := h j hj
  exact ⟨⟨x.at h1, x.at h2⟩, x.fz h1 h3, x.fz h2 h4⟩
theorem RowF.congr {w : World} {b n : Nat} {f g : Nat → Int} (h : RowF w b n f) (e : ∀ j, j < n → f j = g j) : RowF w b n g := fun j hj => by rw [← e j hj]; exact h j hj
theorem SeenF.congr {w : World} {A : Option Addr} {n : Nat} {f g : Nat → Int} (h : SeenF w A n f) (e : ∀ j, j < n → f j = g j) : SeenF w A n g := fun j hj => by rw [← e j hj]; exact h j hj
theorem RowP.congr {w : World} {b n : Nat} {f g : Nat → Int × Int} (h : RowP w b n f) (e : ∀ j, j < n → f j = g j) : RowP w b n g := fun j hj => by rw [← e j hj]; exact h j hj
theorem RowF.seen {w : World} {b n : Nat} {f : Nat → Int} (h : RowF w b n f) : SeenF w (some ⟨b, 0, none⟩) n f := fun j hj =>
  ⟨_, rfl, (by have := block_lt_of_cell (h j hj).1; exact this), by rw [add_zero_addr]; exact (h j hj).1⟩
theorem SeenF.none {w : World} {A : Option Addr} {f : Nat → Int} : SeenF w A 0 f := fun j hj => absurd hj (by omega)
theorem SeenF.get {w : World} {A : Option Addr} {n : Nat} {f : Nat → Int} (h : SeenF w A n f) {j : Nat} (hj : j < n) : ∃ ad, A = some ad ∧ w.cell? (ad.add j) = some (.int .i64 (f j)) := by
  obtain ⟨ad, e, _, hc⟩ := h j hj
  exact ⟨ad, e, hc⟩
theorem SeenF.le {w : World} {A : Option Addr} {n m : Nat} {f : Nat → Int} (h : SeenF w A n f) (hm : m ≤ n) : SeenF w A m f := fun j hj => h j (by omega)
/-- An argument, by its list. -/
theorem Seen.fn {w : World} {A : Option Addr} {l : List Int} (h : Seen w.heap.size w A (l.map (.int .i64))) : SeenF w A l.length (fun j => l.getD j 0) := fun j hj => by
  obtain ⟨ad, e, hb, hc⟩ := Seen.get h (k := j) (by simpa using hj)
  refine ⟨ad, e, hb, ?_⟩
  rw [hc]
  simp [List.getD, hj]

theorem rowF_new (w : World) (cs : Array Value) (t : TypeId) (n : Nat) (f : Nat → Int) (h : ∀ j, j < n → cs[j]? = some (.int .i64 (f j))) : RowF (w.alloc (.cells cs t)) w.heap.size n f := fun j hj => by
  refine ⟨?_, by simp⟩
  rw [World.cell?_alloc_at _ _ _ _ rfl]
  exact h j hj
theorem rowP_new (w : World) (cs : Array Value) (t : TypeId) (n : Nat) (d : Nat → Int × Int) (h : ∀ j, j < n → cs[j * 2]? = some (.int .i64 (d j).1) ∧ cs[j * 2 + 1]? = some (.int .i64 (d j).2)) : RowP (w.alloc (.cells cs t)) w.heap.size n d := fun j hj => by
  refine ⟨⟨?_, ?_⟩, by simp, by simp⟩
  · rw [World.cell?_alloc_at _ _ _ _ rfl]; exact (h j hj).1
  · rw [World.cell?_alloc_at _ _ _ _ rfl]; exact (h j hj).2

/-- A store into one's own row. -/
theorem RowF.set {w : World} {b n : Nat} {f : Nat → Int} (h : RowF w b n f) (i : Nat) (x : Int) : RowF (w.setCell ⟨b, i, none⟩ (.int .i64 x)) b n (fun j => if j = i then x else f j) := fun j hj => by
  refine ⟨?_, by rw [World.frozen?_setCell]; exact (h j hj).2⟩
  by_cases e : j = i
  · subst e
    simp only [if_true]
    exact World.cell?_setCell_same _ _ _ (h j hj).1
  · simp only [if_neg e]
    rw [World.cell?_setCell_other _ _ _ _ (by simp)]
    exact (h j hj).1
theorem RowF.other {w : World} {b n : Nat} {f : Nat → Int} (h : RowF w b n f) {p : Addr} (hp : p.block ≠ b) (v : Value) : RowF (w.setCell p v) b n f := fun j hj => by
  refine ⟨?_, by rw [World.frozen?_setCell]; exact (h j hj).2⟩
  rw [World.cell?_setCell_other _ _ _ _ (fun e => hp (by rw [e]))]
  exact (h j hj).1
theorem RowP.other {w : World} {b n : Nat} {d : Nat → Int × Int} (h : RowP w b n d) {p : Addr} (hp : p.block ≠ b) (v : Value) : RowP (w.setCell p v) b n d := fun j hj => by
  obtain ⟨⟨h1, h2⟩, h3, h4⟩ := h j hj
  refine ⟨⟨?_, ?_⟩, by rw [World.frozen?_setCell]; exact h3, by rw [World.frozen?_setCell]; exact h4⟩
  · rw [World.cell?_setCell_other _ _ _ _ (fun e => hp (by rw [e]))]; exact h1
  · rw [World.cell?_setCell_other _ _ _ _ (fun e => hp (by rw [e]))]; exact h2
theorem RowP.set {w : World} {b n : Nat} {d : Nat → Int × Int} (h : RowP w b n d) (i : Nat) (x y : Int) :
    RowP ((w.setCell ⟨b, i * 2, none⟩ (.int .i64 x)).setCell ⟨b, i * 2 + 1, none⟩ (.int .i64 y)) b n (fun j => if j = i then (x, y) else d j) := fun j hj => by
  obtain ⟨⟨h1, h2⟩, h3, h4⟩ := h j hj
  refine ⟨?_, by rw [World.frozen?_setCell, World.frozen?_setCell]; exact h3, by rw [World.frozen?_setCell, World.frozen?_setCell]; exact h4⟩
  by_cases e : j = i
  · subst e
    simp only [if_true]
    exact ⟨(World.cell?_setCell_other _ _ _ _ (by simp)).trans (World.cell?_setCell_same _ _ _ h1), World.cell?_setCell_same _ _ _ ((World.cell?_setCell_other _ _ _ _ (by simp)).trans h2)⟩
  · simp only [if_neg e]
    refine ⟨?_, ?_⟩
    · rw [World.cell?_setCell_other _ _ _ _ (by first | (simp; done) | (simp; omega)), World.cell?_setCell_other _ _ _ _ (by first | (simp; done) | (simp; omega))]; exact h1
    · rw [World.cell?_setCell_other _ _ _ _ (by first | (simp; done) | (simp; omega)), World.cell?_setCell_other _ _ _ _ (by first | (simp; done) | (simp; omega))]; exact h2

/-- make([]int, n): n noughts of one's own. -/
theorem make_ints (P : Program) (t e : TypeId) (n : Nat) (ht : P.underlying t = some (.slice e)) (hz : (P.info? e).map (fun i => (i.zero, i.size, i.bytes)) = some (some (.int .i64 0), 1, 8)) (hn : n ≤ 1000000) :
    ∃ cs : Array Value, (∀ w, (Instr.makeSlice t (.int .i64 n) (.int .i64 n)).run P w = .ok (.slice (some ⟨w.heap.size, 0, none⟩) n n) (w.alloc (.cells cs e))) ∧ ∀ w : World, RowF (w.alloc (.cells cs e)) w.heap.size n (fun _ => 0) := by
  obtain ⟨i, h1, h2, h3, h4⟩ := info_parts hz
  refine ⟨_, fun w => run_make w t e i _ ht h1 h2 .i64 .i64 n n (by omega) (Int.le_refl _) (by rw [h4]; omega) (by omega), fun w => rowF_new w _ e n _ fun j hj => ?_⟩
  simp only [h3, Nat.mul_one, madeCells, Value.cells]
  simp [hj]
  rw [Nat.mod_one]; rfl

/-- make([]T, n), T of two integers: n pairs of noughts of one's own. -/
theorem make_pairs (P : Program) (t e : TypeId) (n : Nat) (ht : P.underlying t = some (.slice e)) (hz : (P.info? e).map (fun i => (i.zero, i.size, i.bytes)) = some (some (.agg #[.int .i64 0, .int .i64 0]), 2, 16)) (hn : n ≤ 1000000) :
    ∃ cs : Array Value, (∀ w, (Instr.makeSlice t (.int .i64 n) (.int .i64 n)).run P w = .ok (.slice (some ⟨w.heap.size, 0, none⟩) n n) (w.alloc (.cells cs e))) ∧ ∀ w : World, RowP (w.alloc (.cells cs e)) w.heap.size n (fun _ => (0, 0)) := by
  obtain ⟨i, h1, h2, h3, h4⟩ := info_parts hz
  refine ⟨_, fun w => run_make w t e i _ ht h1 h2 .i64 .i64 n n (by omega) (Int.le_refl _) (by rw [h4]; omega) (by omega), fun w => rowP_new w _ e n _ fun j hj => ?_⟩
  simp only [h3, madeCells, Value.cells]
  constructor
  · simp [show j * 2 < n * 2 by omega]
  · simp [show j * 2 + 1 < n * 2 by omega, show (j * 2 + 1) % 2 = 1 by omega]
end Go.Proofs.Ytmmgmcfhlhghoaa

