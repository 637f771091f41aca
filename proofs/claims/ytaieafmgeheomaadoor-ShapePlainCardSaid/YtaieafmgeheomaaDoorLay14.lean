/- A layout as an argument: what it reads as. -/
import Derived.Test.YtaieafmgeheomaaDoorStructs
import Derived.Test.YtaieafmgeheomaaDoorPairs
import Derived.OpenShut
namespace Go.Proofs.YtaieafmgeheomaaDoor
open Go.ChangeShapes Go.WideShapes Go.ChangeAt Go.RowKit Go.Deep Go.Joins
namespace L14

/-- A number of 64 bits. -/
def Wide (n : Int) : Prop := -9223372036854775808 ≤ n ∧ n ≤ 9223372036854775807
theorem ints_rows {P : Program} {fs : Array Field} (k : Nat) (hk : fs.size = k) (h : (List.range k).map (fun j => fs[j]?.bind fun f => P.underlying f.type) = List.replicate k (some (.int .i64))) :
    ∀ (j : Nat) (f : Field), fs[j]? = some f → P.underlying f.type = some (.int .i64) := fun j f hj => by
  have hlt : j < k := by have := (Array.getElem?_eq_some_iff.1 hj).1; omega
  have := congrArg (·[j]?) h
  simpa [hlt, hj] using this

/-- A layout's numbers, by their places (of place 4, the lines of Shape, there is none), and its lines. -/
structure LayD where
  v : Nat → Int
  n : Nat
  sh : Nat → Int × Int
/-- Its cells. -/
def layC (D : LayD) (A : Option Addr) (c : Nat) : List Value := [.int .i64 (D.v 0), .int .i64 (D.v 1), .int .i64 (D.v 2), .int .i64 (D.v 3), .slice A D.n c, .int .i64 (D.v 5), .int .i64 (D.v 6), .int .i64 (D.v 7), .int .i64 (D.v 8), .int .i64 (D.v 9), .int .i64 (D.v 10), .int .i64 (D.v 11), .int .i64 (D.v 12), .int .i64 (D.v 13), .int .i64 (D.v 14), .int .i64 (D.v 15), .int .i64 (D.v 16), .int .i64 (D.v 17), .int .i64 (D.v 18), .int .i64 (D.v 19), .int .i64 (D.v 20)]
/-- The value. -/
def layV (D : LayD) (A : Option Addr) (c : Nat) : Value := .agg #[.int .i64 (D.v 0), .int .i64 (D.v 1), .int .i64 (D.v 2), .int .i64 (D.v 3), .slice A D.n c, .int .i64 (D.v 5), .int .i64 (D.v 6), .int .i64 (D.v 7), .int .i64 (D.v 8), .int .i64 (D.v 9), .int .i64 (D.v 10), .int .i64 (D.v 11), .int .i64 (D.v 12), .int .i64 (D.v 13), .int .i64 (D.v 14), .int .i64 (D.v 15), .int .i64 (D.v 16), .int .i64 (D.v 17), .int .i64 (D.v 18), .int .i64 (D.v 19), .int .i64 (D.v 20)]
/-- Its numbers have 64 bits, its list is no longer than its room. -/
structure LayOk (D : LayD) (c : Nat) : Prop where
  v : ∀ k, Wide (D.v k)
  sh : ∀ i, i < D.n → Wide (D.sh i).1 ∧ Wide (D.sh i).2
  n : D.n ≤ c
  c : c ≤ maxLen

theorem rows_but {P : Program} {t : TypeId} {fs : Array Field} (_ : P.underlying t = some (.struct fs)) (h : (List.range 21).map (fun j => if j = 4 then none else fs[j]?.bind fun f => P.underlying f.type) = (List.range 21).map (fun j => if j = 4 then none else some (.int .i64))) :
    ∀ j, j < 21 → j ≠ 4 → (fs[j]?.bind fun f => P.underlying f.type) = some (.int .i64) := fun j hj h4 => by
  have := congrArg (·[j]?) h
  simpa [hj, h4] using this
theorem list21 : ∀ {l : List Value} {u : Nat → Value} {x : Value}, l.length = 21 → (∀ j, j < 21 → j ≠ 4 → l[j]? = some (u j)) → l[4]? = some x →
    l = [u 0, u 1, u 2, u 3, x, u 5, u 6, u 7, u 8, u 9, u 10, u 11, u 12, u 13, u 14, u 15, u 16, u 17, u 18, u 19, u 20] := by
  intro l u x hl h hx
  apply List.ext_getElem?
  intro j
  rcases Nat.lt_or_ge j 21 with hj | hj
  · have hj' : j = 0 ∨ j = 1 ∨ j = 2 ∨ j = 3 ∨ j = 4 ∨ j = 5 ∨ j = 6 ∨ j = 7 ∨ j = 8 ∨ j = 9 ∨ j = 10 ∨ j = 11 ∨ j = 12 ∨ j = 13 ∨ j = 14 ∨ j = 15 ∨ j = 16 ∨ j = 17 ∨ j = 18 ∨ j = 19 ∨ j = 20 := by omega
    rcases hj' with rfl | rfl | rfl | rfl | rfl | rfl | rfl | rfl | rfl | rfl | rfl | rfl | rfl | rfl | rfl | rfl | rfl | rfl | rfl | rfl | rfl
    all_goals first | exact hx | exact h _ (by omega) (by omega)
  · rw [List.getElem?_eq_none (by omega), List.getElem?_eq_none (by simpa using hj)]

set_option maxRecDepth 100000 in
/-- A layout by value. -/
theorem arg_layout {H : Type} {enc : TypeId × Value → H} {W : World} {base : Nat} {v : Value} {d : DataW H} {p : List MemPlace}
    (hv : Value.okWide Tryd.prog W .any base 24 v) (h : DataW.Trod enc Tryd.prog W 0 (fun _ => true) true 24 v d p) :
    ∃ (D : LayD) (A : Option Addr) (c : Nat), v = layV D A c ∧ LayOk D c ∧ SeenP W A D.n D.sh := by
  obtain ⟨cs, rfl, hsz, hf⟩ := arg_fields Tryd.underlying24 (by kernel_rfl) (by kernel_rfl) hv h
  have each : ∀ j, j < 21 → j ≠ 4 → ∃ x : Int, cs[j]? = some (.int .i64 x) ∧ Wide x := fun j hj h4 => by
    have h1 := rows_but Tryd.underlying24 (by kernel_rfl) j hj h4
    obtain ⟨f, hfj, hu⟩ := Option.bind_eq_some_iff.1 h1
    obtain ⟨u, n, y, hc, ht⟩ := hf j f hfj
    obtain ⟨x, e0, _, wx⟩ := DataW.trod_int hu ht
    simp only [List.cons.injEq, and_true] at e0
    exact ⟨x, by rw [hc, e0], bounds_i64 wx⟩
  obtain ⟨q, hq⟩ : ∃ q : Nat → Int, ∀ j, j < 21 → j ≠ 4 → cs[j]? = some (.int .i64 (q j)) ∧ Wide (q j) := by
    refine ⟨fun j => if hj : j < 21 ∧ j ≠ 4 then (each j hj.1 hj.2).choose else 0, fun j hj h4 => ?_⟩
    simp only [hj, h4, ne_eq, not_false_eq_true, and_self, dite_true]
    exact (each j hj h4).choose_spec
  obtain ⟨u4, n4, y4, c4, t4⟩ := hf 4 _ rfl
  obtain ⟨A, n, c, f, rfl, hn, hc, hb, hs⟩ := field_rows Tryd.underlying22 Tryd.underlying27 (by kernel_rfl) (by kernel_rfl) (ints_rows 2 rfl (by kernel_rfl)) t4
  refine ⟨⟨fun j => if j < 21 ∧ j ≠ 4 then q j else 0, n, fun i => (f i 0, f i 1)⟩, A, c, ?_, ⟨fun k => ?_, fun i hi => ⟨hb i 0 hi (by decide), hb i 1 hi (by decide)⟩, hn, hc⟩, fun i hi => ?_⟩
  · have := list21 (l := cs.toList) (u := fun j => .int .i64 (q j)) (x := .slice A n c) (by simpa using hsz) (fun j hj h4 => by simpa using (hq j hj h4).1) (by simpa using c4)
    have e : cs = cs.toList.toArray := rfl
    rw [e, this]
    simp [layV]
  · by_cases hk : k < 21 ∧ k ≠ 4
    · simp only [hk, ne_eq, not_false_eq_true, and_self, if_true]; exact (hq k hk.1 hk.2).2
    · simp only [hk, if_false]; exact ⟨by decide, by decide⟩
  · obtain ⟨ad, e, hb0, h0⟩ := hs i hi 0 (by decide)
    obtain ⟨ad', e', _, h1⟩ := hs i hi 1 (by decide)
    rw [e] at e'
    cases e'
    exact ⟨ad, e, hb0, h0, h1⟩
end L14
end Go.Proofs.YtaieafmgeheomaaDoor

