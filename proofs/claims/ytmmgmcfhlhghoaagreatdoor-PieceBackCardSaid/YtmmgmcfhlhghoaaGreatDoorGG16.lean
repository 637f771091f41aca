/- Pairs of integers as arguments: by value, and in a slice; what is seen of a slice of pairs, over calls. Any program. A layout as an argument: what it reads as. The frame of a law over this seat's listed variables (a door's seat): what strconv and the landed code read of them. The plain functions of a layout: its lines, its numbers, whether it may be, its text. The landed numbers of a line: one function a kind. Written by gen14/kinds.py. The landed numbers of a line, whatever its kind. The landed kinds of lines: a map of closures. Written by gen14/kmap.py. The landed iterator over a layout's lines: for every loop's body. A range over a function whose function ranges itself over another one: what the rounds keep may not mind the records of loops that began later. Any program. A region that draws its order, in a round of a range over a function: walked once, where no operation of it is deferred. Any program. The landed Check of layouts. A layout in a variable: it is loaded, it is stored where the variable was just made. The document's Few of layer 13. -/
import Derived.Test.YtmmgmcfhlhghoaaGreatDoorGA16
import Derived.Deep.SlicePairs
import Derived.Lib.SmallJoins
import Derived.OpenShut
import Derived.Test.YtmmgmcfhlhghoaaGreatDoorCards
import Derived.Test.YtmmgmcfhlhghoaaGreatDoorTie
import Derived.Lib.LaidU8
import Derived.PinnedBridge
import Derived.Lay
import Derived.SevenTiedAt
import Derived.Stop.LaidErr
import Derived.Shelf.Vars
import Derived.Lib.ItoaNum
import Derived.Lib.AppendIntMem
import Derived.BigRegion
import Derived.Test.YtmmgmcfhlhghoaaGreatDoorGB16
import Derived.Laws.EntriesVeiled
import Derived.RangeFuncNested
import Derived.RangeFuncBound
import Derived.RangeFuncCalls
import Derived.RangeFuncLeaves
import Derived.RangeFuncBox
import Derived.OwnWalkIn
import Derived.TacticsInMore
import Derived.LoopNIn
import Derived.LoopIn
import Derived.Sort.BigQuietIn
import Derived.Lib.QuietBelowIn
import Derived.Lib.QuietBelow
import Derived.StillTailTactics
import Derived.Test.YtmmgmcfhlhghoaaGreatDoorGF16
namespace Go.Proofs.YtmmgmcfhlhghoaaGreatDoor
open Go.ChangeShapes Go.WideShapes Go.ChangeAt Go.RowKit Go.Joins Go.Deep

/-- Seen: pairs, from A on. -/
def SeenP (w : World) (A : Option Addr) (n : Nat) (d : Nat → Int × Int) : Prop :=
  ∀ j, j < n → ∃ ad, A = some ad ∧ ad.block < w.heap.size ∧ w.cell? (ad.add (j * 2)) = some (.int .i64 (d j).1) ∧ w.cell? (ad.add (j * 2 + 1)) = some (.int .i64 (d j).2)

theorem SeenP.ext {w w' : World} {A : Option Addr} {n : Nat} {f : Nat → Int × Int} (h : SeenP w A n f) (x : Ext w w') : SeenP w' A n f := fun j hj => by
  obtain ⟨ad, e, hb, h0, h1⟩ := h j hj
  exact ⟨ad, e, x.grows _ hb, x.at h0, x.at h1⟩
theorem SeenP.nil {w : World} {A : Option Addr} {f : Nat → Int × Int} : SeenP w A 0 f := fun j hj => absurd hj (by omega)
theorem SeenP.get {w : World} {A : Option Addr} {n : Nat} {f : Nat → Int × Int} (h : SeenP w A n f) {j : Nat} (hj : j < n) :
    ∃ ad, A = some ad ∧ w.cell? (ad.add (j * 2)) = some (.int .i64 (f j).1) ∧ w.cell? ⟨(ad.add (j * 2)).block, (ad.add (j * 2)).off + 1, none⟩ = some (.int .i64 (f j).2) := by
  obtain ⟨ad, e, _, h0, h1⟩ := h j hj
  refine ⟨ad, e, h0, ?_⟩
  rw [← addr_add] at h1
  exact h1
theorem RowP.seen {w : World} {b n : Nat} {f : Nat → Int × Int} (h : RowP w b n f) : SeenP w (some ⟨b, 0, none⟩) n f := fun j hj =>
  ⟨_, rfl, (by have := block_lt_of_cell (h j hj).1.1; exact this), by rw [add_zero_addr]; exact (h j hj).1.1, by rw [add_zero_addr]; exact (h j hj).1.2⟩

/-- A pair by value. -/
theorem arg_pair {H : Type} {enc : TypeId × Value → H} {P : Program} {W : World} {base : Nat} {t : TypeId} {f0 f1 : Field} {v : Value} {d : DataW H} {p : List MemPlace}
    (hs : P.underlying t = some (.struct #[f0, f1])) (hone : oneCellFields P #[f0, f1] = true) (hC : P.cellsOf t = 2) (h0 : P.underlying f0.type = some (.int .i64)) (h1 : P.underlying f1.type = some (.int .i64))
    (hv : Value.okWide P W .any base t v) (h : DataW.Trod enc P W 0 (fun _ => true) true t v d p) :
    ∃ a b : Int, v = .agg #[.int .i64 a, .int .i64 b] ∧ (Lit.int .i64 a).wf = true ∧ (Lit.int .i64 b).wf = true := by
  obtain ⟨c0, c1, y0, y1, m, rfl, _, _, hy0, hy1⟩ := open_agg2 hs hone hC hv h
  obtain ⟨a, e0, _, wa⟩ := DataW.trod_int h0 hy0
  obtain ⟨b, e1, _, wb⟩ := DataW.trod_int h1 hy1
  simp only [List.cons.injEq, and_true] at e0 e1
  exact ⟨a, b, by rw [e0, e1], wa, wb⟩

/-- A slice of pairs. -/
theorem arg_pairs {H : Type} {enc : TypeId × Value → H} {P : Program} {W : World} {base : Nat} {t e : TypeId} {f0 f1 : Field} {v : Value} {d : DataW H} {p : List MemPlace}
    (ht : P.underlying t = some (.slice e)) (he : P.underlying e = some (.struct #[f0, f1])) (ce : P.cellsOf e = 2) (o0 : f0.offset = 0) (o1 : f1.offset = 1) (c0 : P.cellsOf f0.type = 1) (c1 : P.cellsOf f1.type = 1)
    (h0 : P.underlying f0.type = some (.int .i64)) (h1 : P.underlying f1.type = some (.int .i64))
    (hv : Value.okWide P W .any base t v) (h : DataW.Trod enc P W 0 (fun _ => true) true t v d p) :
    ∃ (A : Option Addr) (n c : Nat) (f : Nat → Int × Int), v = .slice A n c ∧ n ≤ c ∧ c ≤ maxLen ∧ (∀ j, j < n → (Lit.int .i64 (f j).1).wf = true ∧ (Lit.int .i64 (f j).2).wf = true) ∧ SeenP W A n f := by
  obtain ⟨a0, len0, cap0, rfl⟩ := okWide_slice ht hv
  obtain ⟨fuel, hf⟩ := h
  rcases open_slice_pairs ht he ce o0 o1 c0 c1 hf with ⟨hcs, _⟩ | ⟨a, len, cap, m, n, V0, V1, D0, D1, P0, P1, hcs, _, hl, hm, hmm, _, hi⟩
  · simp [Value.cells] at hcs
    obtain ⟨rfl, rfl, rfl⟩ := hcs
    exact ⟨none, 0, 0, fun _ => (0, 0), rfl, by simp, by simp, fun j hj => absurd hj (by omega), SeenP.nil⟩
  · simp [Value.cells] at hcs
    obtain ⟨rfl, rfl, rfl⟩ := hcs
    simp at hmm
    have each : ∀ i, i < len0 → ∃ q : Int × Int, V0 i = .int .i64 q.1 ∧ V1 i = .int .i64 q.2 ∧ (Lit.int .i64 q.1).wf = true ∧ (Lit.int .i64 q.2).wf = true := fun i hi' => by
      obtain ⟨_, _, t0, t1⟩ := hi i (by omega)
      obtain ⟨x, e0, _, wx⟩ := DataW.trod_int h0 t0
      obtain ⟨y, e1, _, wy⟩ := DataW.trod_int h1 t1
      simp only [List.cons.injEq, and_true] at e0 e1
      exact ⟨(x, y), e0, e1, wx, wy⟩
    obtain ⟨q, hq⟩ := choose_lt each
    refine ⟨some a, len0, cap0, q, rfl, hl, hm, fun j hj => (hq j hj).2.2, fun j hj => ?_⟩
    obtain ⟨k0, k1, _, _⟩ := hi j (by omega)
    obtain ⟨e0, e1, _⟩ := hq j hj
    rw [e0] at k0
    rw [e1] at k1
    refine ⟨a, rfl, ?_, k0, k1⟩
    have := block_lt_of_cell k0
    rwa [addr_block] at this
end Go.Proofs.YtmmgmcfhlhghoaaGreatDoor

namespace Go.Proofs.YtmmgmcfhlhghoaaGreatDoor
open Go.ChangeShapes Go.WideShapes Go.ChangeAt Go.RowKit Go.Deep Go.Joins
namespace L14

/-- A number of 64 bits. -/
def Wide (n : Int) : Prop := -9223372036854775808 ≤ n ∧ n ≤ 9223372036854775807
theorem ints_rows {P : Program} {fs : Array Field} (k : Nat) (hk : fs.size = k) (h : (List.range k).map (fun j => fs[j]?.bind fun f => P.underlying f.type) = List.replicate k (some (.int .i64))) :
    ∀ (j : Nat) (f : Field), fs[j]? = some f → P.underlying f.type = some (.int .i64) := fun j f hj => by
  have hlt : j < k := by have := (Array.getElem?_eq_some_iff.1 hj).1; omega
  have := congrArg (·[j]?) h
  simpa [hlt, hj] using this

/-- A layout's numbers, by their places (of place 4, the lines of Shape, there is none), and its lines. -/
structure LayD where
  v : Nat → Int
  n : Nat
  sh : Nat → Int × Int
/-- Its cells. -/
def layC (D : LayD) (A : Option Addr) (c : Nat) : List Value := [.int .i64 (D.v 0), .int .i64 (D.v 1), .int .i64 (D.v 2), .int .i64 (D.v 3), .slice A D.n c, .int .i64 (D.v 5), .int .i64 (D.v 6), .int .i64 (D.v 7), .int .i64 (D.v 8), .int .i64 (D.v 9), .int .i64 (D.v 10), .int .i64 (D.v 11), .int .i64 (D.v 12), .int .i64 (D.v 13), .int .i64 (D.v 14), .int .i64 (D.v 15), .int .i64 (D.v 16), .int .i64 (D.v 17), .int .i64 (D.v 18), .int .i64 (D.v 19), .int .i64 (D.v 20)]
/-- The value. -/
def layV (D : LayD) (A : Option Addr) (c : Nat) : Value := .agg #[.int .i64 (D.v 0), .int .i64 (D.v 1), .int .i64 (D.v 2), .int .i64 (D.v 3), .slice A D.n c, .int .i64 (D.v 5), .int .i64 (D.v 6), .int .i64 (D.v 7), .int .i64 (D.v 8), .int .i64 (D.v 9), .int .i64 (D.v 10), .int .i64 (D.v 11), .int .i64 (D.v 12), .int .i64 (D.v 13), .int .i64 (D.v 14), .int .i64 (D.v 15), .int .i64 (D.v 16), .int .i64 (D.v 17), .int .i64 (D.v 18), .int .i64 (D.v 19), .int .i64 (D.v 20)]
/-- Its numbers have 64 bits, its list is no longer than its room. -/
structure LayOk (D : LayD) (c : Nat) : Prop where
  v : ∀ k, Wide (D.v k)
  sh : ∀ i, i < D.n → Wide (D.sh i).1 ∧ Wide (D.sh i).2
  n : D.n ≤ c
  c : c ≤ maxLen

theorem rows_but {P : Program} {t : TypeId} {fs : Array Field} (_ : P.underlying t = some (.struct fs)) (h : (List.range 21).map (fun j => if j = 4 then none else fs[j]?.bind fun f => P.underlying f.type) = (List.range 21).map (fun j => if j = 4 then none else some (.int .i64))) :
    ∀ j, j < 21 → j ≠ 4 → (fs[j]?.bind fun f => P.underlying f.type) = some (.int .i64) := fun j hj h4 => by
  have := congrArg (·[j]?) h
  simpa [hj, h4] using this
theorem list21 : ∀ {l : List Value} {u : Nat → Value} {x : Value}, l.length = 21 → (∀ j, j < 21 → j ≠ 4 → l[j]? = some (u j)) → l[4]? = some x →
    l = [u 0, u 1, u 2, u 3, x, u 5, u 6, u 7, u 8, u 9, u 10, u 11, u 12, u 13, u 14, u 15, u 16, u 17, u 18, u 19, u 20] := by
  intro l u x hl h hx
  apply List.ext_getElem?
  intro j
  rcases Nat.lt_or_ge j 21 with hj | hj
  · have hj' : j = 0 ∨ j = 1 ∨ j = 2 ∨ j = 3 ∨ j = 4 ∨ j = 5 ∨ j = 6 ∨ j = 7 ∨ j = 8 ∨ j = 9 ∨ j = 10 ∨ j = 11 ∨ j = 12 ∨ j = 13 ∨ j = 14 ∨ j = 15 ∨ j = 16 ∨ j = 17 ∨ j = 18 ∨ j = 19 ∨ j = 20 := by omega
    rcases hj' with rfl | rfl | rfl | rfl | rfl | rfl | rfl | rfl | rfl | rfl | rfl | rfl | rfl | rfl | rfl | rfl | rfl | rfl | rfl | rfl | rfl
    all_goals first | exact hx | exact h _ (by omega) (by omega)
  · rw [List.getElem?_eq_none (by omega), List.getElem?_eq_none (by simpa using hj)]

set_option maxRecDepth 100000 in
/-- A layout by value. -/
theorem arg_layout {H : Type} {enc : TypeId × Value → H} {W : World} {base : Nat} {v : Value} {d : DataW H} {p : List MemPlace}
    (hv : Value.okWide Tryz.prog W .any base 40 v) (h : DataW.Trod enc Tryz.prog W 0 (fun _ => true) true 40 v d p) :
    ∃ (D : LayD) (A : Option Addr) (c : Nat), v = layV D A c ∧ LayOk D c ∧ SeenP W A D.n D.sh := by
  obtain ⟨cs, rfl, hsz, hf⟩ := arg_fields Tryz.underlying40 (by kernel_rfl) (by kernel_rfl) hv h
  have each : ∀ j, j < 21 → j ≠ 4 → ∃ x : Int, cs[j]? = some (.int .i64 x) ∧ Wide x := fun j hj h4 => by
    have h1 := rows_but Tryz.underlying40 (by kernel_rfl) j hj h4
    obtain ⟨f, hfj, hu⟩ := Option.bind_eq_some_iff.1 h1
    obtain ⟨u, n, y, hc, ht⟩ := hf j f hfj
    obtain ⟨x, e0, _, wx⟩ := DataW.trod_int hu ht
    simp only [List.cons.injEq, and_true] at e0
    exact ⟨x, by rw [hc, e0], bounds_i64 wx⟩
  obtain ⟨q, hq⟩ : ∃ q : Nat → Int, ∀ j, j < 21 → j ≠ 4 → cs[j]? = some (.int .i64 (q j)) ∧ Wide (q j) := by
    refine ⟨fun j => if hj : j < 21 ∧ j ≠ 4 then (each j hj.1 hj.2).choose else 0, fun j hj h4 => ?_⟩
    simp only [hj, h4, ne_eq, not_false_eq_true, and_self, dite_true]
    exact (each j hj h4).choose_spec
  obtain ⟨u4, n4, y4, c4, t4⟩ := hf 4 _ rfl
  obtain ⟨A, n, c, f, rfl, hn, hc, hb, hs⟩ := field_rows Tryz.underlying38 Tryz.underlying129 (by kernel_rfl) (by kernel_rfl) (ints_rows 2 rfl (by kernel_rfl)) t4
  refine ⟨⟨fun j => if j < 21 ∧ j ≠ 4 then q j else 0, n, fun i => (f i 0, f i 1)⟩, A, c, ?_, ⟨fun k => ?_, fun i hi => ⟨hb i 0 hi (by decide), hb i 1 hi (by decide)⟩, hn, hc⟩, fun i hi => ?_⟩
  · have := list21 (l := cs.toList) (u := fun j => .int .i64 (q j)) (x := .slice A n c) (by simpa using hsz) (fun j hj h4 => by simpa using (hq j hj h4).1) (by simpa using c4)
    have e : cs = cs.toList.toArray := rfl
    rw [e, this]
    simp [layV]
  · by_cases hk : k < 21 ∧ k ≠ 4
    · simp only [hk, ne_eq, not_false_eq_true, and_self, if_true]; exact (hq k hk.1 hk.2).2
    · simp only [hk, if_false]; exact ⟨by decide, by decide⟩
  · obtain ⟨ad, e, hb0, h0⟩ := hs i hi 0 (by decide)
    obtain ⟨ad', e', _, h1⟩ := hs i hi 1 (by decide)
    rw [e] at e'
    cases e'
    exact ⟨ad, e, hb0, h0, h1⟩
end L14
end Go.Proofs.YtmmgmcfhlhghoaaGreatDoor

namespace Go.Proofs.YtmmgmcfhlhghoaaGreatDoor
open Go.ChangeShapes Go.WideShapes Go.ChangeAt Go.RowKit

def doorLaid : List (String × DataW Unit) := [("compositor/param.names", Rows.laid_compositor_param_names)]

/-- The names of a layout's lines, by their places. -/
def nameL : Nat → List UInt8
  | 0 => [119, 105, 100, 116, 104]
  | 1 => [115, 112, 97, 99, 101]
  | 2 => [115, 104, 97, 112, 101]
  | 3 => [104, 97, 110, 103]
  | 4 => [112, 97, 114, 116, 115]
  | 5 => [98, 97, 100]
  | 6 => [101, 120, 116, 114, 97]
  | 7 => [112, 101, 110, 97, 108, 116, 105, 101, 115]
  | 8 => [100, 101, 109, 101, 114, 105, 116, 115]
  | _ => [108, 111, 111, 115, 101]
def nameB (j : Nat) : ByteArray := ⟨(nameL j).toArray⟩
/-- What is read of the listed variables. -/
structure Home (w : World) : Prop where
  names : ∀ j, j < 10 → w.cell? ⟨0, j, none⟩ = some (.string (nameB j))

theorem Home.ext {w w' : World} (h : Home w) (x : Ext w w') : Home w' := ⟨fun j hj => x.at (h.names j hj)⟩

theorem names_of {W : World} (h : laidMet Tryz.prog doorLaid W) (j : Nat) (hj : j < 10) : W.cell? ⟨0, j, none⟩ = some (.string (nameB j)) := by
  obtain ⟨g, t, cs, fuel, p, hg, hty, hvar, hd⟩ := Lib.laidMet.reads h (n := "compositor/param.names") (d := Rows.laid_compositor_param_names) (by simp [doorLaid])
  obtain rfl := Option.some.inj ((show Tryz.prog.globalNamed "compositor/param.names" = some 0 by kernel_rfl).symm.trans hg)
  obtain rfl := Option.some.inj ((show (Tryz.prog.globals[0]?).map (·.type) = some 111 by kernel_rfl).symm.trans hty)
  obtain ⟨fuel', d, q, hdi, he⟩ := Lib.array_elem Tryz.underlying111 hd j hj
  rw [show Tryz.prog.cellsOf 9 = 1 by kernel_rfl] at he
  obtain ⟨s, hs, hx, _⟩ := DataW.trod_string Tryz.underlying9 he
  obtain ⟨rfl, _⟩ := Prod.mk.inj hx
  have e0 := congrArg (·[0]?) hs
  simp only [List.getElem?_take, List.getElem?_drop] at e0
  rw [World.var?_cell hg hvar j, ← Array.getElem?_toList]
  have e1 : cs.toList[j]? = some (.string s) := by simpa using e0
  rw [e1]
  have e2 : s.data.toList = nameL j := by
    match j, hj with
    | 0, _ | 1, _ | 2, _ | 3, _ | 4, _ | 5, _ | 6, _ | 7, _ | 8, _ | 9, _ => simpa [nameL] using hdi.symm
  rw [show s = nameB j by cases s; rename_i a; simp only [nameB, ← e2]]

theorem home_of {W : World} (h : laidMet Tryz.prog doorLaid W) (_ : W.ShapedOpen Tryz.prog) : Home W := ⟨names_of h⟩

theorem plainLaid (w : World) : laidMetH Tryz.prog doorLaid w = laidMet Tryz.prog doorLaid w := MakeChecks.laidMetH_plain _ _ _ (by kernel_rfl)
set_option maxRecDepth 100000 in
theorem laidStart (os : Os) (args : Array Value) : laidMetH Tryz.prog doorLaid (((World.laidAll Tryz.prog os doorLaid).forCall (fun _ _ => 0) ⟨#[], args, []⟩).memory) := by
  rw [plainLaid]; exact laidMet_laidAll _ (by kernel_rfl) (by kernel_rfl)

set_option maxRecDepth 100000 in
/-- A law's step: from its walk. -/
theorem law_liftH {os : Os} {f : FuncId} {fn : Func} {s : ChangeSpec} {B : TypeId} {H : Type} {enc : TypeId × Value → H}
    (started : os.Started) (noInit : Tryz.prog.inits.idxOf? f = none) (hfn : Tryz.prog.funcs[f]? = some fn)
    (hvars : s.vars = []) (hres : fn.resultTypes = #[B]) (hB : Tryz.prog.underlying B = some .bool)
    (hr : fn.params.toList.all (fun t => Tryz.prog.readableRec t && decide (t < Tryz.prog.types.size)) = true)
    (hspec : ∀ (H : Type) (ds : List (DataW H)), ds.length = fn.params.toList.length → s.fn H (ds ++ []) = { results := [.lit (.bool true)], args := ds })
    (witness : ∃ (w : World) (tape : Tape) (i : Input), w.os = os ∧ (w.forCall tape i).Shaped Tryz.prog ∧ i.vars = [] ∧ Input.okWide Tryz.prog (w.forCall tape i) .any w.heap.size f i ∧
      ((s.pre enc Tryz.prog fn [] false (w.forCall tape i).memory i.args ∧ laidMetH Tryz.prog doorLaid (w.forCall tape i).memory) ∧ sizedMet enc Tryz.prog fn (OpenSpec.ofChange s) false (w.forCall tape i).memory i.args) ∧ ({} : Assume).holds Tryz.prog (lone (Frame.enter Tryz.prog f i.args .normal) [] (w.forCall tape i)))
    (walk : ∀ (W : World) (base : Nat) (args : Array Value) (ds : List (DataW H)) (p : List MemPlace),
      (∀ (j : Nat) t v, fn.params[j]? = some t → args[j]? = some v → Value.okWide Tryz.prog W .any base t v) →
      DataW.TrodAll enc Tryz.prog W 0 (fun _ => true) true fn.params.toList args.toList ds p → (∀ x ∈ p, x.block < W.heap.size) → Home W →
      Calls Tryz.prog f args W (Ret W (.bool true))) :
    ReturnsInHanded {} Tryz.checked os f .any (fun w args => (s.pre enc Tryz.prog fn [] false w args ∧ laidMetH Tryz.prog doorLaid w) ∧ sizedMet enc Tryz.prog fn (OpenSpec.ofChange s) false w args) (s.post enc Tryz.prog fn false true false false) := by
  refine returnsInHanded_of_calls (C := Tryz.checked) own started noInit witness ?_
  intro w tape i _ hsh _ hok hpre _
  obtain ⟨_, _, _, fn', hfn', _, _, _, _, hval⟩ := hok
  have e : fn' = fn := Option.some.inj (hfn'.symm.trans hfn)
  subst e
  obtain ⟨⟨⟨ds, gs, before, hw, _⟩, hL⟩, _⟩ := hpre
  have hW := DataW.Whole.of_heap (w' := w.forCall tape i) (by rfl) hw
  have hL := hL.of_heap (w' := w.forCall tape i) (by rfl)
  generalize hWe : w.forCall tape i = W at *
  have hval : ∀ (j : Nat) t v, fn'.params[j]? = some t → i.args[j]? = some v → Value.okWide Tryz.prog W .any w.heap.size t v := hval
  rw [plainLaid] at hL
  have hlt : ∀ x ∈ before, x.block < W.heap.size := fun x hx => hW.lt x hx
  have hW' := hW
  obtain ⟨p, q, hA, hV, rfl, hfz, hnd⟩ := hW
  rw [hvars] at hV
  obtain ⟨rfl, rfl⟩ := trodVars_none hV
  simp only [List.append_nil] at hlt hW'
  have hA : DataW.TrodAll enc Tryz.prog W 0 (fun _ => true) true fn'.params.toList i.args.toList ds p := hA
  have hlen : ds.length = fn'.params.toList.length := by
    have : ∀ (ts : List TypeId) (vs : List Value) (ds : List (DataW H)) (p : List MemPlace), DataW.TrodAll enc Tryz.prog W 0 (fun _ => true) true ts vs ds p → ds.length = ts.length := by
      intro ts
      induction ts with
      | nil => intro vs ds p h; obtain ⟨_, rfl, _⟩ := trodAll_nil h; rfl
      | cons t ts ih =>
        intro vs ds p h
        obtain ⟨v, vs', d, ds', p', q, rfl, rfl, rfl, h1, h2⟩ := trodAll_cons h
        simp [ih _ _ _ h2]
    exact this _ _ _ _ hA
  refine (walk W w.heap.size i.args ds p hval hA hlt (home_of hL hsh)).mono fun e W' ⟨he, hx⟩ => ?_
  subst he
  have e1 := hspec H ds hlen
  subst hWe
  refine ChangeSpec.post_blind ⟨ds, [], p, [], p, [], by simpa using hW', ?_, ?_, ?_, ?_, fun h => by cases h⟩
  · rw [e1]
    have hres' : fn'.resultTypes = #[B] := hres
    show DataW.TrodAll _ _ _ _ _ _ fn'.resultTypes.toList _ _ _
    rw [hres']
    exact trodAll_mk1 (shut_bool hB _)
  · rw [e1]
    exact trodAll_ext laidOut hx _ _ _ _ hr hA hlt
  · rw [e1, hvars]
    rfl
  · exact Below.frame hx _

/-- The card's last steps, of any of a door's laws. -/
theorem standsIn {ts : List TypeId} (h : (ts.all fun u => !Tryz.prog.wantsStandIn u) = true) {ps : Array TypeId} (hp : ps.toList = ts) (j : Nat) (t : TypeId) (ht : ps[j]? = some t) : Tryz.prog.wantsStandIn t = false := by
  subst hp
  have hm : t ∈ ps.toList := by simpa using Array.mem_of_getElem? ht
  simpa using List.all_eq_true.1 h t hm
end Go.Proofs.YtmmgmcfhlhghoaaGreatDoor

namespace Go.Proofs.YtmmgmcfhlhghoaaGreatDoor
open Go.RowKit
namespace L14

/-- The first place of a kind's numbers; how many they are. -/
def baseK : Nat → Nat
  | 0 => 0 | 1 => 1 | 2 => 0 | 3 => 5 | 4 => 7 | 5 => 9 | 6 => 11 | 7 => 12 | 8 => 15 | _ => 20
def cntK : Nat → Nat
  | 0 => 1 | 1 => 3 | 2 => 2 | 3 => 2 | 4 => 2 | 5 => 2 | 6 => 1 | 7 => 3 | 8 => 5 | _ => 1
/-- From which number, to which, at a width of W. -/
def loK (W : Int) (j i : Nat) : Int := match j with
  | 0 => 1
  | 2 => if i = 0 then 0 else 1
  | 3 => if i = 0 then wrap64 (1 - W) else -100
  | 5 => if i = 0 then -1 else 0
  | 7 => if i = 0 then 0 else -1000
  | 9 => -5
  | _ => 0
def hiK (W : Int) (j i : Nat) : Int := match j with
  | 0 => 67108864
  | 1 => 4194304
  | 2 => 67108864
  | 3 => if i = 0 then wrap64 (W - 1) else 100
  | 4 => 40
  | 5 => 10000
  | 6 => 67108864
  | 7 => 1000
  | 8 => 10000
  | _ => 5
/-- A line's number. -/
def valD (D : LayD) (j t i : Nat) : Int := if j = 2 then (if i = 0 then (D.sh t).1 else (D.sh t).2) else D.v (baseK j + i)
/-- The lines: of which kind each is, and the how manieth of its kind. -/
def seqN (n : Nat) : List (Nat × Nat) := [(0, 0), (1, 0)] ++ (List.range n).map (fun t => (2, t)) ++ [(3, 0), (4, 0), (5, 0), (6, 0), (7, 0), (8, 0), (9, 0)]
def okN (D : LayD) (j t i : Nat) : Bool := decide (loK (D.v 0) j i ≤ valD D j t i) && decide (valD D j t i ≤ hiK (D.v 0) j i)
def okL (D : LayD) (x : Nat × Nat) : Bool := (List.range (cntK x.1)).all fun i => okN D x.1 x.2 i
/-- It may be. -/
def mayL (D : LayD) : Bool := decide (D.n ≤ 40) && (seqN D.n).all (okL D)
/-- A line's bytes; the text. -/
def lineL (D : LayD) (x : Nat × Nat) : List UInt8 := nameL x.1 ++ (List.range (cntK x.1)).flatMap (fun i => 32 :: Lib.itoa (valD D x.1 x.2 i)) ++ [10]
def textL (D : LayD) : List UInt8 := (seqN D.n).flatMap (lineL D)

/-- Where a line's number is: of a layout in block B, its list of lines at S. -/
def adrK (B : Nat) (S : Addr) (j t i : Nat) : Addr := if j = 2 then (if i = 0 then S.add (t * 2) else ⟨(S.add (t * 2)).block, (S.add (t * 2)).off + i, none⟩) else ⟨B, baseK j + i, none⟩
/-- A line's numbers, as cells. -/
def numC (B : Nat) (S : Addr) (W : Int) (j t : Nat) : List Value := (List.range (cntK j)).flatMap fun i => [.pointer (some (adrK B S j t i)), .int .i64 (loK W j i), .int .i64 (hiK W j i)]
theorem cntK_small (j : Nat) : 1 ≤ cntK j ∧ cntK j ≤ 5 := by
  unfold cntK
  split <;> omega
theorem numC_at {B : Nat} {S : Addr} {W : Int} {j t i : Nat} (hi : i < cntK j) : (numC B S W j t)[i * 3]? = some (.pointer (some (adrK B S j t i))) ∧ (numC B S W j t)[i * 3 + 1]? = some (.int .i64 (loK W j i)) ∧ (numC B S W j t)[i * 3 + 2]? = some (.int .i64 (hiK W j i)) := by
  have h5 := (cntK_small j).2
  unfold numC
  generalize cntK j = n at *
  have hn : n = 1 ∨ n = 2 ∨ n = 3 ∨ n = 4 ∨ n = 5 := by omega
  have hi' : i = 0 ∨ i = 1 ∨ i = 2 ∨ i = 3 ∨ i = 4 := by omega
  rcases hn with rfl | rfl | rfl | rfl | rfl <;> rcases hi' with rfl | rfl | rfl | rfl | rfl <;> first | exact ⟨rfl, rfl, rfl⟩ | omega
/-- The landed function of a kind's numbers. -/
def fK : Nat → Nat
  | 0 => 48 | 1 => 49 | 3 => 52 | 4 => 53 | 5 => 54 | 6 => 55 | 7 => 56 | 8 => 57 | _ => 58
end L14
end Go.Proofs.YtmmgmcfhlhghoaaGreatDoor

namespace Go.Proofs.YtmmgmcfhlhghoaaGreatDoor
open Go.RowKit
namespace L14


set_option maxRecDepth 100000 in
theorem k1_any (B : Nat) (w : World) : Calls Tryz.prog 48 #[.pointer (some ⟨B, 0, none⟩)] w fun e w' => ∃ k, e = .returned (.slice (some ⟨k, 0, none⟩) 1 1) ∧ w.heap.size ≤ k ∧
    Blk w' k 102 [.pointer (some ⟨B, 0, none⟩), .int .i64 1, .int .i64 67108864] ∧ Ext w w' := by
  go_enter Tryz.func48, Tryz.ntmps48
  go_wp2_with fail
  go_ret
  exact ⟨_, rfl, Nat.le_refl _, Blk.lit _ _ _ _ rfl, (Ext.refl _).alloc _⟩

set_option maxRecDepth 100000 in
theorem k2_any (B : Nat) (w : World) : Calls Tryz.prog 49 #[.pointer (some ⟨B, 0, none⟩)] w fun e w' => ∃ k, e = .returned (.slice (some ⟨k, 0, none⟩) 3 3) ∧ w.heap.size ≤ k ∧
    Blk w' k 102 [.pointer (some ⟨B, 1, none⟩), .int .i64 0, .int .i64 4194304, .pointer (some ⟨B, 2, none⟩), .int .i64 0, .int .i64 4194304, .pointer (some ⟨B, 3, none⟩), .int .i64 0, .int .i64 4194304] ∧ Ext w w' := by
  go_enter Tryz.func49, Tryz.ntmps49
  go_wp2_with fail
  go_region
  go_wp2_with fail
  go_ret
  exact ⟨_, rfl, Nat.le_refl _, (Blk.lit _ _ _ _ rfl).ext (Ext.refl _).drew, ((Ext.refl _).alloc _).drew⟩

set_option maxRecDepth 100000 in
theorem k6_any (B : Nat) (w : World) : Calls Tryz.prog 53 #[.pointer (some ⟨B, 0, none⟩)] w fun e w' => ∃ k, e = .returned (.slice (some ⟨k, 0, none⟩) 2 2) ∧ w.heap.size ≤ k ∧
    Blk w' k 102 [.pointer (some ⟨B, 7, none⟩), .int .i64 0, .int .i64 40, .pointer (some ⟨B, 8, none⟩), .int .i64 0, .int .i64 40] ∧ Ext w w' := by
  go_enter Tryz.func53, Tryz.ntmps53
  go_wp2_with fail
  go_region
  go_wp2_with fail
  go_ret
  exact ⟨_, rfl, Nat.le_refl _, (Blk.lit _ _ _ _ rfl).ext (Ext.refl _).drew, ((Ext.refl _).alloc _).drew⟩

set_option maxRecDepth 100000 in
theorem k7_any (B : Nat) (w : World) : Calls Tryz.prog 54 #[.pointer (some ⟨B, 0, none⟩)] w fun e w' => ∃ k, e = .returned (.slice (some ⟨k, 0, none⟩) 2 2) ∧ w.heap.size ≤ k ∧
    Blk w' k 102 [.pointer (some ⟨B, 9, none⟩), .int .i64 (-1), .int .i64 10000, .pointer (some ⟨B, 10, none⟩), .int .i64 0, .int .i64 10000] ∧ Ext w w' := by
  go_enter Tryz.func54, Tryz.ntmps54
  go_wp2_with fail
  go_region
  go_wp2_with fail
  go_ret
  exact ⟨_, rfl, Nat.le_refl _, (Blk.lit _ _ _ _ rfl).ext (Ext.refl _).drew, ((Ext.refl _).alloc _).drew⟩

set_option maxRecDepth 100000 in
theorem k8_any (B : Nat) (w : World) : Calls Tryz.prog 55 #[.pointer (some ⟨B, 0, none⟩)] w fun e w' => ∃ k, e = .returned (.slice (some ⟨k, 0, none⟩) 1 1) ∧ w.heap.size ≤ k ∧
    Blk w' k 102 [.pointer (some ⟨B, 11, none⟩), .int .i64 0, .int .i64 67108864] ∧ Ext w w' := by
  go_enter Tryz.func55, Tryz.ntmps55
  go_wp2_with fail
  go_ret
  exact ⟨_, rfl, Nat.le_refl _, Blk.lit _ _ _ _ rfl, (Ext.refl _).alloc _⟩

set_option maxRecDepth 100000 in
theorem k9_any (B : Nat) (w : World) : Calls Tryz.prog 56 #[.pointer (some ⟨B, 0, none⟩)] w fun e w' => ∃ k, e = .returned (.slice (some ⟨k, 0, none⟩) 3 3) ∧ w.heap.size ≤ k ∧
    Blk w' k 102 [.pointer (some ⟨B, 12, none⟩), .int .i64 0, .int .i64 1000, .pointer (some ⟨B, 13, none⟩), .int .i64 (-1000), .int .i64 1000, .pointer (some ⟨B, 14, none⟩), .int .i64 (-1000), .int .i64 1000] ∧ Ext w w' := by
  go_enter Tryz.func56, Tryz.ntmps56
  go_wp2_with fail
  go_region
  go_wp2_with fail
  go_ret
  exact ⟨_, rfl, Nat.le_refl _, (Blk.lit _ _ _ _ rfl).ext (Ext.refl _).drew, ((Ext.refl _).alloc _).drew⟩

set_option maxRecDepth 100000 in
theorem k10_any (B : Nat) (w : World) : Calls Tryz.prog 57 #[.pointer (some ⟨B, 0, none⟩)] w fun e w' => ∃ k, e = .returned (.slice (some ⟨k, 0, none⟩) 5 5) ∧ w.heap.size ≤ k ∧
    Blk w' k 102 [.pointer (some ⟨B, 15, none⟩), .int .i64 0, .int .i64 10000, .pointer (some ⟨B, 16, none⟩), .int .i64 0, .int .i64 10000, .pointer (some ⟨B, 17, none⟩), .int .i64 0, .int .i64 10000, .pointer (some ⟨B, 18, none⟩), .int .i64 0, .int .i64 10000, .pointer (some ⟨B, 19, none⟩), .int .i64 0, .int .i64 10000] ∧ Ext w w' := by
  go_enter Tryz.func57, Tryz.ntmps57
  go_wp2_with fail
  go_region
  go_wp2_with fail
  go_ret
  exact ⟨_, rfl, Nat.le_refl _, (Blk.lit _ _ _ _ rfl).ext (Ext.refl _).drew, ((Ext.refl _).alloc _).drew⟩

set_option maxRecDepth 100000 in
theorem k11_any (B : Nat) (w : World) : Calls Tryz.prog 58 #[.pointer (some ⟨B, 0, none⟩)] w fun e w' => ∃ k, e = .returned (.slice (some ⟨k, 0, none⟩) 1 1) ∧ w.heap.size ≤ k ∧
    Blk w' k 102 [.pointer (some ⟨B, 20, none⟩), .int .i64 (-5), .int .i64 5] ∧ Ext w w' := by
  go_enter Tryz.func58, Tryz.ntmps58
  go_wp2_with fail
  go_ret
  exact ⟨_, rfl, Nat.le_refl _, Blk.lit _ _ _ _ rfl, (Ext.refl _).alloc _⟩

set_option maxRecDepth 100000 in
theorem k5_any (B : Nat) (W : Int) (w : World) (c0 : w.cell? ⟨B, 0, none⟩ = some (.int .i64 W)) : Calls Tryz.prog 52 #[.pointer (some ⟨B, 0, none⟩)] w fun e w' => ∃ k, e = .returned (.slice (some ⟨k, 0, none⟩) 2 2) ∧ w.heap.size ≤ k ∧
    Blk w' k 102 [.pointer (some ⟨B, 5, none⟩), .int .i64 (wrap64 (1 - W)), .int .i64 (wrap64 (W - 1)), .pointer (some ⟨B, 6, none⟩), .int .i64 (-100), .int .i64 100] ∧ Ext w w' := by
  go_enter Tryz.func52, Tryz.ntmps52
  go_wp2_with fail
  go_region
  go_wp2_with fail
  go_ret
  exact ⟨_, rfl, Nat.le_refl _, (Blk.lit _ _ _ _ rfl).ext (Ext.refl _).drew, ((Ext.refl _).alloc _).drew⟩

set_option maxRecDepth 100000 in
theorem k4_any (B : Nat) (S : Addr) (n c t : Nat) (w : World) (c4 : w.cell? ⟨B, 4, none⟩ = some (.slice (some S) n c)) (ht : t < n) : Calls Tryz.prog 51 #[.pointer (some ⟨B, 0, none⟩), .int .i64 t] w fun e w' => ∃ k, e = .returned (.slice (some ⟨k, 0, none⟩) 2 2) ∧ w.heap.size ≤ k ∧
    Blk w' k 102 [.pointer (some (S.add (t * 2))), .int .i64 0, .int .i64 67108864, .pointer (some ⟨(S.add (t * 2)).block, (S.add (t * 2)).off + 1, none⟩), .int .i64 1, .int .i64 67108864] ∧ Ext w w' := by
  have ht' : (t : Int) < (n : Int) := by omega
  go_enter Tryz.func51, Tryz.ntmps51
  go_wp2_with fail
  go_region
  go_wp2_with fail
  go_ret
  exact ⟨_, rfl, Nat.le_refl _, (Blk.lit _ _ _ _ rfl).ext (Ext.refl _).drew, ((Ext.refl _).alloc _).drew⟩

set_option maxRecDepth 100000 in
theorem k3_any (B : Nat) (A : Option Addr) (n c : Nat) (w : World) (c4 : w.cell? ⟨B, 4, none⟩ = some (.slice A n c)) : Calls Tryz.prog 50 #[.pointer (some ⟨B, 0, none⟩)] w (fun e w' => e = .returned (.int .i64 n) ∧ w' = w) := by
  go_enter Tryz.func50, Tryz.ntmps50
  go_wp2_with fail
  go_ret
  exact ⟨rfl, rfl⟩
theorem one_any (v : Value) (w : World) : Calls Tryz.prog 73 #[v] w (fun e w' => e = .returned (.int .i64 1) ∧ w' = w) := by
  go_enter Tryz.func73, Tryz.ntmps73
  go_wp2_with fail
  go_ret
  exact ⟨rfl, rfl⟩
end L14
end Go.Proofs.YtmmgmcfhlhghoaaGreatDoor

namespace Go.Proofs.YtmmgmcfhlhghoaaGreatDoor
open Go.RowKit
namespace L14

/-- What the numbers of a line are answered as. -/
def NumsAt (w : World) (n : Nat) (cs : List Value) (e : Ending) (w' : World) : Prop := ∃ k, e = .returned (.slice (some ⟨k, 0, none⟩) n n) ∧ w.heap.size ≤ k ∧ Blk w' k 102 cs ∧ Ext w w'
theorem fk_any (j B : Nat) (S : Addr) (W : Int) (w : World) (hj : j < 10) (h2 : j ≠ 2) (c0 : w.cell? ⟨B, 0, none⟩ = some (.int .i64 W)) : Calls Tryz.prog (fK j) #[.pointer (some ⟨B, 0, none⟩)] w (NumsAt w (cntK j) (numC B S W j 0)) := by
  have hj' : j = 0 ∨ j = 1 ∨ j = 3 ∨ j = 4 ∨ j = 5 ∨ j = 6 ∨ j = 7 ∨ j = 8 ∨ j = 9 := by omega
  rcases hj' with rfl | rfl | rfl | rfl | rfl | rfl | rfl | rfl | rfl
  · exact k1_any B w
  · exact k2_any B w
  · exact k5_any B W w c0
  · exact k6_any B w
  · exact k7_any B w
  · exact k8_any B w
  · exact k9_any B w
  · exact k10_any B w
  · exact k11_any B w
theorem k4_all (B : Nat) (S : Addr) (W : Int) (n c t : Nat) (w : World) (c4 : w.cell? ⟨B, 4, none⟩ = some (.slice (some S) n c)) (ht : t < n) : Calls Tryz.prog 51 #[.pointer (some ⟨B, 0, none⟩), .int .i64 t] w (NumsAt w (cntK 2) (numC B S W 2 t)) := by
  have e : numC B S W 2 t = [.pointer (some (S.add (t * 2))), .int .i64 0, .int .i64 67108864, .pointer (some ⟨(S.add (t * 2)).block, (S.add (t * 2)).off + 1, none⟩), .int .i64 1, .int .i64 67108864] := rfl
  rw [e]
  exact k4_any B S n c t w c4 ht
/-- Through the closure that leaves the line's place out. -/
theorem two_any (j B nb t : Nat) (S : Addr) (W : Int) (w : World) (hj : j < 10) (h2 : j ≠ 2) (c0 : w.cell? ⟨B, 0, none⟩ = some (.int .i64 W)) (cn : w.cell? ⟨nb, 0, none⟩ = some (.func (.func (fK j)) #[] #[])) :
    Calls Tryz.prog 74 #[.pointer (some ⟨B, 0, none⟩), .int .i64 t, .pointer (some ⟨nb, 0, none⟩)] w (NumsAt w (cntK j) (numC B S W j t)) := by
  have e : numC B S W j t = numC B S W j 0 := by simp only [numC, adrK, if_neg h2]
  rw [e]
  have ef := fk_any j B S W w hj h2 c0
  obtain ⟨fn, hfn⟩ : ∃ fn, fn = fK j := ⟨_, rfl⟩
  rw [← hfn] at ef cn
  have hk : ∀ args w, (callFunc fn args).run Tryz.prog w = .ok (.enter fn args) w := by
    have hj' : j = 0 ∨ j = 1 ∨ j = 3 ∨ j = 4 ∨ j = 5 ∨ j = 6 ∨ j = 7 ∨ j = 8 ∨ j = 9 := by omega
    rw [hfn]
    rcases hj' with rfl | rfl | rfl | rfl | rfl | rfl | rfl | rfl | rfl
    · exact enters_of Tryz.func48 (by kernel_rfl) rfl
    · exact enters_of Tryz.func49 (by kernel_rfl) rfl
    · exact enters_of Tryz.func52 (by kernel_rfl) rfl
    · exact enters_of Tryz.func53 (by kernel_rfl) rfl
    · exact enters_of Tryz.func54 (by kernel_rfl) rfl
    · exact enters_of Tryz.func55 (by kernel_rfl) rfl
    · exact enters_of Tryz.func56 (by kernel_rfl) rfl
    · exact enters_of Tryz.func57 (by kernel_rfl) rfl
    · exact enters_of Tryz.func58 (by kernel_rfl) rfl
  clear hfn
  go_enter Tryz.func74, Tryz.ntmps74
  go_wp2_with (go_at_fn fn; refine ef.mono ?_; rintro e w1 ⟨k, rfl, hk1, hb, hx⟩)
  go_wp2_with fail
  go_ret
  exact ⟨k, rfl, hk1, hb, hx⟩
end L14
end Go.Proofs.YtmmgmcfhlhghoaaGreatDoor

namespace Go.Proofs.YtmmgmcfhlhghoaaGreatDoor
open Go.RowKit
namespace L14
open L11

/-- Which name it is. -/
def nameJ (s : ByteArray) : Option Nat := if s = nameB 0 then some 0 else if s = nameB 1 then some 1 else if s = nameB 2 then some 2 else if s = nameB 3 then some 3 else if s = nameB 4 then some 4 else if s = nameB 5 then some 5 else if s = nameB 6 then some 6 else if s = nameB 7 then some 7 else if s = nameB 8 then some 8 else if s = nameB 9 then some 9 else none
theorem nameJ_B : ∀ j, j < 10 → nameJ (nameB j) = some j := by
  intro j hj
  have hj' : j = 0 ∨ j = 1 ∨ j = 2 ∨ j = 3 ∨ j = 4 ∨ j = 5 ∨ j = 6 ∨ j = 7 ∨ j = 8 ∨ j = 9 := by omega
  rcases hj' with rfl | rfl | rfl | rfl | rfl | rfl | rfl | rfl | rfl | rfl <;> decide
theorem nameJ_eq {s : ByteArray} {j : Nat} (h : nameJ s = some j) : j < 10 ∧ s = nameB j := by
  unfold nameJ at h
  repeat' split at h
  all_goals first | (cases h; exact ⟨by omega, by assumption⟩) | cases h
/-- Where a kind's function lies, when the map lies in block b. -/
def nbK (b j : Nat) : Nat := b + 1 + 2 * (if j < 2 then j else j - 1)
theorem nbK_ne (b j : Nat) : ¬ nbK b j = b := by unfold nbK; omega
def zeroV : Value := .agg #[.nilFunc, .nilFunc]
def kindV (b j : Nat) : Value := if j = 2 then .agg #[.func (.func 50) #[] #[], .func (.func 51) #[] #[]] else .agg #[.func (.func 73) #[] #[], .func (.func 74) #[] #[.pointer (some ⟨nbK b j, 0, none⟩)]]
def codeV (b j : Nat) : Value := if j = 10 then zeroV else kindV b j
theorem codeV_inj {b j k : Nat} (hj : j ≤ 10) (hk : k ≤ 10) (h : codeV b j = codeV b k) : j = k := by
  by_cases j10 : j = 10 <;> by_cases k10 : k = 10 <;> by_cases j2 : j = 2 <;> by_cases k2 : k = 2 <;> simp [codeV, kindV, zeroV, j10, k10, j2, k2] at h ⊢
  simp only [nbK] at h
  split at h <;> split at h <;> omega
open Classical in
noncomputable def kindR (b : Nat) (v : Value) : Option (DataW Unit × List MemPlace) := if h : ∃ j, j ≤ 10 ∧ v = codeV b j then some (.lit (.int .i64 (h.choose : Int)), []) else none
theorem kindR_code {b j : Nat} (hj : j ≤ 10) : kindR b (codeV b j) = some (.lit (.int .i64 j), []) := by
  have h : ∃ k, k ≤ 10 ∧ codeV b j = codeV b k := ⟨j, hj, rfl⟩
  have e : h.choose = j := (codeV_inj hj h.choose_spec.1 h.choose_spec.2).symm
  unfold kindR
  rw [dif_pos h, e]
theorem kindR_inv {b j : Nat} {v : Value} {ps : List MemPlace} (h : kindR b v = some (.lit (.int .i64 (j : Int)), ps)) : v = codeV b j := by
  unfold kindR at h
  split at h
  · rename_i hx
    simp only [Option.some.injEq, Prod.mk.injEq, DataW.lit.injEq, Lit.int.injEq, true_and] at h
    have : hx.choose = j := by omega
    rw [← this]; exact hx.choose_spec.2
  · cases h
/-- The map's entries. -/
def kindM (x : Value) : Option (DataW Unit) := match x with
  | .string s => (nameJ s).map fun (j : Nat) => .lit (.int .i64 (j : Int))
  | _ => none
/-- The kinds are there, in block b. -/
structure KindsAt (w : World) (b : Nat) : Prop where
  map : MapG Tryz.prog 9 (kindR b) w b 10 kindM
  fn : ∀ j, j < 10 → j ≠ 2 → Blk w (nbK b j) 126 [.func (.func (fK j)) #[] #[]]
theorem KindsAt.ext {w w' : World} {b : Nat} (h : KindsAt w b) (x : Ext w w') : KindsAt w' b := ⟨h.map.block (x.block b h.map.lt), fun j hj h2 => (h.fn j hj h2).ext x⟩
theorem nameB_size (j : Nat) : (nameB j).size ≤ maxLen := by
  have : (nameL j).length ≤ 9 := by unfold nameL; split <;> decide
  show (nameL j).toArray.size ≤ maxLen
  rw [List.size_toArray]
  exact Nat.le_trans this (by decide)
theorem skeyed : Maps.Keyed Tryz.prog 9 := Maps.string_keyed Tryz.underlying9
theorem zero_kind (w : World) : (zeroValue 115).run Tryz.prog w = .ok zeroV w := by kernel_rfl
theorem KindsAt.look {w : World} {b : Nat} (h : KindsAt w b) (s : ByteArray) (hs : s.size ≤ 1000000) :
    (Instr.lookup 109 (.map (some b)) (.string s) true).run Tryz.prog w = .ok (.tuple #[codeV b ((nameJ s).getD 10), .bool (nameJ s).isSome]) w := by
  obtain ⟨v, ps, hr, hv⟩ := h.map.look skeyed Tryz.underlying109 (zero_kind w) (kindR_code (b := b) (j := 10) (Nat.le_refl _)) (WideMaps.keyOf_string_mk Tryz.underlying9 (Nat.le_trans hs (by decide)))
  rw [hr]
  have e : kindM (.string s) = (nameJ s).map fun (j : Nat) => (DataW.lit (.int .i64 (j : Int)) : DataW Unit) := rfl
  rw [e] at hv ⊢
  cases hj : nameJ s with
  | none => rw [hj] at hv; rw [kindR_inv hv]; rfl
  | some j => rw [hj] at hv; rw [kindR_inv hv]; rfl
theorem KindsAt.look1 {w : World} {b : Nat} (h : KindsAt w b) (j : Nat) (hj : j < 10) :
    (Instr.lookup 109 (.map (some b)) (.string (nameB j)) false).run Tryz.prog w = .ok (kindV b j) w := by
  obtain ⟨v, ps, hr, hv⟩ := h.map.look1 skeyed Tryz.underlying109 (zero_kind w) (kindR_code (b := b) (j := 10) (Nat.le_refl _)) (WideMaps.keyOf_string_mk Tryz.underlying9 (nameB_size j))
  rw [hr]
  have e : kindM (.string (nameB j)) = some (DataW.lit (.int .i64 (j : Int)) : DataW Unit) := by
    have e0 : kindM (.string (nameB j)) = (nameJ (nameB j)).map fun (j : Nat) => (DataW.lit (.int .i64 (j : Int)) : DataW Unit) := rfl
    rw [e0, nameJ_B j hj]; rfl
  rw [e] at hv
  rw [kindR_inv hv, codeV, if_neg (by omega)]

set_option maxRecDepth 100000 in
theorem once_any (s f : Nat) (w : World) (hs : w.heap.size = s) : Calls Tryz.prog 47 #[.func (.func f) #[] #[]] w (fun e w' => e = .returned (.agg #[.func (.func 73) #[] #[], .func (.func 74) #[] #[.pointer (some ⟨s, 0, none⟩)]]) ∧
    w'.heap.size = s + 2 ∧ Blk w' s 126 [.func (.func f) #[] #[]] ∧ Ext w w') := by
  subst hs
  go_enter Tryz.func47, Tryz.ntmps47
  go_wp2_with fail
  refine bodyPost_ret (v := .agg #[.func (.func 73) #[] #[], .func (.func 74) #[] #[.pointer (some ⟨w.heap.size, 0, none⟩)]]) (by simp [results, Tryz.results47, go_sem]) rfl ⟨rfl, ?_, ?_, ?_⟩
  · simp
  · have h1 : Blk (w.alloc (.cells #[.func (.func f) #[] #[]] 126)) w.heap.size 126 [.func (.func f) #[] #[]] := Blk.lit _ _ _ _ rfl
    simpa [go_sem] using h1.ext ((Ext.refl _).alloc (.cells #[.func (.func 73) #[] #[], .func (.func 74) #[] #[.pointer (some ⟨w.heap.size, 0, none⟩)]] 115))
  · exact ((Ext.refl _).alloc _).alloc _
theorem key_string {x : Value} {l : Lit} (h : keyOf Tryz.prog 9 x = some l) : ∃ s, x = .string s := by
  cases x <;> simp [keyOf, Tryz.underlying9, mapKey] at h
  exact ⟨_, rfl⟩
open Classical in
theorem kindM_eq (s : ByteArray) : kindM (.string s) = ((if Value.string s = Value.string (nameB 9) then some (DataW.lit (Lit.int IntKind.i64 ((9 : Nat) : Int))) else if Value.string s = Value.string (nameB 8) then some (DataW.lit (Lit.int IntKind.i64 ((8 : Nat) : Int))) else if Value.string s = Value.string (nameB 7) then some (DataW.lit (Lit.int IntKind.i64 ((7 : Nat) : Int))) else if Value.string s = Value.string (nameB 6) then some (DataW.lit (Lit.int IntKind.i64 ((6 : Nat) : Int))) else if Value.string s = Value.string (nameB 5) then some (DataW.lit (Lit.int IntKind.i64 ((5 : Nat) : Int))) else if Value.string s = Value.string (nameB 4) then some (DataW.lit (Lit.int IntKind.i64 ((4 : Nat) : Int))) else if Value.string s = Value.string (nameB 3) then some (DataW.lit (Lit.int IntKind.i64 ((3 : Nat) : Int))) else if Value.string s = Value.string (nameB 2) then some (DataW.lit (Lit.int IntKind.i64 ((2 : Nat) : Int))) else if Value.string s = Value.string (nameB 1) then some (DataW.lit (Lit.int IntKind.i64 ((1 : Nat) : Int))) else if Value.string s = Value.string (nameB 0) then some (DataW.lit (Lit.int IntKind.i64 ((0 : Nat) : Int))) else none) : Option (DataW Unit)) := by
  have e0 : kindM (.string s) = (nameJ s).map fun (j : Nat) => (DataW.lit (.int .i64 (j : Int)) : DataW Unit) := rfl
  rw [e0]
  cases hj : nameJ s with
  | none =>
    unfold nameJ at hj
    repeat' split at hj
    all_goals first | cases hj | skip
    rename_i h0 h1 h2 h3 h4 h5 h6 h7 h8 h9
    have n : ∀ j, Value.string s = Value.string (nameB j) → s = nameB j := fun j h => by injection h
    rw [if_neg (fun h => h9 (n 9 h)), if_neg (fun h => h8 (n 8 h)), if_neg (fun h => h7 (n 7 h)), if_neg (fun h => h6 (n 6 h)), if_neg (fun h => h5 (n 5 h)), if_neg (fun h => h4 (n 4 h)), if_neg (fun h => h3 (n 3 h)), if_neg (fun h => h2 (n 2 h)), if_neg (fun h => h1 (n 1 h)), if_neg (fun h => h0 (n 0 h))]
    rfl
  | some j =>
    obtain ⟨hj1, rfl⟩ := nameJ_eq hj
    have hj' : j = 0 ∨ j = 1 ∨ j = 2 ∨ j = 3 ∨ j = 4 ∨ j = 5 ∨ j = 6 ∨ j = 7 ∨ j = 8 ∨ j = 9 := by omega
    have n : ∀ i k, i < 10 → k < 10 → i ≠ k → ¬ Value.string (nameB i) = Value.string (nameB k) := fun i k hi hk hne h => by
      injection h with h
      have := congrArg nameJ h
      rw [nameJ_B i hi, nameJ_B k hk] at this
      exact hne (Option.some.inj this)
    rcases hj' with rfl | rfl | rfl | rfl | rfl | rfl | rfl | rfl | rfl | rfl
    · show some _ = _; rw [if_neg (n 0 9 (by decide) (by decide) (by decide)), if_neg (n 0 8 (by decide) (by decide) (by decide)), if_neg (n 0 7 (by decide) (by decide) (by decide)), if_neg (n 0 6 (by decide) (by decide) (by decide)), if_neg (n 0 5 (by decide) (by decide) (by decide)), if_neg (n 0 4 (by decide) (by decide) (by decide)), if_neg (n 0 3 (by decide) (by decide) (by decide)), if_neg (n 0 2 (by decide) (by decide) (by decide)), if_neg (n 0 1 (by decide) (by decide) (by decide)), if_pos rfl]
    · show some _ = _; rw [if_neg (n 1 9 (by decide) (by decide) (by decide)), if_neg (n 1 8 (by decide) (by decide) (by decide)), if_neg (n 1 7 (by decide) (by decide) (by decide)), if_neg (n 1 6 (by decide) (by decide) (by decide)), if_neg (n 1 5 (by decide) (by decide) (by decide)), if_neg (n 1 4 (by decide) (by decide) (by decide)), if_neg (n 1 3 (by decide) (by decide) (by decide)), if_neg (n 1 2 (by decide) (by decide) (by decide)), if_pos rfl]
    · show some _ = _; rw [if_neg (n 2 9 (by decide) (by decide) (by decide)), if_neg (n 2 8 (by decide) (by decide) (by decide)), if_neg (n 2 7 (by decide) (by decide) (by decide)), if_neg (n 2 6 (by decide) (by decide) (by decide)), if_neg (n 2 5 (by decide) (by decide) (by decide)), if_neg (n 2 4 (by decide) (by decide) (by decide)), if_neg (n 2 3 (by decide) (by decide) (by decide)), if_pos rfl]
    · show some _ = _; rw [if_neg (n 3 9 (by decide) (by decide) (by decide)), if_neg (n 3 8 (by decide) (by decide) (by decide)), if_neg (n 3 7 (by decide) (by decide) (by decide)), if_neg (n 3 6 (by decide) (by decide) (by decide)), if_neg (n 3 5 (by decide) (by decide) (by decide)), if_neg (n 3 4 (by decide) (by decide) (by decide)), if_pos rfl]
    · show some _ = _; rw [if_neg (n 4 9 (by decide) (by decide) (by decide)), if_neg (n 4 8 (by decide) (by decide) (by decide)), if_neg (n 4 7 (by decide) (by decide) (by decide)), if_neg (n 4 6 (by decide) (by decide) (by decide)), if_neg (n 4 5 (by decide) (by decide) (by decide)), if_pos rfl]
    · show some _ = _; rw [if_neg (n 5 9 (by decide) (by decide) (by decide)), if_neg (n 5 8 (by decide) (by decide) (by decide)), if_neg (n 5 7 (by decide) (by decide) (by decide)), if_neg (n 5 6 (by decide) (by decide) (by decide)), if_pos rfl]
    · show some _ = _; rw [if_neg (n 6 9 (by decide) (by decide) (by decide)), if_neg (n 6 8 (by decide) (by decide) (by decide)), if_neg (n 6 7 (by decide) (by decide) (by decide)), if_pos rfl]
    · show some _ = _; rw [if_neg (n 7 9 (by decide) (by decide) (by decide)), if_neg (n 7 8 (by decide) (by decide) (by decide)), if_pos rfl]
    · show some _ = _; rw [if_neg (n 8 9 (by decide) (by decide) (by decide)), if_pos rfl]
    · show some _ = _; rw [if_pos rfl]
open Classical in
/-- What is stored in a map, and that nothing is made. -/
theorem store_sized {K : TypeId} {R : Value → Option (DataW Unit × List MemPlace)} {w : World} {b n : Nat} {m : Value → Option (DataW Unit)} (h : MapG Tryz.prog K R w b n m) (law : Maps.Keyed Tryz.prog K) {t e : TypeId} (ht : Tryz.prog.underlying t = some (.map K e)) (hn : n < maxLen) {x : Value} {l : Lit} (hx : keyOf Tryz.prog K x = some l)
    {v : Value} {d : DataW Unit} {ps : List MemPlace} (hv : R v = some (d, ps)) :
    ∃ w', (Instr.mapUpdate t (.map (some b)) x v).run Tryz.prog w = .ok () w' ∧ MapG Tryz.prog K R w' b (n + 1) (fun y => if y = x then some d else m y) ∧ w.grownBy w' (some b) ∧ w'.heap.size = w.heap.size := by
  obtain ⟨D, ho, q⟩ := h
  have hD : Maps.IsMap D := ho.isMap
  obtain ⟨w', hr, ho', hg⟩ := ho.store law ht hn hx hv
  have hk : WideAt.IsKeyLit l := law.key hx
  refine ⟨w', hr, ⟨_, ho', fun y ly hy => ?_⟩, hg.grown, ?_⟩
  · by_cases e : y = x
    · subst e
      rw [hy] at hx
      cases hx
      simp only [if_true]
      exact ⟨Maps.has_put_same hD hk _, fun p' e' z => by cases e'; exact Maps.atKey_put_same hD hk _ _⟩
    · simp only [if_neg e]
      have hne : ly ≠ l := fun h => e (law.inj hy (by rw [h]; exact hx))
      rw [Maps.has_put_other hne]
      exact ⟨(q y ly hy).1, fun p' e' z => by rw [Maps.atKey_put_other hne]; exact (q y ly hy).2 p' e' z⟩
  · obtain ⟨es, clock, es', clock', _, rfl⟩ := hg
    exact Array.size_setIfInBounds ..
-- KINDS
set_option maxRecDepth 100000 in
set_option maxHeartbeats 4000000 in
theorem kinds_any (w : World) : Calls Tryz.prog 37 #[] w (fun e w' => e = .returned (.map (some w.heap.size)) ∧ KindsAt w' w.heap.size ∧ Ext w w') := by
  have hmm := @run_makeMap Tryz.prog
  go_enter Tryz.func37, Tryz.ntmps37
  go_wp2_with fail
  obtain ⟨v, hv⟩ : ∃ v, v = w.alloc (.map #[] 0) := ⟨_, rfl⟩
  obtain ⟨b, hb⟩ : ∃ b, b = w.heap.size := ⟨_, rfl⟩
  have M : MapG Tryz.prog 9 (kindR b) v b 0 (fun _ => none) := by rw [hv, hb]; exact MapG.made w
  have hz : v.heap.size = b + 1 := by rw [hv, hb]; simp
  have B : But (fun k => k = b) w v := by rw [hv]; exact But.alloc w _
  rw [← hv, ← hb]
  have HB := Lib.hid hb
  clear hv hb
  refine (once_any (nbK b 0) 48 v (by have := hz; simp only [nbK] at *; simp at *; omega)).mono ?_
  rintro e w0 ⟨rfl, hz0, hc0, x0⟩
  have N0 := M.block (x0.block b M.lt)
  have B0 := B.trans (But.of_ext (S := fun k => k = b) x0) (fun i h => .inl h)
  obtain ⟨v0, r0, M0, g0, s0⟩ := store_sized N0 skeyed Tryz.underlying109 (by decide) (WideMaps.keyOf_string_mk Tryz.underlying9 (s := ⟨#[119, 105, 100, 116, 104]⟩) (by decide)) (kindR_code (b := b) (j := 0) (by decide))
  have C0 := B0.trans (But.of_grown (S := fun k => k = b) g0 (fun g h => (Option.some.inj h).symm)) (fun i h => .inl h)
  have sz0 : v0.heap.size = b + 3 := by have := hz0; rw [s0]; simp only [nbK] at *; simp at *; omega
  rw [show codeV b 0 = .agg #[.func (.func 73) #[] #[], .func (.func 74) #[] #[.pointer (some ⟨nbK b 0, 0, none⟩)]] from rfl] at r0
  go_wp2_with fail
  clear r0
  refine (once_any (nbK b 1) 49 v0 (by have := sz0; simp only [nbK] at *; simp at *; omega)).mono ?_
  rintro e w1 ⟨rfl, hz1, hc1, x1⟩
  have N1 := M0.block (x1.block b M0.lt)
  have B1 := C0.trans (But.of_ext (S := fun k => k = b) x1) (fun i h => .inl h)
  obtain ⟨v1, r1, M1, g1, s1⟩ := store_sized N1 skeyed Tryz.underlying109 (by decide) (WideMaps.keyOf_string_mk Tryz.underlying9 (s := ⟨#[115, 112, 97, 99, 101]⟩) (by decide)) (kindR_code (b := b) (j := 1) (by decide))
  have C1 := B1.trans (But.of_grown (S := fun k => k = b) g1 (fun g h => (Option.some.inj h).symm)) (fun i h => .inl h)
  have sz1 : v1.heap.size = b + 5 := by have := hz1; rw [s1]; simp only [nbK] at *; simp at *; omega
  rw [show codeV b 1 = .agg #[.func (.func 73) #[] #[], .func (.func 74) #[] #[.pointer (some ⟨nbK b 1, 0, none⟩)]] from rfl] at r1
  obtain ⟨v2, r2, M2, g2, s2⟩ := store_sized M1 skeyed Tryz.underlying109 (by decide) (WideMaps.keyOf_string_mk Tryz.underlying9 (s := ⟨#[115, 104, 97, 112, 101]⟩) (by decide)) (kindR_code (b := b) (j := 2) (by decide))
  have C2 := C1.trans (But.of_grown (S := fun k => k = b) g2 (fun g h => (Option.some.inj h).symm)) (fun i h => .inl h)
  have sz2 : v2.heap.size = b + 5 := by have := sz1; rw [s2]; simp only [nbK] at *; simp at *; omega
  rw [show codeV b 2 = .agg #[.func (.func 50) #[] #[], .func (.func 51) #[] #[]] from rfl] at r2
  go_wp2_with fail
  clear r1 r2
  refine (once_any (nbK b 3) 52 v2 (by have := sz2; simp only [nbK] at *; simp at *; omega)).mono ?_
  rintro e w3 ⟨rfl, hz3, hc3, x3⟩
  have N3 := M2.block (x3.block b M2.lt)
  have B3 := C2.trans (But.of_ext (S := fun k => k = b) x3) (fun i h => .inl h)
  obtain ⟨v3, r3, M3, g3, s3⟩ := store_sized N3 skeyed Tryz.underlying109 (by decide) (WideMaps.keyOf_string_mk Tryz.underlying9 (s := ⟨#[104, 97, 110, 103]⟩) (by decide)) (kindR_code (b := b) (j := 3) (by decide))
  have C3 := B3.trans (But.of_grown (S := fun k => k = b) g3 (fun g h => (Option.some.inj h).symm)) (fun i h => .inl h)
  have sz3 : v3.heap.size = b + 7 := by have := hz3; rw [s3]; simp only [nbK] at *; simp at *; omega
  rw [show codeV b 3 = .agg #[.func (.func 73) #[] #[], .func (.func 74) #[] #[.pointer (some ⟨nbK b 3, 0, none⟩)]] from rfl] at r3
  go_wp2_with fail
  clear r3
  refine (once_any (nbK b 4) 53 v3 (by have := sz3; simp only [nbK] at *; simp at *; omega)).mono ?_
  rintro e w4 ⟨rfl, hz4, hc4, x4⟩
  have N4 := M3.block (x4.block b M3.lt)
  have B4 := C3.trans (But.of_ext (S := fun k => k = b) x4) (fun i h => .inl h)
  obtain ⟨v4, r4, M4, g4, s4⟩ := store_sized N4 skeyed Tryz.underlying109 (by decide) (WideMaps.keyOf_string_mk Tryz.underlying9 (s := ⟨#[112, 97, 114, 116, 115]⟩) (by decide)) (kindR_code (b := b) (j := 4) (by decide))
  have C4 := B4.trans (But.of_grown (S := fun k => k = b) g4 (fun g h => (Option.some.inj h).symm)) (fun i h => .inl h)
  have sz4 : v4.heap.size = b + 9 := by have := hz4; rw [s4]; simp only [nbK] at *; simp at *; omega
  rw [show codeV b 4 = .agg #[.func (.func 73) #[] #[], .func (.func 74) #[] #[.pointer (some ⟨nbK b 4, 0, none⟩)]] from rfl] at r4
  go_wp2_with fail
  clear r4
  refine (once_any (nbK b 5) 54 v4 (by have := sz4; simp only [nbK] at *; simp at *; omega)).mono ?_
  rintro e w5 ⟨rfl, hz5, hc5, x5⟩
  have N5 := M4.block (x5.block b M4.lt)
  have B5 := C4.trans (But.of_ext (S := fun k => k = b) x5) (fun i h => .inl h)
  obtain ⟨v5, r5, M5, g5, s5⟩ := store_sized N5 skeyed Tryz.underlying109 (by decide) (WideMaps.keyOf_string_mk Tryz.underlying9 (s := ⟨#[98, 97, 100]⟩) (by decide)) (kindR_code (b := b) (j := 5) (by decide))
  have C5 := B5.trans (But.of_grown (S := fun k => k = b) g5 (fun g h => (Option.some.inj h).symm)) (fun i h => .inl h)
  have sz5 : v5.heap.size = b + 11 := by have := hz5; rw [s5]; simp only [nbK] at *; simp at *; omega
  rw [show codeV b 5 = .agg #[.func (.func 73) #[] #[], .func (.func 74) #[] #[.pointer (some ⟨nbK b 5, 0, none⟩)]] from rfl] at r5
  go_wp2_with fail
  clear r5
  refine (once_any (nbK b 6) 55 v5 (by have := sz5; simp only [nbK] at *; simp at *; omega)).mono ?_
  rintro e w6 ⟨rfl, hz6, hc6, x6⟩
  have N6 := M5.block (x6.block b M5.lt)
  have B6 := C5.trans (But.of_ext (S := fun k => k = b) x6) (fun i h => .inl h)
  obtain ⟨v6, r6, M6, g6, s6⟩ := store_sized N6 skeyed Tryz.underlying109 (by decide) (WideMaps.keyOf_string_mk Tryz.underlying9 (s := ⟨#[101, 120, 116, 114, 97]⟩) (by decide)) (kindR_code (b := b) (j := 6) (by decide))
  have C6 := B6.trans (But.of_grown (S := fun k => k = b) g6 (fun g h => (Option.some.inj h).symm)) (fun i h => .inl h)
  have sz6 : v6.heap.size = b + 13 := by have := hz6; rw [s6]; simp only [nbK] at *; simp at *; omega
  rw [show codeV b 6 = .agg #[.func (.func 73) #[] #[], .func (.func 74) #[] #[.pointer (some ⟨nbK b 6, 0, none⟩)]] from rfl] at r6
  go_wp2_with fail
  clear r6
  refine (once_any (nbK b 7) 56 v6 (by have := sz6; simp only [nbK] at *; simp at *; omega)).mono ?_
  rintro e w7 ⟨rfl, hz7, hc7, x7⟩
  have N7 := M6.block (x7.block b M6.lt)
  have B7 := C6.trans (But.of_ext (S := fun k => k = b) x7) (fun i h => .inl h)
  obtain ⟨v7, r7, M7, g7, s7⟩ := store_sized N7 skeyed Tryz.underlying109 (by decide) (WideMaps.keyOf_string_mk Tryz.underlying9 (s := ⟨#[112, 101, 110, 97, 108, 116, 105, 101, 115]⟩) (by decide)) (kindR_code (b := b) (j := 7) (by decide))
  have C7 := B7.trans (But.of_grown (S := fun k => k = b) g7 (fun g h => (Option.some.inj h).symm)) (fun i h => .inl h)
  have sz7 : v7.heap.size = b + 15 := by have := hz7; rw [s7]; simp only [nbK] at *; simp at *; omega
  rw [show codeV b 7 = .agg #[.func (.func 73) #[] #[], .func (.func 74) #[] #[.pointer (some ⟨nbK b 7, 0, none⟩)]] from rfl] at r7
  go_wp2_with fail
  clear r7
  refine (once_any (nbK b 8) 57 v7 (by have := sz7; simp only [nbK] at *; simp at *; omega)).mono ?_
  rintro e w8 ⟨rfl, hz8, hc8, x8⟩
  have N8 := M7.block (x8.block b M7.lt)
  have B8 := C7.trans (But.of_ext (S := fun k => k = b) x8) (fun i h => .inl h)
  obtain ⟨v8, r8, M8, g8, s8⟩ := store_sized N8 skeyed Tryz.underlying109 (by decide) (WideMaps.keyOf_string_mk Tryz.underlying9 (s := ⟨#[100, 101, 109, 101, 114, 105, 116, 115]⟩) (by decide)) (kindR_code (b := b) (j := 8) (by decide))
  have C8 := B8.trans (But.of_grown (S := fun k => k = b) g8 (fun g h => (Option.some.inj h).symm)) (fun i h => .inl h)
  have sz8 : v8.heap.size = b + 17 := by have := hz8; rw [s8]; simp only [nbK] at *; simp at *; omega
  rw [show codeV b 8 = .agg #[.func (.func 73) #[] #[], .func (.func 74) #[] #[.pointer (some ⟨nbK b 8, 0, none⟩)]] from rfl] at r8
  go_wp2_with fail
  clear r8
  refine (once_any (nbK b 9) 58 v8 (by have := sz8; simp only [nbK] at *; simp at *; omega)).mono ?_
  rintro e w9 ⟨rfl, hz9, hc9, x9⟩
  have N9 := M8.block (x9.block b M8.lt)
  have B9 := C8.trans (But.of_ext (S := fun k => k = b) x9) (fun i h => .inl h)
  obtain ⟨v9, r9, M9, g9, s9⟩ := store_sized N9 skeyed Tryz.underlying109 (by decide) (WideMaps.keyOf_string_mk Tryz.underlying9 (s := ⟨#[108, 111, 111, 115, 101]⟩) (by decide)) (kindR_code (b := b) (j := 9) (by decide))
  have C9 := B9.trans (But.of_grown (S := fun k => k = b) g9 (fun g h => (Option.some.inj h).symm)) (fun i h => .inl h)
  have sz9 : v9.heap.size = b + 19 := by have := hz9; rw [s9]; simp only [nbK] at *; simp at *; omega
  rw [show codeV b 9 = .agg #[.func (.func 73) #[] #[], .func (.func 74) #[] #[.pointer (some ⟨nbK b 9, 0, none⟩)]] from rfl] at r9
  go_wp2_with fail
  clear r9
  clear hmm
  have T9 := But.refl (fun k => k = b) v9
  have K9 := (But.of_grown (S := fun k => k = b) g9 (fun g h => (Option.some.inj h).symm)).trans T9 (fun i h => .inl h)
  have T8 := (But.of_ext (S := fun k => k = b) x9).trans ((But.of_grown (S := fun k => k = b) g9 (fun g h => (Option.some.inj h).symm)).trans T9 (fun i h => .inl h)) (fun i h => .inl h)
  have K8 := (But.of_grown (S := fun k => k = b) g8 (fun g h => (Option.some.inj h).symm)).trans T8 (fun i h => .inl h)
  have T7 := (But.of_ext (S := fun k => k = b) x8).trans ((But.of_grown (S := fun k => k = b) g8 (fun g h => (Option.some.inj h).symm)).trans T8 (fun i h => .inl h)) (fun i h => .inl h)
  have K7 := (But.of_grown (S := fun k => k = b) g7 (fun g h => (Option.some.inj h).symm)).trans T7 (fun i h => .inl h)
  have T6 := (But.of_ext (S := fun k => k = b) x7).trans ((But.of_grown (S := fun k => k = b) g7 (fun g h => (Option.some.inj h).symm)).trans T7 (fun i h => .inl h)) (fun i h => .inl h)
  have K6 := (But.of_grown (S := fun k => k = b) g6 (fun g h => (Option.some.inj h).symm)).trans T6 (fun i h => .inl h)
  have T5 := (But.of_ext (S := fun k => k = b) x6).trans ((But.of_grown (S := fun k => k = b) g6 (fun g h => (Option.some.inj h).symm)).trans T6 (fun i h => .inl h)) (fun i h => .inl h)
  have K5 := (But.of_grown (S := fun k => k = b) g5 (fun g h => (Option.some.inj h).symm)).trans T5 (fun i h => .inl h)
  have T4 := (But.of_ext (S := fun k => k = b) x5).trans ((But.of_grown (S := fun k => k = b) g5 (fun g h => (Option.some.inj h).symm)).trans T5 (fun i h => .inl h)) (fun i h => .inl h)
  have K4 := (But.of_grown (S := fun k => k = b) g4 (fun g h => (Option.some.inj h).symm)).trans T4 (fun i h => .inl h)
  have T3 := (But.of_ext (S := fun k => k = b) x4).trans ((But.of_grown (S := fun k => k = b) g4 (fun g h => (Option.some.inj h).symm)).trans T4 (fun i h => .inl h)) (fun i h => .inl h)
  have K3 := (But.of_grown (S := fun k => k = b) g3 (fun g h => (Option.some.inj h).symm)).trans T3 (fun i h => .inl h)
  have T2 := (But.of_ext (S := fun k => k = b) x3).trans ((But.of_grown (S := fun k => k = b) g3 (fun g h => (Option.some.inj h).symm)).trans T3 (fun i h => .inl h)) (fun i h => .inl h)
  have T1 := (But.of_grown (S := fun k => k = b) g2 (fun g h => (Option.some.inj h).symm)).trans T2 (fun i h => .inl h)
  have K1 := (But.of_grown (S := fun k => k = b) g1 (fun g h => (Option.some.inj h).symm)).trans T1 (fun i h => .inl h)
  have T0 := (But.of_ext (S := fun k => k = b) x1).trans ((But.of_grown (S := fun k => k = b) g1 (fun g h => (Option.some.inj h).symm)).trans T1 (fun i h => .inl h)) (fun i h => .inl h)
  have K0 := (But.of_grown (S := fun k => k = b) g0 (fun g h => (Option.some.inj h).symm)).trans T0 (fun i h => .inl h)
  go_ret
  rw [← HB.out]
  refine ⟨rfl, ⟨M9.congr ?_, ?_⟩, C9.ext_all (fun k h => by rw [h, HB.out]; exact Nat.le_refl _)⟩
  · intro x l hx
    obtain ⟨s, rfl⟩ := key_string hx
    exact kindM_eq s
  · intro j hj h2
    have hj' : j = 0 ∨ j = 1 ∨ j = 3 ∨ j = 4 ∨ j = 5 ∨ j = 6 ∨ j = 7 ∨ j = 8 ∨ j = 9 := by omega
    rcases hj' with rfl | rfl | rfl | rfl | rfl | rfl | rfl | rfl | rfl
    · exact K0.blk hc0 (nbK_ne b 0)
    · exact K1.blk hc1 (nbK_ne b 1)
    · exact K3.blk hc3 (nbK_ne b 3)
    · exact K4.blk hc4 (nbK_ne b 4)
    · exact K5.blk hc5 (nbK_ne b 5)
    · exact K6.blk hc6 (nbK_ne b 6)
    · exact K7.blk hc7 (nbK_ne b 7)
    · exact K8.blk hc8 (nbK_ne b 8)
    · exact K9.blk hc9 (nbK_ne b 9)
end L14
end Go.Proofs.YtmmgmcfhlhghoaaGreatDoor

namespace Go.Proofs.YtmmgmcfhlhghoaaGreatDoor
open Go.RowKit
namespace L14

attribute [local go_sem] Oper.semAt_some

/-- What stays where one's own bytes are put: all but bytes, and block g; maps; and what lies below N. -/
structure Kb (g N : Nat) (w w' : World) : Prop where
  keep : Keep 5 g N w w'
  map : ∀ (b : Nat) es c, w.heap[b]? = some (.map es c) → w'.heap[b]? = some (.map es c)
theorem Kb.refl (g N : Nat) (w : World) : Kb g N w w := ⟨Keep.refl _ _ _ _, fun _ _ _ h => h⟩
theorem Kb.trans {g N : Nat} {a b c : World} (h : Kb g N a b) (k : Kb g N b c) : Kb g N a c := ⟨h.keep.trans k.keep, fun n es cl hm => k.map n es cl (h.map n es cl hm)⟩
theorem Kb.of_ext {g N : Nat} {a b : World} (x : Ext a b) : Kb g N a b := ⟨Keep.of_ext x, fun n _ _ hm => (x.block n (lt_of_block hm)).trans hm⟩
theorem Kb.blk {g N b : Nat} {t : TypeId} {w w' : World} {cs : List Value} (h : Kb g N w w') (hb : Blk w b t cs) (hn : b ≠ g) (ht : t ≠ 5) : Blk w' b t cs := h.keep.blk hb hn ht
theorem Kb.kinds {g N b : Nat} {w w' : World} (h : Kb g N w w') (hk : KindsAt w b) (hg : g < b) : KindsAt w' b := by
  refine ⟨?_, fun j hj h2 => h.blk (hk.fn j hj h2) (by unfold nbK; omega) (by decide)⟩
  obtain ⟨D, ⟨es, c, hb, r⟩, q⟩ := hk.map
  exact ⟨D, ⟨es, c, h.map b es c hb, r⟩, q⟩

theorem yield_any {m m' l : Nat} {P : Program} {args : Array Value} {W : World} {R : Ending → World → Prop} (h : YieldAt Fence.wide m P l args W R) : YieldAt Fence.wide m' P l args W R := by
  obtain ⟨fn, tmps, assign, body, hy, hR⟩ := h
  exact ⟨fn, tmps, assign, body, hy, hR.1, fun c cs _ => hR.2 c cs (room_wide _)⟩
theorem own_ext {β : Type} {B : Nat} {I : β → World → Prop} (h : OwnFrom B I) {s : β} {W W' : World} (hs : I s W) (x : Ext W W') : I s W' := h s W W' none hs ⟨x.os, x.tape, x.output, x.size, fun k hk _ => x.block k hk⟩ (fun r e => by cases e)
theorem keeps_ext {B : Nat} {W W' : World} (x : Ext W W') : KeepsFrom B W W' := ⟨x.size, fun k _ _ hk _ => (x.block k (Array.getElem?_eq_some_iff.1 hk).1).trans hk⟩

/-- A line that is handed over: its kind, its place, and where its numbers lie. -/
abbrev NB := Nat × Nat × Nat
def encN (x : NB) : Array Value := #[.string (nameB x.1), .slice (some ⟨x.2.2, 0, none⟩) (cntK x.1) (cntK x.1)]
def keyN (x : NB) : Nat × Nat := (x.1, x.2.1)
/-- What is known of it where it is handed over. -/
def VN (B : Nat) (S : Addr) (W0 : Int) (x : NB) (W : World) : Prop := Blk W x.2.2 102 (numC B S W0 x.1 x.2.1)
/-- The lines of one kind; from a kind on. -/
def ofK (n j : Nat) : List (Nat × Nat) := if j = 2 then (List.range n).map (fun t => (2, t)) else [(j, 0)]
def fromK (n j : Nat) : List (Nat × Nat) := ((List.range 10).drop j).flatMap (ofK n)
theorem seqN_from (n : Nat) : seqN n = fromK n 0 := by simp [seqN, fromK, ofK, List.range_succ]
theorem fromK_step {n j : Nat} (hj : j < 10) : fromK n j = ofK n j ++ fromK n (j + 1) := by
  unfold fromK
  rw [List.drop_eq_getElem_cons (by simpa using hj)]
  simp
theorem fromK_end (n : Nat) : fromK n 10 = [] := rfl
theorem ofK_two (n : Nat) : ofK n 2 = (List.range n).map (fun t => (2, t)) := rfl
theorem drop_two {n t : Nat} (h : t < n) : (ofK n 2).drop t = (2, t) :: (ofK n 2).drop (t + 1) := by
  rw [ofK_two, List.drop_eq_getElem_cons (by simpa using h)]
  simp
theorem ofK_one {n j : Nat} (h : j ≠ 2) : ofK n j = [(j, 0)] := if_neg h

theorem lines_any (B : Nat) (w : World) : Calls Tryz.prog 28 #[.pointer (some ⟨B, 0, none⟩)] w (fun e w' =>
    e = .returned (.func (.func 36) #[] #[.pointer (some ⟨w.heap.size, 0, none⟩)]) ∧ w' = w.alloc (.cells #[.pointer (some ⟨B, 0, none⟩)] 98)) := by
  go_enter Tryz.func28, Tryz.ntmps28
  go_wp2_with fail
  go_ret
  exact ⟨rfl, rfl⟩

set_option maxRecDepth 100000 in
theorem index_names (j : Nat) (hj : j < 10) (W : World) : (Instr.index 111 (.agg #[.string (nameB 0), .string (nameB 1), .string (nameB 2), .string (nameB 3), .string (nameB 4), .string (nameB 5), .string (nameB 6), .string (nameB 7), .string (nameB 8), .string (nameB 9)]) (.int .i64 (j : Int))).run Tryz.prog W = .ok (.string (nameB j)) W := by
  have hj' : j = 0 ∨ j = 1 ∨ j = 2 ∨ j = 3 ∨ j = 4 ∨ j = 5 ∨ j = 6 ∨ j = 7 ∨ j = 8 ∨ j = 9 := by omega
  rcases hj' with rfl | rfl | rfl | rfl | rfl | rfl | rfl | rfl | rfl | rfl <;> rfl

set_option maxRecDepth 100000 in
set_option maxHeartbeats 8000000 in
theorem lines_in (n l0 tb B g N D : Nat) (_ : 3 ≤ n) (L : LayD) (A : Option Addr) (S : Addr) (c : Nat) (hS : A = some S ∨ L.n = 0) (h40 : L.n ≤ 1000000)
    (W : World) (J Jx : List NB → World → Prop) (hH : Home W) (kt : Blk W tb 98 [.pointer (some ⟨B, 0, none⟩)]) (kB : Blk W B 40 (layC L A c)) (hg : g < W.heap.size) (htg : tb ≠ g) (hBg : B ≠ g) (_ : D ≤ W.heap.size)
    (hJ : OwnFrom W.heap.size J)
    (hY : ∀ pre x W1, J pre W1 → VN B S (L.v 0) x W1 → keyN x ∈ seqN L.n → pre.length < (seqN L.n).length → YieldAt Fence.wide (n - 1) Tryz.prog l0 (encN x) W1 fun e W' => (e = .returned (.bool true) ∧ J (pre ++ [x]) W' ∧ Kb g N W1 W' ∧ KeepsFrom D W1 W') ∨ (e = .returned (.bool false) ∧ Jx (pre ++ [x]) W' ∧ KeepsFrom D W1 W'))
    (h0 : J [] W) :
    CallsIn Fence.wide n Tryz.prog 36 #[.func (.yield l0) #[] #[], .pointer (some ⟨tb, 0, none⟩)] W fun e W' => (∃ v, e = .returned v) ∧
      ((∃ xs, xs.map keyN = seqN L.n ∧ J xs W') ∨ (∃ pre, pre.map keyN <+: seqN L.n ∧ Jx pre W')) := by
  have hq := seqN_from L.n
  generalize hsq : seqN L.n = sq at *
  have HQ := Lib.hid hq
  have HJ := Lib.hid h0
  have HH := Lib.hid hH
  clear hq hsq h0
  refine callsIn_of_wp Tryz.func36 rfl trivial ?_ rfl
  simp only [Tryz.ntmps36, List.size_toArray, List.length_cons, List.length_nil, Nat.reduceAdd, Nat.reduceSub, Array.replicate_succ, Array.replicate_zero, List.push_toArray, List.append_toArray, List.nil_append, List.cons_append]
  gi_wp2
  refine ⟨trivial, fun h => by simp [Fence.wide] at h, (callsIn_wide.2 (kinds_any W)).mono ?_⟩
  rintro e w1 ⟨rfl, KA, x1⟩
  have u0 : w1.cell? ⟨0, 0, none⟩ = some (.string (nameB 0)) := (HH.out.ext x1).names 0 (by decide)
  have u1 : w1.cell? ⟨0, 1, none⟩ = some (.string (nameB 1)) := (HH.out.ext x1).names 1 (by decide)
  have u2 : w1.cell? ⟨0, 2, none⟩ = some (.string (nameB 2)) := (HH.out.ext x1).names 2 (by decide)
  have u3 : w1.cell? ⟨0, 3, none⟩ = some (.string (nameB 3)) := (HH.out.ext x1).names 3 (by decide)
  have u4 : w1.cell? ⟨0, 4, none⟩ = some (.string (nameB 4)) := (HH.out.ext x1).names 4 (by decide)
  have u5 : w1.cell? ⟨0, 5, none⟩ = some (.string (nameB 5)) := (HH.out.ext x1).names 5 (by decide)
  have u6 : w1.cell? ⟨0, 6, none⟩ = some (.string (nameB 6)) := (HH.out.ext x1).names 6 (by decide)
  have u7 : w1.cell? ⟨0, 7, none⟩ = some (.string (nameB 7)) := (HH.out.ext x1).names 7 (by decide)
  have u8 : w1.cell? ⟨0, 8, none⟩ = some (.string (nameB 8)) := (HH.out.ext x1).names 8 (by decide)
  have u9 : w1.cell? ⟨0, 9, none⟩ = some (.string (nameB 9)) := (HH.out.ext x1).names 9 (by decide)
  have J1 := Lib.hid (own_ext hJ HJ.out x1)
  have kt := kt.ext x1
  have kB := kB.ext x1
  have kb : g < W.heap.size := hg
  have hsz : W.heap.size < w1.heap.size := KA.map.lt
  obtain ⟨ns, hns⟩ : ∃ ns : Array Value, ns = #[.string (nameB 0), .string (nameB 1), .string (nameB 2), .string (nameB 3), .string (nameB 4), .string (nameB 5), .string (nameB 6), .string (nameB 7), .string (nameB 8), .string (nameB 9)] := ⟨_, rfl⟩
  have hat := fun j hj W => index_names j hj W
  rw [← hns] at hat
  clear HJ hH x1
  gi_wp2
  rw [← hns]
  clear u0 u1 u2 u3 u4 u5 u6 u7 u8 u9 hns
  gi_loopw [10] (fun i wr => ∃ (pre : List NB) (j : Nat), j ≤ 10 ∧ i = .int .i64 j ∧ Hid (sq = pre.map keyN ++ fromK L.n j) ∧ Hid (J pre wr) ∧ KindsAt wr W.heap.size ∧ Blk wr tb 98 [.pointer (some ⟨B, 0, none⟩)] ∧ Blk wr B 40 (layC L A c) ∧ W.heap.size ≤ wr.heap.size) (fun i _ => 11 - (intOf i).toNat)
  case atStart => exact ⟨[], 0, by omega, rfl, HQ, J1, KA, kt, kB, by omega⟩
  case round =>
    obtain ⟨pre, j, hj, rfl, hp, hJp, KA, kt, kB, hsz⟩ := hrel
    by_cases hlt : j < 10
    -- ROUND
    · obtain ⟨wo, rfl⟩ : ∃ wo : World, wo = wr := ⟨_, rfl⟩
      have hj64 : (j : Int) < 10 := by omega
      have IX := hat j hlt wo
      by_cases h2 : j = 2
      ·
        have LK := KA.look1 j hlt
        rw [kindV, if_pos h2] at LK
        have H2 := Lib.hid h2
        clear h2
        obtain ⟨W2, hW2⟩ : ∃ W2, W2 = wo.alloc (.cells #[.func (.func 50) #[] #[], .func (.func 51) #[] #[]] 115) := ⟨_, rfl⟩
        have x2 : Ext wo W2 := by rw [hW2]; exact (Ext.refl _).alloc _
        have k6 : Blk W2 wo.heap.size 115 [.func (.func 50) #[] #[], .func (.func 51) #[] #[]] := by rw [hW2]; exact Blk.lit _ _ _ _ rfl
        have q1 : wo.cell? ⟨tb, 0, none⟩ = some (.pointer (some ⟨B, 0, none⟩)) := kt.cell 0
        have htb : tb < wo.heap.size := kt.lt
        have J2 := Lib.hid (own_ext hJ hJp.out x2)
        have KA2 := KA.ext x2
        have kt2 := kt.ext x2
        have kB2 := kB.ext x2
        have hsz2 : wo.heap.size < W2.heap.size := k6.lt
        clear x2 hJp KA kt kB
        gi_wp2
        rw [← hW2]
        clear hW2
        refine ⟨trivial, fun h => by simp [Fence.wide] at h, (callsIn_wide.2 (k3_any B A L.n c W2 (kB2.cell 4))).mono ?_⟩
        rintro e w3 ⟨rfl, rfl⟩
        clear q1
        gi_wp2
        gi_loopw [20] (fun i wr => ∃ (pre2 : List NB) (t : Nat), t ≤ L.n ∧ i = .int .i64 t ∧ Hid (sq = pre2.map keyN ++ ((ofK L.n j).drop t ++ fromK L.n (j + 1))) ∧ Hid (J pre2 wr) ∧ KindsAt wr W.heap.size ∧ Blk wr tb 98 [.pointer (some ⟨B, 0, none⟩)] ∧ Blk wr B 40 (layC L A c) ∧ Blk wr wo.heap.size 115 [.func (.func 50) #[] #[], .func (.func 51) #[] #[]] ∧ wo.heap.size < wr.heap.size) (fun i _ => 1000001 - (intOf i).toNat)
        case atStart => exact ⟨pre, 0, by omega, rfl, Lib.hid (by rw [hp.out, fromK_step hlt]; rfl), J2, KA2, kt2, kB2, k6, hsz2⟩
        case round =>
          clear KA2 kt2 kB2 k6 J2 hsz2 LK hp
          obtain ⟨pre2, t, ht, rfl, hp2, hJ2, KA2, kt2, kB2, k6, hsz2⟩ := hrel
          by_cases htl : t < L.n
          · have ht64 : (t : Int) < (L.n : Int) := by omega
            have q0 : wr.cell? ⟨wo.heap.size, 1, none⟩ = some (.func (.func 51) #[] #[]) := k6.cell 1
            have q1 : wr.cell? ⟨tb, 0, none⟩ = some (.pointer (some ⟨B, 0, none⟩)) := kt2.cell 0
            gi_wp2
            have hA : A = some S := by rcases hS with h | h; exact h; omega
            have c4 : wr.cell? ⟨B, 4, none⟩ = some (.slice (some S) L.n c) := by rw [← hA]; exact kB2.cell 4
            refine ⟨trivial, fun h => by simp [Fence.wide] at h, (callsIn_wide.2 (k4_all B S (L.v 0) L.n c t wr c4 htl)).mono ?_⟩
            clear c4
            rintro e w4 ⟨kk, rfl, hk1, hkb, x4⟩
            have J4 := own_ext hJ hJ2.out x4
            have KA4 := Lib.hid (KA2.ext x4)
            have kt4 := Lib.hid (kt2.ext x4)
            have kB4 := Lib.hid (kB2.ext x4)
            have k64 := Lib.hid (k6.ext x4)
            have hsz4 : wr.heap.size ≤ w4.heap.size := x4.size
            have HP := hp2.out
            have e1 : (ofK L.n j).drop t = (j, t) :: (ofK L.n j).drop (t + 1) := by rw [H2.out]; exact drop_two htl
            rw [e1] at HP
            have hpl : pre2.length < sq.length := by rw [HP]; simp
            have HP2 := Lib.hid (show sq = (pre2 ++ [(j, t, kk)]).map keyN ++ ((ofK L.n j).drop (t + 1) ++ fromK L.n (j + 1)) by rw [HP]; simp [keyN])
            obtain ⟨fn, tmps, assign, body, hy, hR⟩ := hY pre2 (j, t, kk) w4 J4 (by rw [H2.out]; exact hkb) (by rw [HP]; simp [keyN]) hpl
            simp only [encN] at hy
            rw [show cntK j = cntK 2 by rw [H2.out]] at hy
            clear HP e1 hpl hk1 hkb J4 hJ2 KA2 kt2 kB2 k6 q0 q1 x4 hp2
            gi_wp2
            refine ⟨fun h => by simp [Fence.wide] at h, hR.mono ?_⟩
            rintro e W3 (⟨rfl, hJ3, hk3, _⟩ | ⟨rfl, hJx3, _⟩)
            · have HJ3 := Lib.hid hJ3
              have KA5 := Lib.hid (hk3.kinds KA4.out hg)
              have kt5 := Lib.hid (hk3.blk kt4.out htg (by decide))
              have kB5 := Lib.hid (hk3.blk kB4.out hBg (by decide))
              have k65 := Lib.hid (hk3.blk k64.out (by omega) (by decide))
              have hsz5 : w4.heap.size ≤ W3.heap.size := hk3.keep.size
              clear hJ3 hk3 KA4 kt4 kB4 k64 hR hy
              gi_wp2
              go_roundw
              case rel => exact ⟨_, t + 1, by omega, by go_num, HP2, HJ3, KA5.out, kt5.out, kB5.out, k65.out, by omega⟩
              case measure => simp [intOf]; omega
            · clear KA4 kt4 kB4 k64 hR hy
              gi_wp2
              refine bodyPost_ret (results_none rfl _ _ _) rfl ?_
              exact ⟨⟨_, rfl⟩, .inr ⟨_, ⟨_, HP2.out.symm⟩, hJx3⟩⟩
          · have ht64 : ¬ (t : Int) < (L.n : Int) := by omega
            have hp3 := Lib.hid (show sq = pre2.map keyN ++ fromK L.n (j + 1) by
              rw [hp2.out, List.drop_eq_nil_of_le (by rw [H2.out, ofK_two]; simp; omega)]; rfl)
            clear hp2
            gi_wp2
            go_roundw
            case rel => exact ⟨pre2, j + 1, by omega, by go_num, hp3, hJ2, KA2, kt2, kB2, by omega⟩
            case measure => simp [intOf]; omega
      ·
        have LK := KA.look1 j hlt
        rw [kindV, if_neg h2] at LK
        skip
        skip
        obtain ⟨W2, hW2⟩ : ∃ W2, W2 = wo.alloc (.cells #[.func (.func 73) #[] #[], .func (.func 74) #[] #[.pointer (some ⟨nbK W.heap.size j, 0, none⟩)]] 115) := ⟨_, rfl⟩
        have x2 : Ext wo W2 := by rw [hW2]; exact (Ext.refl _).alloc _
        have k6 : Blk W2 wo.heap.size 115 [.func (.func 73) #[] #[], .func (.func 74) #[] #[.pointer (some ⟨nbK W.heap.size j, 0, none⟩)]] := by rw [hW2]; exact Blk.lit _ _ _ _ rfl
        have q1 : wo.cell? ⟨tb, 0, none⟩ = some (.pointer (some ⟨B, 0, none⟩)) := kt.cell 0
        have htb : tb < wo.heap.size := kt.lt
        have J2 := Lib.hid (own_ext hJ hJp.out x2)
        have KA2 := KA.ext x2
        have kt2 := kt.ext x2
        have kB2 := kB.ext x2
        have hsz2 : wo.heap.size < W2.heap.size := k6.lt
        clear x2 hJp KA kt kB
        gi_wp2
        rw [← hW2]
        clear hW2
        refine ⟨trivial, fun h => by simp [Fence.wide] at h, (callsIn_wide.2 (one_any _ W2)).mono ?_⟩
        rintro e w3 ⟨rfl, rfl⟩
        clear q1
        gi_wp2
        gi_loopw [20] (fun i wr => ∃ (pre2 : List NB) (t : Nat), t ≤ 1 ∧ i = .int .i64 t ∧ Hid (sq = pre2.map keyN ++ ((ofK L.n j).drop t ++ fromK L.n (j + 1))) ∧ Hid (J pre2 wr) ∧ KindsAt wr W.heap.size ∧ Blk wr tb 98 [.pointer (some ⟨B, 0, none⟩)] ∧ Blk wr B 40 (layC L A c) ∧ Blk wr wo.heap.size 115 [.func (.func 73) #[] #[], .func (.func 74) #[] #[.pointer (some ⟨nbK W.heap.size j, 0, none⟩)]] ∧ wo.heap.size < wr.heap.size) (fun i _ => 1000001 - (intOf i).toNat)
        case atStart => exact ⟨pre, 0, by omega, rfl, Lib.hid (by rw [hp.out, fromK_step hlt]; rfl), J2, KA2, kt2, kB2, k6, hsz2⟩
        case round =>
          clear KA2 kt2 kB2 k6 J2 hsz2 LK hp
          obtain ⟨pre2, t, ht, rfl, hp2, hJ2, KA2, kt2, kB2, k6, hsz2⟩ := hrel
          by_cases htl : t < 1
          · have ht64 : (t : Int) < 1 := by omega
            have q0 : wr.cell? ⟨wo.heap.size, 1, none⟩ = some (.func (.func 74) #[] #[.pointer (some ⟨nbK W.heap.size j, 0, none⟩)]) := k6.cell 1
            have q1 : wr.cell? ⟨tb, 0, none⟩ = some (.pointer (some ⟨B, 0, none⟩)) := kt2.cell 0
            gi_wp2
            refine ⟨trivial, fun h => by simp [Fence.wide] at h, (callsIn_wide.2 (two_any j B (nbK W.heap.size j) t S (L.v 0) wr hlt h2 (kB2.cell 0) ((KA2.fn j hlt h2).cell 0))).mono ?_⟩
            rintro e w4 ⟨kk, rfl, hk1, hkb, x4⟩
            have J4 := own_ext hJ hJ2.out x4
            have KA4 := Lib.hid (KA2.ext x4)
            have kt4 := Lib.hid (kt2.ext x4)
            have kB4 := Lib.hid (kB2.ext x4)
            have k64 := Lib.hid (k6.ext x4)
            have hsz4 : wr.heap.size ≤ w4.heap.size := x4.size
            have HP := hp2.out
            have e1 : (ofK L.n j).drop t = (j, t) :: (ofK L.n j).drop (t + 1) := by rw [ofK_one h2, show t = 0 by omega]; rfl
            rw [e1] at HP
            have hpl : pre2.length < sq.length := by rw [HP]; simp
            have HP2 := Lib.hid (show sq = (pre2 ++ [(j, t, kk)]).map keyN ++ ((ofK L.n j).drop (t + 1) ++ fromK L.n (j + 1)) by rw [HP]; simp [keyN])
            obtain ⟨fn, tmps, assign, body, hy, hR⟩ := hY pre2 (j, t, kk) w4 J4 (hkb) (by rw [HP]; simp [keyN]) hpl
            simp only [encN] at hy
            skip
            clear HP e1 hpl hk1 hkb J4 hJ2 KA2 kt2 kB2 k6 q0 q1 x4 hp2
            gi_wp2
            refine ⟨fun h => by simp [Fence.wide] at h, hR.mono ?_⟩
            rintro e W3 (⟨rfl, hJ3, hk3, _⟩ | ⟨rfl, hJx3, _⟩)
            · have HJ3 := Lib.hid hJ3
              have KA5 := Lib.hid (hk3.kinds KA4.out hg)
              have kt5 := Lib.hid (hk3.blk kt4.out htg (by decide))
              have kB5 := Lib.hid (hk3.blk kB4.out hBg (by decide))
              have k65 := Lib.hid (hk3.blk k64.out (by omega) (by decide))
              have hsz5 : w4.heap.size ≤ W3.heap.size := hk3.keep.size
              clear hJ3 hk3 KA4 kt4 kB4 k64 hR hy
              gi_wp2
              go_roundw
              case rel => exact ⟨_, t + 1, by omega, by go_num, HP2, HJ3, KA5.out, kt5.out, kB5.out, k65.out, by omega⟩
              case measure => simp [intOf]; omega
            · clear KA4 kt4 kB4 k64 hR hy
              gi_wp2
              refine bodyPost_ret (results_none rfl _ _ _) rfl ?_
              exact ⟨⟨_, rfl⟩, .inr ⟨_, ⟨_, HP2.out.symm⟩, hJx3⟩⟩
          · have ht64 : ¬ (t : Int) < 1 := by omega
            have hp3 := Lib.hid (show sq = pre2.map keyN ++ fromK L.n (j + 1) by
              rw [hp2.out, List.drop_eq_nil_of_le (by rw [ofK_one h2]; simp; omega)]; rfl)
            clear hp2
            gi_wp2
            go_roundw
            case rel => exact ⟨pre2, j + 1, by omega, by go_num, hp3, hJ2, KA2, kt2, kB2, by omega⟩
            case measure => simp [intOf]; omega
    · have hj64 : ¬ (j : Int) < 10 := by omega
      obtain rfl : j = 10 := by omega
      have hp3 := Lib.hid (show sq = pre.map keyN by rw [hp.out, fromK_end, List.append_nil])
      clear hp
      gi_wp2
      go_end0
      exact ⟨⟨_, rfl⟩, .inl ⟨_, hp3.out.symm, hJp.out⟩⟩
end L14
end Go.Proofs.YtmmgmcfhlhghoaaGreatDoor

namespace Go.Proofs.YtmmgmcfhlhghoaaGreatDoor
open Go.RowKit

/-- The two blocks of a loop: the one for deferred calls, at D, and behind it the record. -/
structure Booked (D : Nat) (r : Loop) (W : World) : Prop where
  loop : W.heap[D + 1]? = some (.loop r)
  calls : W.heap[D]? = some (.deferred (some []))
theorem Booked.lt {D : Nat} {r : Loop} {W : World} (h : Booked D r W) : D + 1 < W.heap.size := (Array.getElem?_eq_some_iff.1 h.loop).1
theorem Booked.grown {D : Nat} {r : Loop} {W W' : World} {row : Option Nat} (h : Booked D r W) (g : W.grownBy W' row) (hr : ∀ k, row = some k → D + 2 ≤ k) : Booked D r W' :=
  ⟨(g.block _ h.lt fun e => by have := hr _ e.symm; omega).trans h.loop, (g.block _ (by have := h.lt; omega) fun e => by have := hr _ e.symm; omega).trans h.calls⟩
theorem Booked.kept {D : Nat} {r : Loop} {W W' : World} (h : Booked D r W) (k : KeepsFrom D W W') : Booked D r W' := ⟨k.same _ _ (by omega) h.loop rfl, k.same _ _ (Nat.le_refl _) h.calls rfl⟩
theorem Booked.turn {D : Nat} {r : Loop} {W : World} (h : Booked D r W) (r' : Loop) : Booked D r' (W.putObj (D + 1) (.loop r')) := ⟨World.putObj_heap_same h.lt, (World.putObj_heap_other (by omega)).trans h.calls⟩

theorem range_over {α : Type} {F : Fence} {n : Nat} {P : Program} {g : Operand} {ps : Array Tmp} {assign body : Code} {Q : Exit → Act → World → Prop} {a : Act} {w : World} (hro : F.round = none) (h1 : 1 ≤ n)
    {gf : Nat} {lb : Array Value} (hg : a.eval g = .func (.func gf) #[] lb) (hF : F.fn gf) (eg : ∀ args w, (callFunc gf args).run P w = .ok (.enter gf args) w)
    {encs : α → Array Value} (hps : ∀ x, (encs x).size = ps.size) {V : α → World → Prop} {Kp : World → World → Prop} {S Sp : List α → Prop} {N : Nat}
    (I : List α → World → Prop) (Ix : Code → List α → World → Prop) (Ax : α → Act → World → Prop)
    (hI : OwnFrom w.heap.size I) (hIx : ∀ c, OwnFrom w.heap.size (Ix c)) (hAx : ∀ x a', OwnFrom w.heap.size fun (_ : Unit) W => Ax x a' W)
    (hKt : ∀ {A B C : World}, Kp A B → Kp B C → Kp A C) (hKb : ∀ (W : World) (r r' : Loop), W.heap[w.heap.size + 1]? = some (.loop r) → Kp W (W.putObj (w.heap.size + 1) (.loop r')))
    (h0 : I [] w)
    (hcall : ∀ (W : World) (J Jx : List α → World → Prop), Ext w W → W.heap.size = w.heap.size + 2 → OwnFrom W.heap.size J → OwnFrom W.heap.size Jx →
      (∀ pre x W1, J pre W1 → V x W1 → pre.length < N → YieldAt F (n - 1 - 1) P (w.heap.size + 1) (encs x) W1 fun e W' => (e = .returned (.bool true) ∧ J (pre ++ [x]) W' ∧ Kp W1 W' ∧ KeepsFrom (w.heap.size + 2) W1 W') ∨ (e = .returned (.bool false) ∧ Jx (pre ++ [x]) W' ∧ KeepsFrom (w.heap.size + 2) W1 W')) →
      J [] W → CallsIn F (n - 1) P gf (#[.func (.yield (w.heap.size + 1)) #[] #[]] ++ lb) W fun e W' => (∃ v, e = .returned v) ∧ ((∃ xs, S xs ∧ J xs W') ∨ ∃ pre, Sp pre ∧ Jx pre W'))
    (hassign : ∀ (pre : List α) (x : α) (W : World) (K : Act → World → Prop), I pre W → V x W → (∀ a' W', KeepsFrom w.heap.size W W' → Kp W W' → I pre W' → Ax x a' W' → K a' W') →
      assign.wpIn (F.inRound (w.heap.size + 1)) (n - 1 - 1) P (Exit.then K (fun _ _ _ => False)) { tmps := (ps.zip (encs x)).foldl (fun t (p, v) => t.setIfInBounds p v) a.tmps, defers := [] } W)
    (hbody : ∀ (pre : List α) (x : α) (a' : Act) (W : World), I pre W → Ax x a' W → pre.length < N → body.wpIn (F.inRound (w.heap.size + 1)) (n - 1 - 1) P (ownPostG w.heap.size Kp I Ix (pre ++ [x]) W) a' W)
    (hdone : ∀ (xs : List α) (W : World), S xs → I xs W → W.heap[w.heap.size]? = some (.deferred (some [])) → Q .normal { a with defers := { target := .collected w.heap.size, args := #[] } :: a.defers } W)
    (hstop : ∀ (c : Code) (pre : List α) (W : World), Sp pre → Ix c pre W → W.heap[w.heap.size]? = some (.deferred (some [])) → c.wpIn F n P Q { a with defers := { target := .collected w.heap.size, args := #[] } :: a.defers } W) :
    (Code.rangeFunc g ps assign body).wpIn F n P Q a w := by
  refine wpIn_rangeFunc fun fn hfn => ?_
  rw [hro]
  obtain ⟨mk, hmk⟩ : ∃ mk : LoopState → Option Code → Loop, ∀ s j, mk s j = { state := s, pending := j, fn, tmps := a.tmps, params := ps, assign, body, defers := w.heap.size } := ⟨_, fun _ _ => rfl⟩
  obtain ⟨W1, hW1⟩ : ∃ W1, W1 = (w.alloc (.deferred (some []))).alloc (.loop (mk .ready none)) := ⟨_, rfl⟩
  have hs1 : W1.heap.size = w.heap.size + 2 := by rw [hW1]; simp
  have x1 : Ext w W1 := by rw [hW1]; exact ((Ext.refl w).alloc _).alloc _
  have b1 : Booked w.heap.size (mk .ready none) W1 := by
    rw [hW1]
    refine ⟨?_, ?_⟩
    · have := World.alloc_heap_new (w.alloc (.deferred (some []))) (.loop (mk .ready none))
      rwa [World.size_alloc] at this
    · exact (Below.heap_alloc _ _ _ (by simp)).trans (World.alloc_heap_new w _)
  have i1 : I [] W1 := by rw [hW1]; exact hI.alloc _ (hI.alloc _ h0)
  -- what stays where blocks of later loops turn
  have own : ∀ (T : List α → World → Prop) (R : List α → World → Prop), OwnFrom w.heap.size T → (∀ s A B row, R s A → A.grownBy B row → (∀ r, row = some r → w.heap.size + 2 ≤ r) → R s B) → OwnFrom W1.heap.size fun s W => T s W ∧ R s W := fun T R hT hR s A B row h g hr =>
    ⟨hT s A B row h.1 g fun r e => ⟨by have := (hr r e).1; omega, (hr r e).2⟩, hR s A B row h.2 g fun r e => by have := (hr r e).1; omega⟩
  refine ⟨w.heap.size + 1, [{ target := .collected w.heap.size, args := #[] }], W1, { target := .fn (.func gf) lb, args := #[.func (.yield (w.heap.size + 1)) #[] #[]] }, W1, gf, #[.func (.yield (w.heap.size + 1)) #[] #[]] ++ lb, W1, ?_, ?_, fun f' hf' => ?_, ?_, fun _ => h1, ?_⟩
  · rw [hW1, hmk]; exact run_enterLoop_outer _ _ _ _ _
  · simp only [resolve, hg]; simp [go_sem]
  · simp only [Target.leads, Option.some.injEq] at hf'; subst hf'; exact hF
  · simp [invoke, go_sem, eg]
  refine (hcall W1 (fun s W => I s W ∧ Booked w.heap.size (mk .ready none) W) (fun s W => True ∧ ∃ c, Ix c s W ∧ Booked w.heap.size (mk .done (some c)) W) x1 hs1
    (own _ (fun _ W => Booked w.heap.size (mk .ready none) W) hI fun _ _ _ _ h g hr => h.grown g hr)
    (fun s A B row h g hr => by
      obtain ⟨_, c, hc, hb⟩ := h
      exact ⟨trivial, c, hIx c s A B row hc g (fun r e => ⟨by have := (hr r e).1; omega, (hr r e).2⟩), hb.grown g fun r e => by have := (hr r e).1; omega⟩) ?_ ⟨i1, b1⟩).mono ?_
  · -- a round
    rintro pre x W ⟨hi, hb⟩ hv hlen
    have hy := run_yield (P := P) (args := encs x) hb.loop (by rw [hmk]; exact hps x)
    rw [hmk] at hy
    refine ⟨fn, _, assign, body, hy, roundIn_of_wpIn hfn (hassign pre x W _ hi hv fun a' Wa ka kp ia ax => ?_)⟩
    have hb := hb.kept ka
    have hb2 := hb.turn { mk .ready none with state := .busy }
    refine ⟨_, run_beginRound hb.loop (by rw [hmk]), wpIn_mono (hbody pre x a' _ (hI.putObj _ ia (by omega) hb.loop rfl) ((hAx x a').putObj (s := ()) _ ax (by omega) hb.loop rfl) hlen) ?_⟩
    have k2 : Kp W (Wa.putObj (w.heap.size + 1) (.loop { mk .ready none with state := .busy })) := hKt kp (hKb _ _ _ hb.loop)
    have mono : ∀ X Y, KeepsFrom w.heap.size X Y → KeepsFrom (w.heap.size + 2) X Y := fun X Y h => ⟨h.size, fun k o hk => h.same k o (by omega)⟩
    have rec_ : ∀ (X : World) (o : Obj), KeepsFrom (w.heap.size + 2) X (X.putObj (w.heap.size + 1) o) := fun X o => ⟨by simp, fun k o' hk ho _ => (World.putObj_heap_other (by omega)).trans ho⟩
    -- how a round ends
    have fin : ∀ (j : Option Code) (W3 : World), KeepsFrom w.heap.size (Wa.putObj (w.heap.size + 1) (.loop { mk .ready none with state := .busy })) W3 →
        ∃ W4, (Instr.endRound (w.heap.size + 1) j).run P W3 = .ok (.bool j.isNone) W4 ∧ Booked w.heap.size (mk (if j.isNone then .ready else .done) j) W4 ∧ Kp W3 W4 ∧ KeepsFrom (w.heap.size + 2) W W4 ∧
          ∀ (T : List α → World → Prop) s, OwnFrom w.heap.size T → T s W3 → T s W4 := fun j W3 k3 => by
      have hb3 := hb2.kept k3
      refine ⟨_, run_endRound (P := P) j hb3.loop, ?_, hKb _ _ _ hb3.loop, ((((mono _ _ ka).trans (rec_ _ _)).trans (mono _ _ k3)).trans (rec_ _ _)), fun T s hT ht => hT.putObj _ ht (by omega) hb3.loop rfl⟩
      have := hb3.turn (mk (if j.isNone then .ready else .done) j)
      rw [hmk] at this ⊢
      rw [hmk]
      exact this
    rintro e a3 W3 hp
    cases e with
    | normal =>
      obtain ⟨k3, kp3, i3⟩ := hp
      obtain ⟨W4, hr, b4, k4, kf, tr⟩ := fin none W3 k3
      exact ⟨_, W4, hr, .inl ⟨rfl, ⟨tr _ _ hI i3, b4⟩, hKt (hKt k2 kp3) k4, kf⟩⟩
    | ret =>
      obtain ⟨W4, hr, b4, _, kf, tr⟩ := fin (some .ret) W3 hp.1
      exact ⟨_, W4, hr, .inr ⟨rfl, ⟨trivial, .ret, tr _ _ (hIx _) hp.2, b4⟩, kf⟩⟩
    | exit id =>
      obtain ⟨W4, hr, b4, _, kf, tr⟩ := fin (some (.exit id)) W3 hp.1
      exact ⟨_, W4, hr, .inr ⟨rfl, ⟨trivial, .exit id, tr _ _ (hIx _) hp.2, b4⟩, kf⟩⟩
    | goto t =>
      obtain ⟨W4, hr, b4, _, kf, tr⟩ := fin (some (.goto t)) W3 hp.1
      exact ⟨_, W4, hr, .inr ⟨rfl, ⟨trivial, .goto t, tr _ _ (hIx _) hp.2, b4⟩, kf⟩⟩
    | panic ch => exact hp.elim
    | outgrown => exact hp.elim
  · -- behind the rounds
    rintro e W2 ⟨⟨v, rfl⟩, (⟨xs, hS, hi, hb⟩ | ⟨pre, hSp, _, c, hi, hb⟩)⟩
    · have hr := run_endLoop (P := P) hb.loop (by rw [hmk]; simp)
      rw [hmk] at hr
      exact ⟨none, _, hr, hdone xs _ hS (hI.putObj _ hi (by omega) hb.loop rfl) ((World.putObj_heap_other (by omega)).trans hb.calls)⟩
    · have hr := run_endLoop (P := P) hb.loop (by rw [hmk]; simp)
      rw [hmk] at hr
      exact ⟨some c, _, hr, hstop c pre _ hSp ((hIx c).putObj _ hi (by omega) hb.loop rfl) ((World.putObj_heap_other (by omega)).trans hb.calls)⟩
end Go.Proofs.YtmmgmcfhlhghoaaGreatDoor

namespace Go.Proofs.YtmmgmcfhlhghoaaGreatDoor
open Go.RowKit Go.Sort

/-- It is no deferred call. -/
def calmO (o : Oper) : Bool := match o.op with
  | .defer _ => false
  | _ => true
theorem calmO_ne {o : Oper} (h : calmO o = true) : ∀ c, o.op ≠ .defer c := fun c e => by simp [calmO, e] at h

section
variable {F : Fence} {n : Nat} {P : Program} {C : World → Prop}
theorem round_op {o : Oper} {a : Act} {w : World} {K : Act → Prop} {K' : Act → World → Prop} {R : Exit → Act → World → Prop} (hd : calmO o = true) (hw : C w) (hk : ∀ b v, C v → K b → K' b v) (ha : o.askedIn F P a C) (hq : o.quietIn F n P a C K) : o.wpIn F n P a w K' R := by
  refine ⟨ha w hw, ?_⟩
  rw [Oper.semAt_eq _ _ _ (calmO_ne hd)]
  obtain ⟨v, each, next⟩ := hq
  have now : Oper.quietUponIn F n P C w v ((execOp a.eval o).run P w) := each w hw
  rcases hr : (execOp a.eval o).run P w with ⟨x, w'⟩ | ⟨x, w'⟩ <;> rw [hr] at now
  · rcases x <;> simp only [Oper.quietUponIn] at now <;> simp only [Oper.uponIn]
    · obtain ⟨rfl, rfl⟩ := now; exact hk _ _ hw next
    · obtain ⟨rfl, e⟩ := now; rw [← e]; exact hk _ _ hw next
    · obtain ⟨rfl, d, hc⟩ := now
      exact ⟨d, hc.mono fun e v' ⟨he, hv⟩ => by subst he; exact hk _ _ hv next⟩
  · simp only [Oper.quietUponIn] at now
theorem round_any {ops : Array Oper} {md : Region.Mode} {Q : Act → Prop} {R : Exit → Act → World → Prop} (hd : ∀ (i : Nat) (o : Oper), ops[i]? = some o → calmO o = true) (hQ : ∀ b v, C v → Q b → R .normal b v) :
    ∀ (fuel : Nat) (done : Array Bool) (a : Act) (w : World), C w → wpAnyQIn F n P md ops C Q fuel done a → wpAnyIn F n P md ops R fuel done a w := by
  intro fuel
  induction fuel with
  | zero => intro done a w hw h; exact ⟨h.1, hQ a w hw h.2⟩
  | succ fuel ih =>
    intro done a w hw h
    refine ⟨fun h0 => hQ a w hw (h.1 h0), fun i hi => ?_⟩
    have hs := h.2 i hi
    unfold qOpIn at hs
    unfold wpOpIn
    cases ho : ops[i]? with
    | none => rw [ho] at hs; exact ih _ _ _ hw hs
    | some o =>
      rw [ho] at hs
      obtain ⟨ha, hs⟩ := hs
      by_cases hn : Region.wanted o (yielded ops a.tmps) = true
      · simp only [hn, if_true] at hs ⊢
        exact round_op (hd i o ho) hw (fun b v hv k => ih _ b v hv k) ha hs
      · simp only [hn] at hs ⊢
        exact ⟨ha w hw, ih _ _ _ hw hs⟩
theorem round_region {id : Nat} {R : Exit → Act → World → Prop} {a : Act} {w : World} {l : List Oper} (hd : l.all calmO = true) (hm : P.follows .mixedOrders = true) (hB : Region.lexB .any l.toArray = true) (hC : C { w with drawn := w.drawn + 1 })
    (h : wpQuietIn F n P l.toArray C (fun b => ∀ v, C v → R .normal b v) l a) : (Code.region id l.toArray true).wpIn F n P R a w := by
  simp only [Region.lexB, Bool.and_eq_true] at hB
  refine wpIn_region_any hm (round_any (Q := fun b => ∀ v, C v → R .normal b v) (fun i o ho => ?_) (fun _ v hv k => k v hv) _ _ _ _ hC ?_)
  · exact List.all_eq_true.1 hd o (List.mem_of_getElem? (by simpa using ho))
  · have := wpAnyQIn_lex (F := F) (n := n) (C := C) (md := .any) hB.1 l 0 (Array.replicate l.toArray.size false) a (by simp) (by simpa using hB.2) h
    simpa using this
/-- After some draws. -/
theorem round_drew {id : Nat} {R : Exit → Act → World → Prop} {a : Act} {w : World} {l : List Oper} (hd : l.all calmO = true) (hm : P.follows .mixedOrders = true) (hB : Region.lexB .any l.toArray = true)
    (h : wpQuietIn F n P l.toArray (fun v => ∃ k, v = w.drewN k) (fun b => ∀ v, (∃ k, v = w.drewN k) → R .normal b v) l a) : (Code.region id l.toArray true).wpIn F n P R a w :=
  round_region (C := fun v => ∃ k, v = w.drewN k) hd hm hB ⟨1, rfl⟩ h
end
end Go.Proofs.YtmmgmcfhlhghoaaGreatDoor

namespace Go.Proofs.YtmmgmcfhlhghoaaGreatDoor
open Go.RowKit
namespace L14

attribute [local go_sem] Oper.semAt_some

theorem plain_addr {w : World} {a : Addr} {v : Value} (h : w.cell? a = some v) : a = ⟨a.block, a.off, none⟩ := by
  obtain ⟨b, o, sp⟩ := a
  cases sp with
  | none => rfl
  | some s =>
    unfold World.cell? at h
    simp only [Option.isSome_some, if_true] at h
    split at h <;> cases h
theorem Kb.loop {g N l : Nat} (W : World) (r r' : Loop) (hl : N ≤ l) (h : W.heap[l]? = some (.loop r)) : Kb g N W (W.putObj l (.loop r')) := by
  have hg := grownBy_putObj' W l (.loop r')
  have hr : ∀ k, some l = some k → ∃ o : Obj, W.heap[k]? = some o ∧ o.isCells = false := fun k e => by cases e; exact ⟨_, h, rfl⟩
  refine ⟨⟨by simp, fun b cs t f _ _ hc => (grownBy_keeps_cells hg hr hc rfl).trans hc, fun w0 hw x => Below.grown x hg x.size fun k e => by cases e; omega⟩, fun b es c hm => ?_⟩
  have hne : b ≠ l := fun e => by rw [e, h] at hm; cases hm
  exact (World.putObj_heap_other hne).trans hm
theorem blk_row {W W' : World} {g : Nat} {t : TypeId} {cs : List Value} {row : Option Nat} (h : Blk W g t cs) (hg : W.grownBy W' row) (hr : ∀ r, row = some r → ∃ o : Obj, W.heap[r]? = some o ∧ o.isCells = false) : Blk W' g t cs := (grownBy_keeps_cells hg hr h rfl).trans h
theorem ext_row {w W W' : World} {row : Option Nat} (h : Ext w W) (hg : W.grownBy W' row) (hr : ∀ r, row = some r → w.heap.size ≤ r) : Ext w W' := Below.grown h hg h.size (fun k e => hr k e)

theorem blk_put {W : World} {B l : Nat} {t : TypeId} {cs : List Value} {o : Obj} (o' : Obj) (h : Blk W B t cs) (hl : W.heap[l]? = some o) (ho : o.isCells = false) : Blk (W.putObj l o') B t cs :=
  blk_row h (grownBy_putObj' W l o') fun r e => by cases e; exact ⟨o, hl, ho⟩
theorem ext_put {w W : World} {l : Nat} (o' : Obj) (x : Ext w W) (hl : w.heap.size ≤ l) : Ext w (W.putObj l o') :=
  Below.grown x (grownBy_putObj' W l o') x.size fun k e => by cases e; exact hl
/-- A box of one cell as a result. -/
theorem res_cell {fn : Func} {p : Nat} {t : TypeId} (h : fn.results = #[.cell p t]) (tmps : Array Value) (W : World) (b : Nat) (v : Value) (hp : tmps[p]? = some (.pointer (some ⟨b, 0, none⟩))) (hc : W.cell? ⟨b, 0, none⟩ = some v) (ha : (isAgg t).run Tryz.prog W = .ok false W) :
    (results fn tmps).run Tryz.prog W = .ok v W := by
  simp only [results, h]
  simp [go_sem, loadVar, asAddr, hp, hc, ha]
/-- A line's number is where it is said to be. -/
theorem val_at {W : World} {B : Nat} {L : LayD} {A : Option Addr} {S : Addr} {c : Nat} (hS : A = some S ∨ L.n = 0) (kB : Blk W B 40 (layC L A c)) (sn : SeenP W A L.n L.sh) {j t i : Nat} (hx : (j, t) ∈ seqN L.n) (hi : i < cntK j) :
    W.cell? (adrK B S j t i) = some (.int .i64 (valD L j t i)) ∧ (adrK B S j t i).block < W.heap.size := by
  by_cases h2 : j = 2
  · subst h2
    have ht : t < L.n := by simp [seqN] at hx; exact hx
    obtain ⟨ad, e, hb, c0, c1⟩ := sn t ht
    obtain rfl : ad = S := by rcases hS with h | h; exact Option.some.inj (e.symm.trans h); omega
    have hi' : i = 0 ∨ i = 1 := by have : cntK 2 = 2 := rfl; omega
    rcases hi' with rfl | rfl
    · exact ⟨c0, World.block_lt_of_cell? W _ c0⟩
    · have e2 := (sn.get ht)
      obtain ⟨ad', e', _, h1⟩ := e2
      rw [e] at e'; cases e'
      exact ⟨h1, World.block_lt_of_cell? W _ h1⟩
  · have hj : j < 10 := by
      simp [seqN] at hx
      rcases hx with h | h | h | h <;> omega
    have e : adrK B S j t i = ⟨B, baseK j + i, none⟩ := if_neg h2
    have ev : valD L j t i = L.v (baseK j + i) := if_neg h2
    rw [e, ev]
    refine ⟨?_, kB.lt⟩
    rw [kB.cell]
    have hj' : j = 0 ∨ j = 1 ∨ j = 3 ∨ j = 4 ∨ j = 5 ∨ j = 6 ∨ j = 7 ∨ j = 8 ∨ j = 9 := by omega
    have hi5 := (cntK_small j).2
    have hi' : i = 0 ∨ i = 1 ∨ i = 2 ∨ i = 3 ∨ i = 4 := by omega
    rcases hj' with rfl | rfl | rfl | rfl | rfl | rfl | rfl | rfl | rfl <;> rcases hi' with rfl | rfl | rfl | rfl | rfl <;> first | rfl | (exfalso; revert hi; decide)

theorem num_cells {W : World} {B : Nat} {S : Addr} {W0 : Int} {j t b k : Nat} (h : VN B S W0 (j, t, b) W) (hk : k < cntK j) : W.cell? ((⟨b, 0, none⟩ : Addr).add (k * 3)) = some (.pointer (some (adrK B S j t k))) ∧
    W.cell? ⟨((⟨b, 0, none⟩ : Addr).add (k * 3)).block, ((⟨b, 0, none⟩ : Addr).add (k * 3)).off + 1, none⟩ = some (.int .i64 (loK W0 j k)) ∧ W.cell? ⟨((⟨b, 0, none⟩ : Addr).add (k * 3)).block, ((⟨b, 0, none⟩ : Addr).add (k * 3)).off + 2, none⟩ = some (.int .i64 (hiK W0 j k)) := by
  have h : Blk W b 102 (numC B S W0 j t) := h
  obtain ⟨h0, h1, h2⟩ := numC_at (B := B) (S := S) (W := W0) (t := t) hk
  rw [Addr.add_mid]
  refine ⟨?_, ?_, ?_⟩
  · rw [Nat.zero_add, h.cell]; exact h0
  · show W.cell? ⟨b, 0 + k * 3 + 1, none⟩ = _
    rw [Nat.zero_add, h.cell]; exact h1
  · show W.cell? ⟨b, 0 + k * 3 + 2, none⟩ = _
    rw [Nat.zero_add, h.cell]; exact h2
theorem okL_no {L : LayD} {j t k b : Nat} (hk : k < cntK j) (h : okN L j t k = false) : okL L (keyN (j, t, b)) = false := by
  rw [okL, List.all_eq_false]
  exact ⟨k, by simpa [keyN] using hk, by simp [keyN, h]⟩
theorem okL_yes {L : LayD} {j t b : Nat} (h : ∀ q, q < cntK j → okN L j t q = true) : okL L (keyN (j, t, b)) = true := by
  rw [okL, List.all_eq_true]
  intro k hk
  exact h k (by simpa [keyN] using hk)

/-- What holds between the rounds; where the loop is left. -/
def CI (w : World) (L : LayD) (A : Option Addr) (c b0 b1 : Nat) (pre : List NB) (W : World) : Prop := (∀ x ∈ pre, okL L (keyN x) = true) ∧ Blk W b0 40 (layC L A c) ∧ Blk W b1 4 [.bool false] ∧ Ext w W
def CX (w : World) (L : LayD) (b1 : Nat) (cd : Code) (pre : List NB) (W : World) : Prop := (cd = .ret ∧ (∃ x ∈ pre, okL L (keyN x) = false) ∧ Blk W b1 4 [.bool false]) ∧ Ext w W
theorem CI.own {w : World} {L : LayD} {A : Option Addr} {c b0 b1 B : Nat} (hB : w.heap.size ≤ B) : OwnFrom B (CI w L A c b0 b1) := fun _ _ _ _ h hg hr =>
  ⟨h.1, blk_row h.2.1 hg (fun r e => (hr r e).2), blk_row h.2.2.1 hg (fun r e => (hr r e).2), ext_row h.2.2.2 hg (fun r e => Nat.le_trans hB (hr r e).1)⟩
theorem CX.own {w : World} {L : LayD} {b1 B : Nat} (cd : Code) (hB : w.heap.size ≤ B) : OwnFrom B (CX w L b1 cd) := fun _ _ _ _ h hg hr =>
  ⟨⟨h.1.1, h.1.2.1, blk_row h.1.2.2 hg (fun r e => (hr r e).2)⟩, ext_row h.2 hg (fun r e => Nat.le_trans hB (hr r e).1)⟩

set_option maxRecDepth 100000 in
set_option maxHeartbeats 8000000 in
theorem check_any (L : LayD) (A : Option Addr) (c : Nat) (w : World) (ok : LayOk L c) (sn : SeenP w A L.n L.sh) (hH : Home w) : Calls Tryz.prog 16 #[layV L A c] w (Ret w (.bool (mayL L))) := by
  obtain ⟨S, hS⟩ : ∃ S, A = some S ∨ L.n = 0 := by
    rcases Nat.eq_zero_or_pos L.n with h | h
    · exact ⟨⟨0, 0, none⟩, .inr h⟩
    · obtain ⟨ad, e, _⟩ := sn 0 h; exact ⟨ad, .inl e⟩
  have hn := ok.n
  have hc := ok.c
  by_cases h40 : L.n ≤ 40
  · have hn64 : ¬ (40 : Int) < (L.n : Int) := by omega
    obtain ⟨WA, hWA⟩ : ∃ WA, WA = (w.alloc (.cells #[.int .i64 (L.v 0), .int .i64 (L.v 1), .int .i64 (L.v 2), .int .i64 (L.v 3), .slice A L.n c, .int .i64 (L.v 5), .int .i64 (L.v 6), .int .i64 (L.v 7), .int .i64 (L.v 8), .int .i64 (L.v 9), .int .i64 (L.v 10), .int .i64 (L.v 11), .int .i64 (L.v 12), .int .i64 (L.v 13), .int .i64 (L.v 14), .int .i64 (L.v 15), .int .i64 (L.v 16), .int .i64 (L.v 17), .int .i64 (L.v 18), .int .i64 (L.v 19), .int .i64 (L.v 20)] 40)).alloc (.cells #[.bool false] 4) := ⟨_, rfl⟩
    have XA : Ext w WA := by rw [hWA]; exact ((Ext.refl w).alloc _).alloc _
    have kL : Blk WA w.heap.size 40 (layC L A c) := by rw [hWA]; exact (Blk.lit _ _ _ _ rfl).ext ((Ext.refl _).alloc _)
    have kR : Blk WA (w.heap.size + 1) 4 [.bool false] := by rw [hWA]; exact Blk.lit _ _ _ _ (by simp)
    have hz : WA.heap.size = w.heap.size + 1 + 1 := by rw [hWA]; simp
    have sn0 := Lib.hid sn
    have SN := Lib.hid (sn.ext XA)
    have HH := Lib.hid (hH.ext XA)
    clear sn hH
    refine (callsIn_wide (n := 9)).1 (callsIn_of_wp_marks Tryz.func16 rfl trivial ?_ rfl)
    refine wpIn_wide.2 ?_
    simp only [layV, Tryz.ntmps16, List.size_toArray, List.length_cons, List.length_nil, Nat.reduceAdd, Nat.reduceSub, Array.replicate_succ, Array.replicate_zero, List.push_toArray, List.append_toArray, List.nil_append, List.cons_append]
    go_wp2_with fail
    rw [← hWA]
    refine (lines_any _ WA).mono ?_
    rintro e w1 ⟨rfl, hw1⟩
    have x1 : Ext WA w1 := by rw [hw1]; exact (Ext.refl _).alloc _
    have hz1 : w1.heap.size = w.heap.size + 1 + 1 + 1 := by rw [hw1]; simp; omega
    have kT : Blk w1 (w.heap.size + 1 + 1) 98 [.pointer (some ⟨w.heap.size, 0, none⟩)] := by rw [hw1]; exact Blk.lit _ _ _ _ hz.symm
    rw [hz]
    have kL := kL.ext x1
    have kR := kR.ext x1
    have X1 := XA.trans x1
    have SN := Lib.hid (SN.out.ext x1)
    have HH := Lib.hid (HH.out.ext x1)
    clear x1 XA hw1 hWA hz
    generalize hb1 : w.heap.size + 1 = b1 at *
    generalize hb2 : b1 + 1 = b2 at *
    generalize hb0 : w.heap.size = b0 at *
    go_wp2_with fail
    -- WALK
    obtain ⟨V, hV⟩ : ∃ V, V = Value.agg #[.int .i64 (L.v 0), .int .i64 (L.v 1), .int .i64 (L.v 2), .int .i64 (L.v 3), .slice A L.n c, .int .i64 (L.v 5), .int .i64 (L.v 6), .int .i64 (L.v 7), .int .i64 (L.v 8), .int .i64 (L.v 9), .int .i64 (L.v 10), .int .i64 (L.v 11), .int .i64 (L.v 12), .int .i64 (L.v 13), .int .i64 (L.v 14), .int .i64 (L.v 15), .int .i64 (L.v 16), .int .i64 (L.v 17), .int .i64 (L.v 18), .int .i64 (L.v 19), .int .i64 (L.v 20)] := ⟨_, rfl⟩
    rw [← hV]
    clear hV
    refine wpIn_wide.1 (range_over (n := 9) (F := Fence.wide) rfl (by omega) (gf := 36) (lb := #[.pointer (some ⟨b2, 0, none⟩)]) rfl trivial (enters_of Tryz.func36 (by kernel_rfl) rfl)
      (encs := encN) (fun _ => rfl) (V := fun x W => VN b0 S (L.v 0) x W ∧ keyN x ∈ seqN L.n) (Kp := Kb b1 b0) (S := fun xs => xs.map keyN = seqN L.n) (Sp := fun pre => pre.map keyN <+: seqN L.n) (N := (seqN L.n).length)
      (CI w L A c b0 b1) (CX w L b1)
      (fun x a' W' => ∃ ad : Addr, ad = ⟨x.2.2, 0, none⟩ ∧ VN b0 S (L.v 0) x W' ∧ keyN x ∈ seqN L.n ∧ a' = { tmps := #[V, .pointer (some ⟨b0, 0, none⟩), .pointer (some ⟨b1, 0, none⟩), undef, .slice (some ad) (cntK x.1) (cntK x.1), undef, undef, .pointer (some ⟨b0, 4, none⟩), .slice A L.n c, .int .i64 L.n, .bool false, .func (.func 36) #[] #[.pointer (some ⟨b2, 0, none⟩)], .string (nameB x.1), .slice (some ad) (cntK x.1) (cntK x.1), undef, undef, undef, undef, undef, undef, undef, undef, undef, undef, undef, undef, undef, undef, undef, undef, undef, undef, undef, undef, undef, undef, undef], defers := [] })
      (CI.own (by omega)) (fun cd => CX.own cd (by omega))
      (fun x a' u X Y row h hg hr => by
        obtain ⟨ad, h1, h2, h3, h4⟩ := h
        exact ⟨ad, h1, blk_row h2 hg (fun r e => (hr r e).2), h3, h4⟩)
      (fun h k => Kb.trans h k) (fun W' r r' h => Kb.loop W' r r' (by omega) h)
      ⟨fun x h => by simp at h, kL, kR, X1⟩ ?call ?assign ?body ?done ?stop)
    case call =>
      intro W' J' Jx' x' hz' hJ' hJx' hY' h0'
      exact lines_in 8 (w1.heap.size + 1) b2 b0 b1 b0 (w1.heap.size + 2) (by omega) L A S c hS (by omega) W' J' Jx' (HH.out.ext x') (kT.ext x') (kL.ext x') (by omega) (by omega) (by omega) (by omega) hJ'
        (fun pre x W2 h1 h2 h3 h4 => hY' pre x W2 h1 ⟨h2, h3⟩ h4) h0'
    case assign =>
      rintro pre x W' K hi ⟨hv, hm⟩ hK
      obtain ⟨ad, had⟩ : ∃ ad : Addr, ad = ⟨x.2.2, 0, none⟩ := ⟨_, rfl⟩
      have GO := Lib.hid (hK { tmps := #[V, .pointer (some ⟨b0, 0, none⟩), .pointer (some ⟨b1, 0, none⟩), undef, .slice (some ad) (cntK x.1) (cntK x.1), undef, undef, .pointer (some ⟨b0, 4, none⟩), .slice A L.n c, .int .i64 L.n, .bool false, .func (.func 36) #[] #[.pointer (some ⟨b2, 0, none⟩)], .string (nameB x.1), .slice (some ad) (cntK x.1) (cntK x.1), undef, undef, undef, undef, undef, undef, undef, undef, undef, undef, undef, undef, undef, undef, undef, undef, undef, undef, undef, undef, undef, undef, undef], defers := [] } W' (KeepsFrom.refl _ _) (Kb.refl _ _ _) hi ⟨ad, had, hv, hm, rfl⟩)
      clear hi hK hv
      rw [had] at GO
      simp only [encN]
      gi_wp2
      exact GO.out
    case body =>
      rintro pre ⟨j, t, bk⟩ a' W' ⟨hok, kL', kR', X'⟩ ⟨ad, had, hv, hm, rfl⟩ hlt
      have hn5 := (cntK_small j).2
      have SN' := sn0.out.ext X'
      have hv' := Lib.hid hv
      have hok' := Lib.hid hok
      have hm' := Lib.hid hm
      have kL2 := Lib.hid kL'
      have kR2 := Lib.hid kR'
      have X2 := Lib.hid X'
      have SN2 := Lib.hid SN'
      have HAD := Lib.hid had
      clear hv hok hm kL' kR' X' SN' had hlt
      have hcnt : (cntK j : Int) ≤ 5 := by omega
      dsimp only
      gi_wp2
      gi_loopw [16] (fun i wr => ∃ k : Nat, k ≤ cntK j ∧ i = .int .i64 k ∧ Hid (∀ q, q < k → okN L j t q = true) ∧ Hid (Ext W' wr)) (fun i _ => 10 - (intOf i).toNat)
      case atStart => exact ⟨0, by omega, rfl, Lib.hid (fun q h => by omega), Lib.hid (Ext.refl _)⟩
      case round =>
        obtain ⟨k, hk, rfl, ho, hx⟩ := hrel
        by_cases hlt : k < cntK j
        · have hk64 : (k : Int) < (cntK j : Int) := by omega
          obtain ⟨e0, e1, e2⟩ := num_cells (hv'.out.ext hx.out) hlt
          obtain ⟨c0, c1⟩ := val_at hS (kL2.out.ext hx.out) (SN2.out.ext hx.out) hm'.out hlt
          simp only [← HAD.out] at e0 e1 e2
          have HLE := Lib.hid (show okN L j t k = (decide (loK (L.v 0) j k ≤ valD L j t k) && decide (valD L j t k ≤ hiK (L.v 0) j k)) from rfl)
          generalize adrK b0 S j t k = ap at e0 c0 c1
          obtain ⟨ab, ao, rfl⟩ : ∃ ab ao, ap = ⟨ab, ao, none⟩ := ⟨_, _, plain_addr c0⟩
          generalize loK (L.v 0) j k = lo at e1 HLE
          generalize hiK (L.v 0) j k = hi at e2 HLE
          generalize valD L j t k = va at c0 HLE
          have c1 : ab < wr.heap.size := c1
          have k1 := kR2.out.ext hx.out
          have r0 : wr.cell? ⟨b1, 0, none⟩ = some (.bool false) := k1.cell 0
          have f0 := k1.free 0
          have hb1w : b1 < wr.heap.size := k1.lt
          have FAIL := Lib.hid (fun (hno : okN L j t k = false) (w9 : World) (x9 : Ext wr w9) =>
            show ownPostG (b2 + 1) (Kb b1 b0) (CI w L A c b0 b1) (CX w L b1) (pre ++ [(j, t, bk)]) W' .ret { tmps := #[], defers := [] } (w9.setCell ⟨b1, 0, none⟩ (.bool false)) from
            ⟨(keeps_ext (hx.out.trans x9)).trans ((KeepsOthers.setCell _ _ _).from _), ⟨rfl, ⟨(j, t, bk), by simp, okL_no hlt hno⟩, (k1.ext x9).set 0 (.bool false)⟩, (X2.out.trans (hx.out.trans x9)).setCell (by show _ ≤ b1; omega) _⟩)
          clear k1
          obtain ⟨WR, hWR⟩ : ∃ WR, WR = wr.alloc (.cells #[.pointer (some ⟨ab, ao, none⟩), .int .i64 lo, .int .i64 hi] 102) := ⟨_, rfl⟩
          have xr : Ext wr WR := by rw [hWR]; exact (Ext.refl _).alloc _
          have kN : Blk WR wr.heap.size 102 [.pointer (some ⟨ab, ao, none⟩), .int .i64 lo, .int .i64 hi] := by rw [hWR]; exact Blk.lit _ _ _ _ rfl
          have n0 : WR.cell? ⟨wr.heap.size, 0, none⟩ = some (.pointer (some ⟨ab, ao, none⟩)) := kN.cell 0
          have n1 : WR.cell? ⟨wr.heap.size, 1, none⟩ = some (.int .i64 lo) := kN.cell 1
          have n2 : WR.cell? ⟨wr.heap.size, 2, none⟩ = some (.int .i64 hi) := kN.cell 2
          have c2 : WR.cell? ⟨ab, ao, none⟩ = some (.int .i64 va) := xr.at c0
          have r2 : WR.cell? ⟨b1, 0, none⟩ = some (.bool false) := xr.at r0
          have f2 : WR.frozen? ⟨b1, 0, none⟩ = false := xr.fz r0 f0
          have XR := Lib.hid xr
          clear xr kN
          gi_wp2
          rw [← hWR]
          clear hWR e0 e1 e2 c0 c1 r0 f0
          by_cases h1 : va < lo
          · have F := Lib.hid (FAIL.out (by rw [HLE.out, decide_eq_false (by omega)]; rfl))
            clear FAIL HLE
            refine round_drew (by kernel_rfl) (by kernel_rfl) (by kernel_rfl) ?_
            repeat (gi_big_quiet_step (fail))
            refine wpQuietIn_nil ?_
            rintro _ ⟨dq, rfl⟩
            gi_wp2
            exact F.out _ (XR.out.drewN dq)
          · by_cases h2 : hi < va
            · have F := Lib.hid (FAIL.out (by rw [HLE.out, decide_eq_false (show ¬ va ≤ hi by omega), Bool.and_false]))
              clear FAIL HLE
              refine round_drew (by kernel_rfl) (by kernel_rfl) (by kernel_rfl) ?_
              repeat (gi_big_quiet_step (fail))
              refine wpQuietIn_nil ?_
              rintro _ ⟨dq, rfl⟩
              gi_wp2
              exact F.out _ (XR.out.drewN dq)
            · have HO := Lib.hid (show ∀ q, q < k + 1 → okN L j t q = true from fun q hq => by
                by_cases e : q = k
                · rw [e, HLE.out, decide_eq_true (by omega), decide_eq_true (by omega)]; rfl
                · exact ho.out q (by omega))
              clear FAIL HLE ho
              refine round_drew (by kernel_rfl) (by kernel_rfl) (by kernel_rfl) ?_
              repeat (gi_big_quiet_step (fail))
              refine wpQuietIn_nil ?_
              rintro _ ⟨dq, rfl⟩
              have XD := Lib.hid (hx.out.trans (XR.out.drewN dq))
              gi_wp2
              go_roundw
              case rel => exact ⟨k + 1, by omega, by go_num, HO, XD⟩
              case measure => simp [intOf]; omega
        · have hk64 : ¬ (k : Int) < (cntK j : Int) := by omega
          have ALL := Lib.hid (okL_yes (b := bk) (fun q hq => ho.out q (by omega)))
          have GO := Lib.hid (show ownPostG (b2 + 1) (Kb b1 b0) (CI w L A c b0 b1) (CX w L b1) (pre ++ [(j, t, bk)]) W' .normal { tmps := #[], defers := [] } wr from
            ⟨keeps_ext hx.out, Kb.of_ext hx.out, fun x hx' => by
              rcases List.mem_append.1 hx' with h | h
              · exact hok'.out x h
              · rw [List.mem_singleton.1 h]; exact ALL.out, kL2.out.ext hx.out, kR2.out.ext hx.out, X2.out.trans hx.out⟩)
          gi_wp2
          exact GO.out
    case done =>
      rintro xs W' hSx ⟨hok, kL', kR', X'⟩ hK
      have HM := Lib.hid (show mayL L = true by
        rw [mayL, decide_eq_true h40, Bool.true_and, List.all_eq_true, ← hSx]
        intro y hy
        obtain ⟨x, hx, rfl⟩ := List.mem_map.1 hy
        exact hok x hx)
      have r0 : W'.cell? ⟨b1, 0, none⟩ = some (.bool false) := kR'.cell 0
      have f0 := kR'.free 0
      have HK := Lib.hid hK
      have HR := Lib.hid kR'
      have HX := Lib.hid X'
      clear hok kL' kR' X' hK hSx
      go_wp2_with fail
      have hk1 := (KeepsOthers.setCell W' ⟨b1, 0, none⟩ (.bool true)).same _ _ HK.out rfl
      have kr := HR.out.set 0 (.bool true)
      have x9 := HX.out.setCell (p := ⟨b1, 0, none⟩) (by show _ ≤ b1; omega) (.bool true)
      refine ⟨by simp, .inl ⟨_, _, rfl, run_takeDeferred hk1, ⟨_, res_cell rfl _ _ b1 (.bool true) rfl (blk_put _ kr hk1 rfl |>.cell 0) (by kernel_rfl), ?_⟩⟩⟩
      rw [HM.out]
      exact ⟨rfl, ext_put _ x9 (by omega)⟩
    case stop =>
      rintro cd pre W' hSp ⟨⟨rfl, hno, kR'⟩, X'⟩ hK
      have HM := Lib.hid (show mayL L = false by
        obtain ⟨x, hx, hn⟩ := hno
        rw [mayL, decide_eq_true h40, Bool.true_and, List.all_eq_false]
        exact ⟨keyN x, hSp.subset (List.mem_map.2 ⟨x, hx, rfl⟩), by rw [hn]; simp⟩)
      have HK := Lib.hid hK
      have HR := Lib.hid kR'
      have HX := Lib.hid X'
      clear hno kR' X' hK hSp
      gi_wp2
      refine ⟨by simp, .inl ⟨_, _, rfl, run_takeDeferred HK.out, ⟨_, res_cell rfl _ _ b1 (.bool false) rfl (blk_put _ HR.out HK.out rfl |>.cell 0) (by kernel_rfl), ?_⟩⟩⟩
      rw [HM.out]
      exact ⟨rfl, ext_put _ HX.out (by omega)⟩
  · have hno : mayL L = false := by simp [mayL, h40]
    rw [hno]
    have hn64 : (40 : Int) < (L.n : Int) := by omega
    unfold layV
    go_enter Tryz.func16, Tryz.ntmps16
    go_wp2_with fail
    refine bodyPost_ret (res_cell rfl _ _ (w.heap.size + 1) (.bool false) rfl (by simp [go_sem]) (by kernel_rfl)) rfl ⟨rfl, ?_⟩
    exact ((Ext.refl _).alloc _).alloc _
end L14
end Go.Proofs.YtmmgmcfhlhghoaaGreatDoor

namespace Go.Proofs.YtmmgmcfhlhghoaaGreatDoor
open Go.RowKit
namespace L14

theorem layC_one (L : LayD) (A : Option Addr) (c : Nat) : ∀ v ∈ layC L A c, v.oneCell' = true := by
  intro v hv
  simp only [layC, List.mem_cons, List.not_mem_nil, or_false] at hv
  rcases hv with rfl | rfl | rfl | rfl | rfl | rfl | rfl | rfl | rfl | rfl | rfl | rfl | rfl | rfl | rfl | rfl | rfl | rfl | rfl | rfl | rfl <;> rfl
theorem rg14 {f : FuncId} {args : Array Value} {w : World} {d : Nat} {os : Array Obj} {v : Value} (h : Calls Tryz.prog f args (Sort.grow (redrawn w d) os) (Ret (Sort.grow (redrawn w d) os) v)) :
    Calls Tryz.prog f args (Sort.grow (redrawn w d) os) fun e w'' => e = .returned v ∧ ∃ p : Regrown, w'' = Sort.grow (redrawn w p.d) p.os := Calls.regrown_of h
theorem lay_info : (Tryz.prog.info? 40).map (·.size) = some 21 := by kernel_rfl
/-- A load of a struct, guarded or not. -/
theorem wpList_load14 {P : Program} {ops : Array Oper} {rest : List Oper} {op : Oper} {a : Act} {w : World} {Q : Exit → Act → World → Prop} (hw : Region.wanted op (yielded ops a.tmps) = true) (ty : TypeId) (x : Operand) (ho : op.op = .load ty x)
    (b : Nat) (hx : a.eval x = .pointer (some ⟨b, 0, none⟩)) (cs : List Value) (d : TypeDesc) (hc : w.rangeAt b 0 cs)
    (hu : P.underlying ty = some d) (hd : d.isRow = true) (hi : (P.info? ty).map (·.size) = some cs.length)
    (h : wpList P ops Q rest (a.put op.dst (.agg cs.toArray)) w) : wpList P ops Q (op :: rest) a w := by
  unfold wpList
  rw [if_pos hw]
  exact Or.inl (wp_load_mid ty x ho b 0 hx cs d hc hu hd hi h)
/-- A variable of a layout, new, with its value. -/
def boxW (w : World) (L : LayD) (A : Option Addr) (c : Nat) : World := (w.alloc (.cells #[.int .i64 0, .int .i64 0, .int .i64 0, .int .i64 0, .slice none 0 0, .int .i64 0, .int .i64 0, .int .i64 0, .int .i64 0, .int .i64 0, .int .i64 0, .int .i64 0, .int .i64 0, .int .i64 0, .int .i64 0, .int .i64 0, .int .i64 0, .int .i64 0, .int .i64 0, .int .i64 0, .int .i64 0] 40)).setCells w.heap.size 0 (layC L A c)
theorem boxW_ext (w : World) (L : LayD) (A : Option Addr) (c : Nat) : Ext w (boxW w L A c) := ext_setCells (Nat.le_refl _) _ _ _ ((Ext.refl _).alloc _)
theorem boxW_blk (w : World) (L : LayD) (A : Option Addr) (c : Nat) : Blk (boxW w L A c) w.heap.size 40 (layC L A c) := blk_setCells (cs := [.int .i64 0, .int .i64 0, .int .i64 0, .int .i64 0, .slice none 0 0, .int .i64 0, .int .i64 0, .int .i64 0, .int .i64 0, .int .i64 0, .int .i64 0, .int .i64 0, .int .i64 0, .int .i64 0, .int .i64 0, .int .i64 0, .int .i64 0, .int .i64 0, .int .i64 0, .int .i64 0, .int .i64 0]) (Blk.lit _ _ _ _ rfl) _ rfl
theorem boxW_there (w : World) : (w.alloc (.cells #[.int .i64 0, .int .i64 0, .int .i64 0, .int .i64 0, .slice none 0 0, .int .i64 0, .int .i64 0, .int .i64 0, .int .i64 0, .int .i64 0, .int .i64 0, .int .i64 0, .int .i64 0, .int .i64 0, .int .i64 0, .int .i64 0, .int .i64 0, .int .i64 0, .int .i64 0, .int .i64 0, .int .i64 0] 40)).there w.heap.size 0 21 :=
  Blk.there (Blk.lit w w.heap.size 40 #[.int .i64 0, .int .i64 0, .int .i64 0, .int .i64 0, .slice none 0 0, .int .i64 0, .int .i64 0, .int .i64 0, .int .i64 0, .int .i64 0, .int .i64 0, .int .i64 0, .int .i64 0, .int .i64 0, .int .i64 0, .int .i64 0, .int .i64 0, .int .i64 0, .int .i64 0, .int .i64 0, .int .i64 0] rfl)
/-- The value is stored where the variable was just made. -/
theorem wpList_boxW {ops : Array Oper} {rest : List Oper} {op : Oper} {a : Act} {W : World} {Q : Exit → Act → World → Prop} (hgd : op.guard = none) (x y : Operand) (ho : op.op = .store 40 x y)
    (w : World) (hW : W = w.alloc (.cells #[.int .i64 0, .int .i64 0, .int .i64 0, .int .i64 0, .slice none 0 0, .int .i64 0, .int .i64 0, .int .i64 0, .int .i64 0, .int .i64 0, .int .i64 0, .int .i64 0, .int .i64 0, .int .i64 0, .int .i64 0, .int .i64 0, .int .i64 0, .int .i64 0, .int .i64 0, .int .i64 0, .int .i64 0] 40)) (L : LayD) (A : Option Addr) (c : Nat) (hx : a.eval x = .pointer (some ⟨w.heap.size, 0, none⟩)) (hy : a.eval y = .agg (layC L A c).toArray)
    (h : wpList Tryz.prog ops Q rest (a.put op.dst undef) (boxW w L A c)) : wpList Tryz.prog ops Q (op :: rest) a W := by
  subst hW
  exact wpList_store_mid hgd 40 x y ho w.heap.size 0 (layC L A c).toArray hx hy (boxW_there w) lay_info (all_oneCell_toArray (layC_one _ _ _)) h
attribute [irreducible] boxW
/-- The value is loaded. -/
theorem wpList_getW {ops : Array Oper} {rest : List Oper} {op : Oper} {a : Act} {w : World} {Q : Exit → Act → World → Prop} (hw : Region.wanted op (yielded ops a.tmps) = true) (x : Operand) (ho : op.op = .load 40 x)
    (b : Nat) (hx : a.eval x = .pointer (some ⟨b, 0, none⟩)) {L : LayD} {A : Option Addr} {c : Nat} (k : Blk w b 40 (layC L A c))
    (h : wpList Tryz.prog ops Q rest (a.put op.dst (.agg (layC L A c).toArray)) w) : wpList Tryz.prog ops Q (op :: rest) a w :=
  wpList_load14 hw 40 x ho b hx (layC L A c) _ k.range Tryz.underlying40 rfl (by kernel_rfl) h
end L14
end Go.Proofs.YtmmgmcfhlhghoaaGreatDoor

namespace Go.Proofs.YtmmgmcfhlhghoaaGreatDoor
open Go.RowKit
namespace L13

def few1 (p : TW) : Bool := decide (p.1.length ≤ 100) && decide (p.2.length ≤ 100)
def fewB (l : List TW) : Bool := decide (l.length ≤ 110) && l.all few1
theorem all_few {l : List CW} {k : Nat} (h : k < l.length) : ((l.drop k).map tw).all few1 = (few1 (tw l[k]) && ((l.drop (k + 1)).map tw).all few1) := by
  rw [List.drop_eq_getElem_cons h, List.map_cons, List.all_cons]
set_option maxRecDepth 100000 in
set_option maxHeartbeats 2000000 in
theorem rfew_any (A : Option Addr) (l : List CW) (n c : Nat) (w : World) (hs : SeenC w A l) (hn : n = l.length) : Calls Tryz.prog 6 #[.slice A n c] w (Ret w (.bool (fewB (l.map tw)))) := by
  have SN := Lib.hid hs
  have HN := Lib.hid hn
  obtain ⟨b, hb⟩ : ∃ b, fewB (l.map tw) = b := ⟨_, rfl⟩
  rw [hb]
  have HB0 := Lib.hid (show (decide (n ≤ 110) && (l.map tw).all few1) = b by rw [← hb, fewB, List.length_map, hn])
  clear hs hn hb
  by_cases h1 : (110 : Int) < n
  · have HF := Lib.hid (show false = b by rw [← HB0.out, decide_eq_false (show ¬ n ≤ 110 by omega)]; rfl)
    clear HB0
    go_enter Tryz.func6, Tryz.ntmps6
    go_wp2_with fail
    go_ret
    exact ⟨ret_bool HF.out, Ext.refl _⟩
  have HB := Lib.hid (show (l.map tw).all few1 = b by rw [← HB0.out, decide_eq_true (show n ≤ 110 by omega), Bool.true_and])
  clear HB0
  go_enter Tryz.func6, Tryz.ntmps6
  go_wp2_with fail
  go_loop [3] (fun i => ∃ k : Nat, k ≤ n ∧ i = .int .i64 k ∧ Hid ((l.map tw).all few1 = ((l.drop k).map tw).all few1)) (fun i => n - (intOf i).toNat)
  case atStart => exact ⟨0, Nat.zero_le _, rfl, rfl⟩
  case round =>
    obtain ⟨k, hk, rfl, hall⟩ := hrel
    by_cases hlt : k < n
    · have hlt' : k < l.length := by rw [← HN.out]; exact hlt
      obtain ⟨⟨ad, rfl, e0, e1⟩, _⟩ := SN.out.get hlt'
      have hall := hall.out
      rw [all_few hlt'] at hall
      have HALL := Lib.hid hall
      have hk64 : (k : Int) < (n : Int) := by omega
      have F1 := Lib.hid (show few1 (tw l[k]) = (decide (l[k].cs.length ≤ 100) && decide (l[k].ss.length ≤ 100)) from rfl)
      clear hall
      generalize few1 (tw l[k]) = f1 at *
      generalize l[k].cs.length = y at *
      generalize l[k].ss.length = z at *
      generalize l[k].A = A1 at *
      generalize l[k].c = c1 at *
      generalize l[k].B = B1 at *
      generalize l[k].d = d1 at *
      by_cases h60 : (100 : Int) < y
      · have HF := Lib.hid (show false = b by rw [← HB.out, HALL.out, F1.out, decide_eq_false (show ¬ y ≤ 100 by omega)]; rfl)
        clear HALL F1
        go_wp2_with fail
        go_ret
        exact ⟨ret_bool HF.out, Ext.refl _⟩
      · by_cases h61 : (100 : Int) < z
        · have HF := Lib.hid (show false = b by rw [← HB.out, HALL.out, F1.out, decide_eq_true (show y ≤ 100 by omega), decide_eq_false (show ¬ z ≤ 100 by omega)]; rfl)
          clear HALL F1
          go_wp2_with fail
          go_ret
          exact ⟨ret_bool HF.out, Ext.refl _⟩
        · have HR := Lib.hid (show (l.map tw).all few1 = ((l.drop (k + 1)).map tw).all few1 by rw [HALL.out, F1.out, decide_eq_true (show y ≤ 100 by omega), decide_eq_true (show z ≤ 100 by omega)]; rfl)
          clear HALL F1
          go_wp2_with fail
          go_round
          case rel => exact ⟨k + 1, by omega, by go_num, HR⟩
          case measure => simp [intOf]; omega
    · obtain rfl : k = n := by omega
      have HF := Lib.hid (show true = b by rw [← HB.out, hall.out, HN.out, List.drop_length]; rfl)
      clear hall HB
      go_wp2_with fail
      go_ret
      exact ⟨ret_bool HF.out, Ext.refl _⟩
end L13
end Go.Proofs.YtmmgmcfhlhghoaaGreatDoor

