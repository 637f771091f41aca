/- The frame that all laws share: a law whose walk answers true and leaves all that was there as it was, holds. Any program, any law. A slice that reads as a list. Bytes: a slice of bytes that reads as a list of bytes, and blocks that are known whole. Any program. A box that holds a slice of one's own, to which more is put: what stays. Any program. Structs of many cells: loaded and stored whole. Any program. Arrays in variables: their cells as lists, what a call leaves of them. Rows of integers, and of pairs of them, by a function of the place: of one's own, or only seen. Any program. Structs as arguments: by value, with any fields of one cell each; slices of structs of integers, and of integers, as fields of them. Any program. Texts with numbers (patterns, exceptions), and lists of them, as arguments: what they read as. -/
import Derived.Test.YtmmgmcfhlhghoaaGreatDoorRows
import Derived.WalkKit
import Derived.ProofKit
import Derived.Carry
import Derived.HandedShaped
import Derived.ChangeOld
import Derived.Lib.Hide
import Derived.Deep.QuietTactic
import Derived.OwnWalk
import Derived.Maps.AppendAt
import Derived.Laws.OwnMore
import Derived.Laws.BytesArg
import Derived.OpenShut
import Derived.Laws.IdiomStrings
import Derived.Laws.CopyOwn
import Derived.RangeFuncBox
import Derived.Deep.MidRow
import Derived.Lib.QuietBelow
import Derived.BigQuiet
import Derived.Deep.Slices
import Derived.Deep.Fields
import Derived.ChangeSame
import Derived.Deep.SlicePairs
namespace Go.Proofs.YtmmgmcfhlhghoaaGreatDoor
open Go.ChangeShapes Go.WideShapes Go.ChangeAt Go.RowKit

/-- All that was there is as it was. -/
def Ext (w w' : World) : Prop := Below w.heap.size w w'
theorem Ext.refl (w : World) : Ext w w := Below.refl _ _
theorem Ext.trans {a b c : World} (h : Ext a b) (k : Ext b c) : Ext a c := Below.trans h (Below.mono k h.size)
theorem Ext.alloc {a w : World} (h : Ext a w) (o : Obj) : Ext a (w.alloc o) := Below.alloc h h.size o
theorem Ext.drew {a w : World} (h : Ext a w) : Ext a w.drew := Below.drew h
theorem Ext.drewN {a w : World} (h : Ext a w) (n : Nat) : Ext a (w.drewN n) := by
  induction n generalizing w with
  | zero => exact h
  | succ n ih => have := ih h.drew; rwa [World.drewN_drew, Nat.add_comm] at this
theorem Ext.setCell {a w : World} (h : Ext a w) {p : Addr} (hp : a.heap.size ≤ p.block) (u : Value) : Ext a (w.setCell p u) := Below.setCell h hp u
theorem Ext.cells {a b : World} (h : Ext a b) : (∀ n o, n < a.heap.size → b.cell? ⟨n, o, none⟩ = a.cell? ⟨n, o, none⟩) ∧ (∀ n o, n < a.heap.size → b.frozen? ⟨n, o, none⟩ = a.frozen? ⟨n, o, none⟩) :=
  ⟨fun n o k => h.cell (p := ⟨n, o, none⟩) k, fun n o k => h.frozen (p := ⟨n, o, none⟩) k⟩
theorem Ext.at {a b : World} (h : Ext a b) {p : Addr} {v : Value} (hc : a.cell? p = some v) : b.cell? p = some v :=
  (h.cell (World.block_lt_of_cell? a _ hc)).trans hc
theorem Ext.fz {a b : World} (h : Ext a b) {p : Addr} {v : Value} (hc : a.cell? p = some v) (hf : a.frozen? p = false) : b.frozen? p = false :=
  (h.frozen (World.block_lt_of_cell? a _ hc)).trans hf
theorem Ext.grows {a b : World} (h : Ext a b) : ∀ n, n < a.heap.size → n < b.heap.size := fun _ k => Nat.lt_of_lt_of_le k h.size
theorem Ext.le {a b : World} (h : Ext a b) : a.heap.size ≤ b.heap.size := h.size

/-- The call answers v, and all that was there is as it was. -/
def Ret (w : World) (v : Value) (e : Ending) (w' : World) : Prop := e = .returned v ∧ Ext w w'

theorem trodAll_ext {H : Type} {enc : TypeId × Value → H} {P : Program} {W W' : World} (hl : laidOutB P = true) (hb : Ext W W') :
    ∀ (ts : List TypeId) (vs : List Value) (ds : List (DataW H)) (p : List MemPlace), ts.all (fun t => P.readableRec t && decide (t < P.types.size)) = true →
      DataW.TrodAll enc P W 0 (fun _ => true) true ts vs ds p → (∀ x ∈ p, x.block < W.heap.size) →
      DataW.TrodAll enc P W' 0 (fun b => decide (b < W.heap.size)) true ts vs ds p
  | [], vs, ds, p, _, h, _ => by
    obtain ⟨rfl, rfl, rfl⟩ := trodAll_nil h
    exact trodAll_mk0
  | t :: ts, vs, ds, p, hr, h, hlt => by
    obtain ⟨v, vs', d, ds', p', q, rfl, rfl, rfl, h1, h2⟩ := trodAll_cons h
    simp only [List.all_cons, Bool.and_eq_true, decide_eq_true_eq] at hr
    refine ⟨p', q, Below.trod hl hr.1.1 hr.1.2 h1 hb (fun x hx => hlt x (by simp [hx])), ?_, rfl⟩
    exact trodAll_ext hl hb ts vs' ds' q (by simpa using hr.2) h2 (fun x hx => hlt x (by simp [hx]))

/-- A law's step: from its walk. -/
theorem law_lift {C : Checked} {os : Os} {f : FuncId} {fn : Func} {s : ChangeSpec} {B : TypeId} {H : Type} {enc : TypeId × Value → H}
    (own : ownKnob C.prog.godebug = none) (started : os.Started) (noInit : C.prog.inits.idxOf? f = none) (hfn : C.prog.funcs[f]? = some fn)
    (hl : laidOutB C.prog = true) (hvars : s.vars = []) (hres : fn.resultTypes = #[B]) (hB : C.prog.underlying B = some .bool)
    (hr : fn.params.toList.all (fun t => C.prog.readableRec t && decide (t < C.prog.types.size)) = true)
    (hspec : ∀ (H : Type) (ds : List (DataW H)), ds.length = fn.params.toList.length → s.fn H (ds ++ []) = { results := [.lit (.bool true)], args := ds })
    (witness : ∃ (w : World) (tape : Tape) (i : Input), w.os = os ∧ (w.forCall tape i).Shaped C.prog ∧ i.vars = [] ∧ Input.okWide C.prog (w.forCall tape i) .any w.heap.size f i ∧
      s.pre6 enc C.prog fn [] false (w.forCall tape i).memory i.args ∧ ({} : Assume).holds C.prog (lone (Frame.enter C.prog f i.args .normal) [] (w.forCall tape i)))
    (walk : ∀ (W : World) (base : Nat) (args : Array Value) (ds : List (DataW H)) (p : List MemPlace),
      (∀ (j : Nat) t v, fn.params[j]? = some t → args[j]? = some v → Value.okWide C.prog W .any base t v) →
      DataW.TrodAll enc C.prog W 0 (fun _ => true) true fn.params.toList args.toList ds p → (∀ x ∈ p, x.block < W.heap.size) →
      (DataW.weightsEach C.prog (fn.params.toList ++ s.plain.varTypes C.prog) (ds ++ [])).all (· ≤ reachBytes) = true → W.ShapedOpen C.prog →
      Calls C.prog f args W (Ret W (.bool true))) :
    ReturnsInHanded {} C os f .any (s.pre6 enc C.prog fn [] false) (s.post enc C.prog fn false true false false) := by
  refine returnsInHanded_of_change_shaped (C := C) own started noInit hfn witness ?_
  intro W base args ds gs before hval hW _ hwt hsh _
  have hlt : ∀ x ∈ before, x.block < W.heap.size := fun x hx => hW.lt x hx
  have hW' := hW
  obtain ⟨p, q, hA, hV, rfl, hfz, hnd⟩ := hW
  rw [hvars] at hV
  obtain ⟨rfl, rfl⟩ := trodVars_none hV
  simp only [List.append_nil] at hlt hW'
  have hlen : ds.length = fn.params.toList.length := by
    have : ∀ (ts : List TypeId) (vs : List Value) (ds : List (DataW H)) (p : List MemPlace), DataW.TrodAll enc C.prog W 0 (fun _ => true) true ts vs ds p → ds.length = ts.length := by
      intro ts
      induction ts with
      | nil => intro vs ds p h; obtain ⟨_, rfl, _⟩ := trodAll_nil h; rfl
      | cons t ts ih =>
        intro vs ds p h
        obtain ⟨v, vs', d, ds', p', q, rfl, rfl, rfl, h1, h2⟩ := trodAll_cons h
        simp [ih _ _ _ h2]
    exact this _ _ _ _ hA
  refine (walk W base args ds p hval hA hlt hwt hsh).mono fun e W' ⟨he, hx⟩ => ?_
  subst he
  have e1 := hspec H ds hlen
  refine ⟨_, rfl, ds, [], p, [], p, [], by simpa using hW', ?_, ?_, ?_, Below.frame hx _, fun h => by cases h⟩
  · rw [e1, hres]
    exact trodAll_mk1 (shut_bool hB _)
  · rw [e1]
    exact trodAll_ext hl hx _ _ _ _ hr hA hlt
  · rw [e1, hvars]
    rfl

theorem own : ownKnob Tryz.prog.godebug = none := by kernel_rfl
theorem laidOut : laidOutB Tryz.prog = true := by kernel_rfl

theorem ret_bool {a b : Bool} (h : a = b) : Ending.returned (.bool a) = .returned (.bool b) := by rw [h]
theorem ret_int {k : IntKind} {a b : Int} (h : a = b) : Ending.returned (.int k a) = .returned (.int k b) := by rw [h]
theorem ret_two {k l : IntKind} {a b c d : Int} (h : a = b) (h' : c = d) : Ending.returned (.tuple #[.int k a, .int l c]) = .returned (.tuple #[.int k b, .int l d]) := by rw [h, h']

end Go.Proofs.YtmmgmcfhlhghoaaGreatDoor

namespace Go.Proofs.YtmmgmcfhlhghoaaGreatDoor
open Go.ChangeShapes Go.WideShapes Go.ChangeAt Go.RowKit

theorem addr_block (a : Addr) (n : Nat) : (a.add n).block = a.block := by unfold Addr.add; split <;> rfl
theorem addr_add (a : Addr) (i j : Nat) : (a.add i).add j = a.add (i + j) := by
  unfold Addr.add
  by_cases hi : i = 0 <;> by_cases hj : j = 0 <;> simp [hi, hj, Nat.add_assoc]

/-- A slice from address A on, whose elements are one cell each, reads as the values xs, and they lie below block B. -/
def Seen (B : Nat) (w : World) (A : Option Addr) (xs : List Value) : Prop :=
  ∀ k v, xs[k]? = some v → ∃ ad, A = some ad ∧ ad.block < B ∧ w.cell? (ad.add k) = some v

theorem seen_new (w : World) (cs : List Value) (t : TypeId) : Seen (w.alloc (.cells cs.toArray t)).heap.size (w.alloc (.cells cs.toArray t)) (some ⟨w.heap.size, 0, none⟩) cs := by
  intro k v hv
  refine ⟨_, rfl, by simp, ?_⟩
  have : ((⟨w.heap.size, 0, none⟩ : Addr).add k) = ⟨w.heap.size, k, none⟩ := by
    unfold Addr.add; by_cases h : k = 0 <;> simp [h]
  rw [this, World.cell?_alloc_at _ _ _ _ rfl]
  simpa using hv
theorem Seen.nil {B : Nat} {w : World} {A : Option Addr} : Seen B w A [] := fun k v h => by simp at h
theorem Seen.get {B : Nat} {w : World} {A : Option Addr} {xs : List Value} (h : Seen B w A xs) {k : Nat} (hk : k < xs.length) :
    ∃ ad, A = some ad ∧ ad.block < B ∧ w.cell? (ad.add k) = some xs[k] := h k _ (List.getElem?_eq_getElem hk)
theorem Seen.mono {B B' : Nat} {w : World} {A : Option Addr} {xs : List Value} (h : Seen B w A xs) (hB : B ≤ B') : Seen B' w A xs :=
  fun k v hv => by obtain ⟨ad, e, hb, hc⟩ := h k v hv; exact ⟨ad, e, by omega, hc⟩
theorem Seen.below {B : Nat} {w w' : World} {A : Option Addr} {xs : List Value} (h : Seen B w A xs) (hb : Below B w w') : Seen B w' A xs :=
  fun k v hv => by
    obtain ⟨ad, e, hl, hc⟩ := h k v hv
    exact ⟨ad, e, hl, (hb.cell (by rw [addr_block]; exact hl)).trans hc⟩
theorem Seen.ext {w w' : World} {A : Option Addr} {xs : List Value} (h : Seen w.heap.size w A xs) (hb : Ext w w') : Seen w'.heap.size w' A xs :=
  (h.below hb).mono hb.size

/-- What the form says of a slice of integers that came in. -/
theorem seen_ints {H : Type} {enc : TypeId × Value → H} {P : Program} {W : World} {base : Nat} {t e : TypeId} {k : IntKind} {v : Value} {d : DataW H} {p : List MemPlace}
    (ht : P.underlying t = some (.slice e)) (he : P.underlying e = some (.int k)) (hc : P.cellsOf e = 1)
    (hv : Value.okWide P W .any base t v) (h : DataW.Trod enc P W 0 (fun _ => true) true t v d p) :
    ∃ (A : Option Addr) (l : List Int) (c : Nat), v = .slice A l.length c ∧ l.length ≤ c ∧ c ≤ maxLen ∧ (∀ n ∈ l, (Lit.int k n).wf = true) ∧ Seen W.heap.size W A (l.map (.int k)) := by
  obtain ⟨a0, len0, cap0, rfl⟩ := okWide_slice ht hv
  obtain ⟨fuel, hf⟩ := h
  rcases open_ints ht he hc hf with ⟨hcs, _⟩ | ⟨x, n, c, zs, hcs, _, hl, hm, hz, hx, hcell, hwz⟩
  · simp [Value.cells] at hcs
    obtain ⟨rfl, rfl, rfl⟩ := hcs
    exact ⟨none, [], 0, rfl, by simp, by simp, by simp, Seen.nil⟩
  · simp [Value.cells] at hcs
    obtain ⟨rfl, rfl, rfl⟩ := hcs
    simp at hz
    have hlen : (zs.take len0).length = len0 := by simp; omega
    refine ⟨_, zs.take len0, cap0, by rw [hlen], by omega, hm, fun n hn => hwz n (List.mem_of_mem_take hn), ?_⟩
    intro k' v' hv'
    simp only [List.getElem?_map, Option.map_eq_some_iff] at hv'
    obtain ⟨z, hz', rfl⟩ := hv'
    have hk : k' < len0 := by
      have := (List.getElem?_eq_some_iff.1 hz').1
      rw [hlen] at this; exact this
    have h1 := hcell k' (by omega)
    refine ⟨x, rfl, ?_, ?_⟩
    · have := block_lt_of_cell h1
      rwa [addr_block] at this
    · rw [h1]
      have : zs[k']? = some z := by rw [← hz', List.getElem?_take, if_pos hk]
      simp [List.getD, this]

/-- The facts of a slice type t, whose elements are of type e, of so many cells and bytes. -/
structure SliceOf (P : Program) (t e : TypeId) (size bytes : Nat) : Prop where
  under : P.underlying t = some (.slice e)
  info : ∃ i z, P.info? e = some i ∧ i.zero = some z ∧ i.size = size ∧ i.bytes = bytes ∧ z.cells.size = size
  pos : 0 < size

theorem slice_of {P : Program} {t e : TypeId} {z : Value} {size bytes : Nat} (ht : P.underlying t = some (.slice e)) (h : (P.info? e).map (fun i => (i.zero, i.size, i.bytes)) = some (some z, size, bytes)) (hz : z.cells.size = size) (hp : 0 < size) : SliceOf P t e size bytes := by
  obtain ⟨i, h1, h2, h3, h4⟩ := info_parts h
  exact ⟨ht, ⟨i, z, h1, h2, h3, h4, hz⟩, hp⟩

/-- append of a slice that came in, or is one's own, nil or not, to one's own. -/
theorem wpList_put {P : Program} {w w0 : World} {ops : Array Oper} {rest : List Oper} {o : Oper} {a : Act} {Q : Exit → Act → World → Prop} {t e : TypeId} {size bytes : Nat} (T : SliceOf P t e size bytes)
    (hgd : o.guard = none) (s x : Operand) (ho : o.op = .call { callee := .builtin .append, args := #[s, x], argTypes := #[t, t] })
    {v : Value} {n : Nat} {xs : List Value} (hs : a.eval s = v) (hown : w.ownsRow w0.heap.size e size v n xs) (hx0 : Ext w0 w)
    {A : Option Addr} {m c B : Nat} {news : List Value} (hx : a.eval x = .slice A m c) (hl : news.length = m * size) (hn : Seen B w A news) (h1 : ∀ u ∈ news, u.oneCell' = true)
    (h63 : n + m ≤ 9223372036854775807) (hbytes : (n + m) * bytes ≤ 140737488355328)
    (h : ∀ v' w', w'.ownsRow w0.heap.size e size v' (n + m) (xs ++ news) → Ext w0 w' → w.grownBy w' v.ownBlock → (v'.ownBlock = v.ownBlock ∨ v'.ownBlock = some w.heap.size) → wpList P ops Q rest (a.put o.dst v') w') :
    wpList P ops Q (o :: rest) a w := by
  obtain ⟨ht, ⟨i, z, hi, hz, hsz, hby, hzs⟩, hpos⟩ := T
  have hm : n + m ≤ maxLen := by unfold maxLen; omega
  have hrow : ∀ k, v.ownBlock = some k → w0.heap.size ≤ k := fun k hk => (hown.lt k hk).1
  rcases A with _ | ad
  · have hm0 : m = 0 := by
      rcases Nat.eq_zero_or_pos m with h0 | h0
      · exact h0
      · have hlen : 0 < news.length := by rw [hl]; exact Nat.mul_pos h0 hpos
        obtain ⟨ad, h, _⟩ := hn 0 _ (List.getElem?_eq_getElem hlen)
        cases h
    subst hm0
    have hnews : news = [] := List.eq_nil_of_length_eq_zero (by simpa using hl)
    subst hnews
    refine wpList_plain hgd fun K hK => ?_
    have hrun : (Builtin.append_ #[t, t] o.type #[v, .slice none 0 c]).run P w = .ok v w := by
      rcases hown.2 with ⟨rfl, rfl⟩ | ⟨g, cap, cur, rfl, _, _, hnc, _⟩
      · simp [Builtin.append_, run_underlying ht, sizeOf, typeInfo, hi, Builtin.lenOf, Builtin.firstCells]
      · simp [Builtin.append_, run_underlying ht, sizeOf, typeInfo, hi, Builtin.lenOf, Builtin.firstCells, hnc, storeCells]
    unfold Oper.wp execOp
    simp only [ho, resolve, invoke, builtin, Sem.run_bind, Sem.run_pure, Result.andThen_ok, List.map_toArray, List.map_cons, List.map_nil, hs, hx, hrun]
    exact hK _ _ (h v w (by simpa using hown) hx0 (World.grownBy.refl w _) (.inl rfl))
  · refine wpList_append_own_at w hgd s x t ho w0.heap.size e i z size bytes ht hi hz hsz hby hzs hpos v n xs hs hown ad m c news hx hl ?_ h1 hm hbytes hx0.size ?_
    · intro j u hu
      obtain ⟨ad', he, _, hc⟩ := hn j u hu
      injection he with he
      subst he
      exact hc
    · intro v' w' hown' hg _ hat
      exact h v' w' hown' (Below.grown hx0 hg hx0.size hrow) hg hat

/-- What one owns is seen. -/
theorem own_seen {w : World} {base : Nat} {e : TypeId} {size n : Nat} {v : Value} {xs : List Value} (h : w.ownsRow base e size v n xs) : ∃ A c, v = .slice A n c ∧ Seen w.heap.size w A xs := by
  rcases h.2 with ⟨rfl, rfl⟩ | ⟨g, cap, cur, rfl, hb, hh, hnc, _⟩
  · have : xs = [] := List.eq_nil_of_length_eq_zero (by simpa using h.1)
    subst this
    exact ⟨none, 0, rfl, Seen.nil⟩
  · refine ⟨_, cap, rfl, fun k u hu => ⟨_, rfl, ?_, h.cells (g := g) rfl k u hu⟩⟩
    exact (h.lt g rfl).2

end Go.Proofs.YtmmgmcfhlhghoaaGreatDoor

namespace Go.Proofs.YtmmgmcfhlhghoaaGreatDoor
open Go.ChangeShapes Go.WideShapes Go.ChangeAt Go.RowKit

/-- Bytes as a slice's cells. -/
def bv (l : List UInt8) : List Value := l.map fun b => .int .u8 (b.toNat : Int)
theorem bv_length (l : List UInt8) : (bv l).length = l.length := by simp [bv]
theorem bv_append (l m : List UInt8) : bv (l ++ m) = bv l ++ bv m := by simp [bv]
theorem bv_one (l : List UInt8) : ∀ v ∈ bv l, v.oneCell' = true := by
  intro v hv; simp only [bv, List.mem_map] at hv; obtain ⟨b, _, rfl⟩ := hv; rfl
theorem bv_at {l : List UInt8} {k : Nat} (hk : k < l.length) : (bv l)[k]? = some (.int .u8 (l[k].toNat : Int)) := by simp [bv, hk]

/-- The slice from A on reads as these bytes. -/
def SeenB (w : World) (A : Option Addr) (l : List UInt8) : Prop := Seen w.heap.size w A (bv l)
theorem SeenB.ext {w w' : World} {A : Option Addr} {l : List UInt8} (h : SeenB w A l) (x : Ext w w') : SeenB w' A l := Seen.ext h x
theorem SeenB.nil {w : World} {A : Option Addr} : SeenB w A [] := Seen.nil
theorem SeenB.get {w : World} {A : Option Addr} {l : List UInt8} (h : SeenB w A l) {k : Nat} (hk : k < l.length) :
    ∃ ad, A = some ad ∧ ad.block < w.heap.size ∧ w.cell? (ad.add k) = some (.int .u8 (l[k].toNat : Int)) := h k _ (bv_at hk)
/-- The address behind a cut. -/
def cutA (A : Option Addr) (k cap : Nat) : Option Addr := if cap = k then A else A.map (·.add k)
theorem SeenB.cut {w : World} {A : Option Addr} {l : List UInt8} (h : SeenB w A l) {k cap : Nat} (hk : k ≤ l.length) (hc : l.length ≤ cap) : SeenB w (cutA A k cap) (l.drop k) := by
  intro j v hv
  have hj : k + j < l.length := by
    have := (List.getElem?_eq_some_iff.1 hv).1
    simp [bv] at this; omega
  obtain ⟨ad, rfl, hb, hcell⟩ := h.get hj
  unfold cutA
  rw [if_neg (by omega)]
  refine ⟨ad.add k, rfl, by rw [addr_block]; exact hb, ?_⟩
  rw [addr_add, hcell]
  have : (bv (l.drop k))[j]? = (bv l)[k + j]? := by simp [bv]
  rw [this, bv_at hj] at hv
  exact hv
theorem SeenB.take {w : World} {A : Option Addr} {l : List UInt8} (h : SeenB w A l) (k : Nat) : SeenB w A (l.take k) := by
  intro j v hv
  have hj : j < (l.take k).length := by
    have := (List.getElem?_eq_some_iff.1 hv).1
    simpa [bv] using this
  have hj' : j < l.length := by simp at hj; omega
  have : (bv (l.take k))[j]? = (bv l)[j]? := by rw [bv_at hj, bv_at hj']; simp
  exact h j v (by rw [← this]; exact hv)

theorem SeenB.head {w : World} {A : Option Addr} {l m : List UInt8} (h : SeenB w A (l ++ m)) : SeenB w A l := by
  have := h.take l.length
  rwa [List.take_left] at this

/-- string(b). -/
theorem SeenB.str {P : Program} {w : World} {A : Option Addr} {l : List UInt8} (h : SeenB w A l) (src dst e : TypeId) (c n : Nat) (hs : P.underlying src = some (.slice e)) (he : P.underlying e = some (.int .u8)) (hd : P.underlying dst = some .string) (hn : n = l.length) :
    (convert src dst (.slice A n c)).run P w = .ok (.string ⟨l.toArray⟩) w := by
  subst hn
  rcases A with _ | ad
  · have hl : l = [] := by
      rcases l with _ | ⟨b, l⟩
      · rfl
      · obtain ⟨_, e, _⟩ := h.get (k := 0) (by simp); cases e
    subst hl
    have := run_convert_bytes_nil (w := w) src e hs he 0 c dst hd
    exact this
  · refine run_convert_bytes_back w src dst e ad c l hs he hd fun j hj => ?_
    obtain ⟨ad', e, _, hc⟩ := h.get hj
    obtain rfl : ad = ad' := by simpa using e
    exact hc

/-- A slice of bytes that came in. -/
theorem seen_bytes {H : Type} {enc : TypeId × Value → H} {P : Program} {W : World} {base : Nat} {t e : TypeId} {v : Value} {d : DataW H} {p : List MemPlace}
    (ht : P.underlying t = some (.slice e)) (he : P.underlying e = some (.int .u8)) (hc : P.cellsOf e = 1)
    (hv : Value.okWide P W .any base t v) (h : DataW.Trod enc P W 0 (fun _ => true) true t v d p) :
    ∃ (A : Option Addr) (l : List UInt8) (c : Nat), v = .slice A l.length c ∧ l.length ≤ c ∧ c ≤ maxLen ∧ SeenB W A l := by
  obtain ⟨A, l, c, hv, h1, h2, hw, hs⟩ := seen_ints ht he hc hv h
  refine ⟨A, l.map fun n => UInt8.ofNat n.toNat, c, by simpa using hv, by simpa using h1, h2, ?_⟩
  have e : bv (l.map fun n => UInt8.ofNat n.toNat) = l.map (.int .u8) := by
    unfold bv
    rw [List.map_map]
    apply List.map_congr_left
    intro n hn
    have := bounds_u8 (hw n hn)
    simp
    omega
  unfold SeenB
  rw [e]
  exact hs

/-- Block g is just these cells, none of them frozen. -/
def Blk (w : World) (g : Nat) (t : TypeId) (cs : List Value) : Prop := w.heap[g]? = some (.cells cs.toArray t (0, 0))
theorem Blk.lt {w : World} {g : Nat} {t : TypeId} {cs : List Value} (h : Blk w g t cs) : g < w.heap.size := by
  rcases Nat.lt_or_ge g w.heap.size with hlt | hge
  · exact hlt
  · unfold Blk at h; rw [Array.getElem?_eq_none hge] at h; cases h
theorem Blk.cell {w : World} {g : Nat} {t : TypeId} {cs : List Value} (h : Blk w g t cs) (i : Nat) : w.cell? ⟨g, i, none⟩ = cs[i]? := by
  unfold Blk at h; simp [World.cell?, h]
theorem Blk.free {w : World} {g : Nat} {t : TypeId} {cs : List Value} (h : Blk w g t cs) (i : Nat) : w.frozen? ⟨g, i, none⟩ = false := by
  unfold Blk at h; simp [World.frozen?, h]
theorem Blk.ext {w w' : World} {g : Nat} {t : TypeId} {cs : List Value} (h : Blk w g t cs) (x : Ext w w') : Blk w' g t cs := (x.block g h.lt).trans h
theorem Blk.new (w : World) (t : TypeId) (cs : Array Value) : Blk (w.alloc (.cells cs t)) w.heap.size t cs.toList := by
  unfold Blk
  show (w.heap.push (.cells cs t))[w.heap.size]? = _
  simp
theorem Blk.set {w : World} {g : Nat} {t : TypeId} {cs : List Value} (h : Blk w g t cs) (i : Nat) (u : Value) : Blk (w.setCell ⟨g, i, none⟩ u) g t (cs.set i u) := by
  unfold Blk at h ⊢
  simp [World.setCell, Array.getElem?_modify, h]
theorem Blk.far {w : World} {g : Nat} {t : TypeId} {cs : List Value} (h : Blk w g t cs) {p : Addr} (hp : p.block ≠ g) (u : Value) : Blk (w.setCell p u) g t cs := by
  unfold Blk at h ⊢
  simp [World.setCell, Array.getElem?_modify, h, hp]
theorem Blk.seen {w : World} {g : Nat} {t : TypeId} {l : List UInt8} {cs : List Value} (h : Blk w g t cs) (e : cs = bv l) : SeenB w (some ⟨g, 0, none⟩) l := by
  subst e
  intro j v hv
  refine ⟨_, rfl, h.lt, ?_⟩
  have : ((⟨g, 0, none⟩ : Addr).add j) = ⟨g, j, none⟩ := by unfold Addr.add; by_cases h : j = 0 <;> simp [h]
  rw [this, h.cell]
  exact hv
/-- make([]byte, n). -/
theorem make_bytes (P : Program) (t e : TypeId) (n : Nat) (ht : P.underlying t = some (.slice e)) (hz : (P.info? e).map (fun i => (i.zero, i.size, i.bytes)) = some (some (.int .u8 0), 1, 1)) (hn : n ≤ 1000000) :
    ∃ cs : Array Value, (∀ w, (Instr.makeSlice t (.int .i64 n) (.int .i64 n)).run P w = .ok (.slice (some ⟨w.heap.size, 0, none⟩) n n) (w.alloc (.cells cs e))) ∧ cs.toList = bv (List.replicate n 0) := by
  obtain ⟨i, h1, h2, h3, h4⟩ := info_parts hz
  refine ⟨_, fun w => run_make w t e i _ ht h1 h2 .i64 .i64 n n (by omega) (Int.le_refl _) (by rw [h4]; omega) (by omega), ?_⟩
  simp only [h3, Nat.mul_one, madeCells, Value.cells]
  apply List.ext_getElem
  · simp [bv]
  · intro j h1 h2
    simp [bv, Nat.mod_one]

/-- One's own bytes, to which more can be put: made since w0. -/
def OwnB (t : TypeId) (w0 w : World) (v : Value) (l : List UInt8) : Prop := w.ownsRow w0.heap.size t 1 v l.length (bv l) ∧ Ext w0 w
theorem OwnB.seen {t : TypeId} {w0 w : World} {v : Value} {l : List UInt8} (h : OwnB t w0 w v l) : ∃ A c, v = .slice A l.length c ∧ l.length ≤ c ∧ SeenB w A l := by
  obtain ⟨A, c, hv, hs⟩ := own_seen h.1
  refine ⟨A, c, hv, ?_, hs⟩
  rcases h.1.2 with ⟨e, h0⟩ | ⟨g, cap, cur, e, _, _, hc, _⟩
  · omega
  · rw [e] at hv; injection hv with _ _ h3; omega
theorem OwnB.nil (t : TypeId) (w0 w : World) (x : Ext w0 w) : OwnB t w0 w (.slice none 0 0) [] := ⟨World.ownsRow_nil _ _ _ _, x⟩
theorem OwnsRow.ext {w w' : World} {base : Nat} {e : TypeId} {size n : Nat} {v : Value} {xs : List Value} (h : w.ownsRow base e size v n xs) (x : Ext w w') : w'.ownsRow base e size v n xs := by
  refine ⟨h.1, ?_⟩
  rcases h.2 with hn | ⟨g, cap, cur, rfl, hb, hgg, rest⟩
  · exact .inl hn
  · exact .inr ⟨g, cap, cur, rfl, hb, (x.block g (Array.getElem?_eq_some_iff.1 hgg).1).trans hgg, rest⟩
/-- []byte{..}. -/
theorem OwnB.lit (t : TypeId) (w0 w : World) (l : List UInt8) (cs : Array Value) (n : Nat) (hc : cs = (bv l).toArray) (hn : n = l.length) (hm : l.length ≤ 1000000) (x : Ext w0 w) :
    OwnB t w0 (w.alloc (.cells cs t)) (.slice (some ⟨w.heap.size, 0, none⟩) n n) l := by
  subst hc hn
  have := World.ownsRow_lit (base := w0.heap.size) (e := t) (size := 1) w (bv l).toArray l.length x.size (by unfold maxLen; omega) (by simp [bv])
  exact ⟨by simpa using this, x.alloc _⟩
theorem OwnB.over {t : TypeId} {w0 w w' : World} {v : Value} {l : List UInt8} (h : OwnB t w0 w v l) (x : Ext w w') : OwnB t w0 w' v l := ⟨OwnsRow.ext h.1 x, h.2.trans x⟩
/-- append(own, more...). -/
theorem run_putB {P : Program} {w w0 : World} (t ty e : TypeId) (ht : P.underlying t = some (.slice e)) (hz : (P.info? e).map (fun i => (i.zero, i.size, i.bytes)) = some (some (.int .u8 0), 1, 1))
    {v : Value} {m : List UInt8} (h : OwnB e w0 w v m) (A : Option Addr) (l : List UInt8) (n c : Nat) (hx : SeenB w A l) (hn : n = l.length) (hm : m.length + l.length ≤ 1000000) :
    ∃ v' w', (Builtin.append_ #[t, t] ty #[v, .slice A n c]).run P w = .ok v' w' ∧ OwnB e w0 w' v' (m ++ l) ∧ w.grownBy w' v.ownBlock := by
  subst hn
  obtain ⟨i, hi, hz0, hsz, hby⟩ := info_parts hz
  obtain ⟨hown, hx0⟩ := h
  have hrow : ∀ k, v.ownBlock = some k → w0.heap.size ≤ k := fun k hk => (hown.lt k hk).1
  rcases A with _ | ad
  · have hl : l = [] := by
      rcases l with _ | ⟨b, l⟩
      · rfl
      · obtain ⟨_, e, _⟩ := hx.get (k := 0) (by simp); cases e
    subst hl
    refine ⟨v, w, ?_, by simpa using ⟨hown, hx0⟩, World.grownBy.refl w _⟩
    rcases hown.2 with ⟨rfl, _⟩ | ⟨g, cap, cur, rfl, _, _, hnc, _⟩
    · simp [Builtin.append_, run_underlying ht, sizeOf, typeInfo, hi, Builtin.lenOf, Builtin.firstCells]
    · simp [Builtin.append_, run_underlying ht, sizeOf, typeInfo, hi, Builtin.lenOf, Builtin.firstCells, hnc, storeCells]
  · obtain ⟨v', w', hrun, h2, h3, _, _⟩ := run_append_own_at (P := P) w w0.heap.size t ty e i (.int .u8 0) 1 1 ht hi hz0 hsz hby rfl (by omega) v m.length (bv m) hown ad l.length c (bv l) (by simp [bv])
      (fun j u hu => by
        obtain ⟨ad', e, _, hc⟩ := hx j u hu
        obtain rfl : ad = ad' := by simpa using e
        exact hc) (bv_one l) (by unfold maxLen; omega) (by omega) hx0.size
    refine ⟨v', w', hrun, ⟨?_, Below.grown hx0 h3 hx0.size hrow⟩, h3⟩
    rw [List.length_append, bv_append]
    exact h2
/-- An append whose run is known. -/
theorem wpList_ran {P : Program} {w w' : World} {ops : Array Oper} {rest : List Oper} {o : Oper} {a : Act} {Q : Exit → Act → World → Prop} {t : TypeId} {v : Value} (hgd : o.guard = none) (s x : Operand)
    (ho : o.op = .call { callee := .builtin .append, args := #[s, x], argTypes := #[t, t] }) (hrun : (Builtin.append_ #[t, t] o.type #[a.eval s, a.eval x]).run P w = .ok v w')
    (h : wpList P ops Q rest (a.put o.dst v) w') : wpList P ops Q (o :: rest) a w := by
  refine wpList_plain hgd fun K hK => ?_
  unfold Oper.wp execOp
  simp only [ho, resolve, invoke, builtin, Sem.run_bind, Sem.run_pure, Result.andThen_ok, List.map_toArray, List.map_cons, List.map_nil, hrun]
  exact hK _ _ h
end Go.Proofs.YtmmgmcfhlhghoaaGreatDoor

namespace Go.Proofs.YtmmgmcfhlhghoaaGreatDoor
open Go.RowKit

/-- All blocks of cells but g, and but those of the type e, are as they were, and so is all that lies below N. -/
structure Keep (e : TypeId) (g N : Nat) (w w' : World) : Prop where
  size : w.heap.size ≤ w'.heap.size
  block : ∀ b cs t f, b ≠ g → t ≠ e → w.heap[b]? = some (.cells cs t f) → w'.heap[b]? = some (.cells cs t f)
  old : ∀ w0, w0.heap.size ≤ N → Ext w0 w → Ext w0 w'
theorem Keep.refl (e : TypeId) (g N : Nat) (w : World) : Keep e g N w w := ⟨Nat.le_refl _, fun _ _ _ _ _ _ h => h, fun _ _ h => h⟩
theorem Keep.trans {e : TypeId} {g N : Nat} {a b c : World} (h : Keep e g N a b) (k : Keep e g N b c) : Keep e g N a c :=
  ⟨Nat.le_trans h.size k.size, fun n cs t f hn ht hc => k.block n cs t f hn ht (h.block n cs t f hn ht hc), fun w0 l x => k.old w0 l (h.old w0 l x)⟩
theorem lt_of_block {w : World} {b : Nat} {o : Obj} (h : w.heap[b]? = some o) : b < w.heap.size := (Array.getElem?_eq_some_iff.1 h).1
theorem Keep.of_ext {e : TypeId} {g N : Nat} {a b : World} (x : Ext a b) : Keep e g N a b := ⟨x.size, fun n _ _ _ _ _ hc => (x.block n (lt_of_block hc)).trans hc, fun _ _ y => y.trans x⟩
theorem Keep.set {e : TypeId} {g N : Nat} (hg : N ≤ g) (w : World) (o : Nat) (u : Value) : Keep e g N w (w.setCell ⟨g, o, none⟩ u) := by
  refine ⟨Nat.le_of_eq (by simp [World.setCell]), fun n cs t f hn _ hc => ?_, fun w0 l x => x.setCell (by simp; omega) u⟩
  show (w.heap.modify g _)[n]? = _
  rw [Array.getElem?_modify, if_neg (by omega), hc]
theorem Keep.grown {e : TypeId} {g N size k : Nat} {w w' : World} {v : Value} {xs : List Value} (h : w.ownsRow N e size v k xs) (x : w.grownBy w' v.ownBlock) : Keep e g N w w' := by
  refine ⟨x.size, fun n cs t f _ ht hc => (x.block n (lt_of_block hc) fun e' => ?_).trans hc, fun w0 l y => Below.grown y x y.size fun k hk => Nat.le_trans l (h.lt k hk).1⟩
  rcases h.2 with ⟨rfl, _⟩ | ⟨b, cap, cur, rfl, _, hgb, _⟩
  · simp [Value.ownBlock] at e'
  · obtain rfl : n = b := by simpa [Value.ownBlock] using e'
    rw [hgb] at hc
    simp only [Option.some.injEq, Obj.cells.injEq] at hc
    exact ht hc.2.1.symm
theorem Keep.blk {e t : TypeId} {g N b : Nat} {w w' : World} {cs : List Value} (h : Keep e g N w w') (hb : Blk w b t cs) (hn : b ≠ g) (ht : t ≠ e) : Blk w' b t cs := h.block b _ t _ hn ht hb

/-- The box g holds a slice of bytes of one's own. -/
def BoxB (e t : TypeId) (w0 w : World) (g : Nat) (l : List UInt8) : Prop := ∃ v, Boxed w g t v ∧ OwnB e w0 w v l
theorem BoxB.ext {e t : TypeId} {w0 w w' : World} {g : Nat} {l : List UInt8} (h : BoxB e t w0 w g l) (x : Ext w w') : BoxB e t w0 w' g l := by
  obtain ⟨v, hb, ho⟩ := h
  exact ⟨v, (x.block g hb.lt).trans hb, ho.over x⟩
theorem BoxB.old {e t : TypeId} {w0 w : World} {g : Nat} {l : List UInt8} (h : BoxB e t w0 w g l) : Ext w0 w := by
  obtain ⟨v, _, ho⟩ := h
  exact ho.2
/-- What is put behind, and stored. -/
theorem BoxB.put {P : Program} {e t T ty : TypeId} {w0 w : World} {g : Nat} {m : List UInt8} {v : Value} (hb : Boxed w g t v) (ho : OwnB e w0 w v m) (hte : t ≠ e) (hg : w0.heap.size ≤ g)
    (ht : P.underlying T = some (.slice e)) (hz : (P.info? e).map (fun i => (i.zero, i.size, i.bytes)) = some (some (.int .u8 0), 1, 1)) (A : Option Addr) (l : List UInt8) (n c : Nat) (hx : SeenB w A l) (hn : n = l.length) (hm : m.length + l.length ≤ 1000000) :
    ∃ A' k' c' w', (Builtin.append_ #[T, T] ty #[v, .slice A n c]).run P w = .ok (.slice A' k' c') w' ∧ w'.cell? ⟨g, 0, none⟩ = some v ∧ w'.frozen? ⟨g, 0, none⟩ = false ∧
      BoxB e t w0 (w'.setCell ⟨g, 0, none⟩ (.slice A' k' c')) g (m ++ l) ∧ Keep e g w0.heap.size w (w'.setCell ⟨g, 0, none⟩ (.slice A' k' c')) := by
  obtain ⟨v', w', hr, ho', hgr⟩ := run_putB T ty e ht hz ho A l n c hx hn hm
  have hb' : Boxed w' g t v := hb.kept hgr (hb.not_row hte ho.1)
  obtain ⟨A', c', rfl, _, _⟩ := ho'.seen
  refine ⟨A', _, c', w', hr, hb'.cell, hb'.frozen, ⟨_, hb'.set _, ?_, ho'.2.setCell hg _⟩, (Keep.grown ho.1 hgr).trans (Keep.set hg w' 0 _)⟩
  exact ho'.1.kept (grownBy_setCell' w' g _) (.inr (hb'.not_row hte ho'.1).symm)
theorem Blk.lit (w : World) (b : Nat) (t : TypeId) (cs : Array Value) (h : b = w.heap.size) : Blk (w.alloc (.cells cs t)) b t cs.toList := by
  subst h
  exact Blk.new w t cs
theorem Boxed.lit (w : World) (b : Nat) (t : TypeId) (v : Value) (h : b = w.heap.size) : Boxed (w.alloc (.cells #[v] t)) b t v := by
  subst h
  exact Boxed.new w t v
theorem Boxed.ext {w w' : World} {b : Nat} {t : TypeId} {v : Value} (h : Boxed w b t v) (x : Ext w w') : Boxed w' b t v := (x.block b h.lt).trans h
end Go.Proofs.YtmmgmcfhlhghoaaGreatDoor

namespace Go.Proofs.YtmmgmcfhlhghoaaGreatDoor
open Go.RowKit Go.Lib

theorem Blk.range {w : World} {b : Nat} {t : TypeId} {cs : List Value} (h : Blk w b t cs) : w.rangeAt b 0 cs := fun j v hv => by
  rw [Nat.zero_add, h.cell j]; exact hv
theorem Blk.there {w : World} {b : Nat} {t : TypeId} {cs : List Value} (h : Blk w b t cs) : w.there b 0 cs.length := fun j hj => by
  rw [Nat.zero_add, h.cell j, h.free j, List.getElem?_eq_getElem hj]; exact ⟨rfl, rfl⟩
theorem range_regrown {w : World} {b : Nat} {t : TypeId} {cs : List Value} (h : Blk w b t cs) : ∀ w', (∃ p : Regrown, w' = Sort.grow (redrawn w p.d) p.os) → w'.rangeAt b 0 cs := by
  rintro w' ⟨p, rfl⟩
  exact (h.ext (below_regrown _ _ _)).range

/-- A load of a struct, in a region that draws its order: as a move of what lies there. -/
theorem quiet_load {P : Program} {C : World → Prop} {K : Act → Prop} {a : Act} {dst : Option Tmp} {type : TypeId} {pos : String} {after : Array Edge} {guard : Option (Nat × Bool)} (ty : TypeId) {x : Operand}
    (b : Nat) (hx : a.eval x = .pointer (some ⟨b, 0, none⟩)) (cs : List Value) {d : TypeDesc} (hc : ∀ w, C w → w.rangeAt b 0 cs) (he : ∃ w, C w)
    (hu : P.underlying ty = some d) (hd : d.isRow = true) (hi : (P.info? ty).map (·.size) = some cs.length)
    (h : (Oper.mk dst (.move (.const (.agg cs.toArray))) type pos after guard).quiet P a C K) : (Oper.mk dst (.load ty x) type pos after guard).quiet P a C K := by
  obtain ⟨v, h1, h2⟩ := h
  refine ⟨.agg cs.toArray, fun w hw => ?_, ?_⟩
  · unfold Oper.quietAt execOp
    simp only [hx, Instr.loadAt, Instr.sureAddr, Sem.run_bind, Sem.run_pure, Result.andThen_ok, run_loadVar_mid w b 0 ty cs d (hc w hw) hu hd hi]
    exact ⟨rfl, rfl⟩
  · obtain ⟨w, hw⟩ := he
    have h3 := h1 w hw
    unfold Oper.quietAt at h3
    rw [BigFrame.run_move (.const (.agg cs.toArray)) rfl] at h3
    obtain ⟨_, h4⟩ := h3
    rw [← h4] at h2
    exact h2
theorem some_regrown (w : World) : ∃ w', ∃ p : Regrown, w' = Sort.grow (redrawn w p.d) p.os := ⟨_, ⟨0, #[]⟩, rfl⟩

theorem blk_set_from {b : Nat} {t : TypeId} : ∀ (vs mid pre : List Value) (w : World), mid.length = vs.length → Blk w b t (pre ++ mid) → Blk (w.setCells b pre.length vs) b t (pre ++ vs)
  | [], mid, pre, w, hl, h => by
    have : mid = [] := List.eq_nil_of_length_eq_zero hl
    subst this
    exact h
  | v :: r, [], pre, w, hl, h => by cases hl
  | v :: r, m :: mid, pre, w, hl, h => by
    have h1 := h.set pre.length v
    rw [List.set_append_right _ _ (Nat.le_refl _), Nat.sub_self, List.set_cons_zero, show pre ++ v :: mid = (pre ++ [v]) ++ mid by simp] at h1
    have h2 := blk_set_from r mid (pre ++ [v]) _ (by simpa using hl) h1
    simpa [World.setCells] using h2
theorem blk_setCells {w : World} {b : Nat} {t : TypeId} {cs : List Value} (h : Blk w b t cs) (vs : List Value) (hl : cs.length = vs.length) : Blk (w.setCells b 0 vs) b t vs := by
  simpa using blk_set_from vs cs [] w hl h
theorem blk_setFar {b g : Nat} {t : TypeId} {cs : List Value} (hb : b ≠ g) : ∀ (vs : List Value) (o : Nat) (w : World), Blk w g t cs → Blk (w.setCells b o vs) g t cs
  | [], _, _, h => h
  | v :: r, o, _, h => blk_setFar hb r (o + 1) _ (h.far (p := ⟨b, o, none⟩) hb v)
theorem ext_setCells {w0 : World} {b : Nat} (hb : w0.heap.size ≤ b) : ∀ (vs : List Value) (o : Nat) (w : World), Ext w0 w → Ext w0 (w.setCells b o vs)
  | [], _, _, x => x
  | v :: r, o, _, x => ext_setCells hb r (o + 1) _ (x.setCell (p := ⟨b, o, none⟩) hb v)
end Go.Proofs.YtmmgmcfhlhghoaaGreatDoor

namespace Go.Proofs.YtmmgmcfhlhghoaaGreatDoor
open Go.RowKit

theorem range_lit (w : World) (cs : List Value) (t : TypeId) : (w.alloc (.cells cs.toArray t)).rangeAt w.heap.size 0 cs := by
  intro j v hv
  rw [Nat.zero_add, World.cell?_alloc_at _ _ _ _ rfl]
  simpa using hv
theorem there_lit (w : World) (cs : List Value) (t : TypeId) (n : Nat) (hn : cs.length = n) : (w.alloc (.cells cs.toArray t)).there w.heap.size 0 n := by
  intro j hj
  have h : j < cs.length := by omega
  refine ⟨?_, ?_⟩
  · rw [range_lit w cs t j cs[j] (List.getElem?_eq_getElem h)]; rfl
  · simp
theorem Ext.range {a b : World} (x : Ext a b) {n o : Nat} {cs : List Value} (h : a.rangeAt n o cs) : b.rangeAt n o cs := fun j v hv => x.at (h j v hv)
theorem Ext.there {a b : World} (x : Ext a b) {n o k : Nat} (h : a.there n o k) : b.there n o k := fun j hj => by
  obtain ⟨h1, h2⟩ := h j hj
  obtain ⟨u, hu⟩ := Option.isSome_iff_exists.1 h1
  exact ⟨by rw [x.at hu]; rfl, x.fz hu h2⟩
theorem Ext.setCells {a : World} {n : Nat} : ∀ (vs : List Value) (o : Nat) {w : World}, Ext a w → a.heap.size ≤ n → Ext a (w.setCells n o vs)
  | [], _, _, h, _ => h
  | v :: r, o, _, h, k => by rw [World.setCells]; exact Ext.setCells r (o + 1) (h.setCell k v) k
theorem ext_drew {V w1 : World} (h : Ext V.drew w1) : Ext V w1 := ((Ext.refl _).drew).trans h
/-- The cells of a block of two that a region has made, behind a call. -/
theorem ext_new {V w1 : World} {a b : Value} {t : TypeId} (h : Ext (V.alloc (.cells #[a, b] t)) w1) :
    w1.cell? ⟨V.heap.size, 0, none⟩ = some a ∧ w1.cell? ⟨V.heap.size, 1, none⟩ = some b ∧ w1.frozen? ⟨V.heap.size, 0, none⟩ = false ∧ w1.frozen? ⟨V.heap.size, 1, none⟩ = false :=
  ⟨h.at (by simp), h.at (by simp), h.fz (v := a) (by simp) (by simp), h.fz (v := b) (by simp) (by simp)⟩
theorem ext_carry {V W : World} {n : Nat} {a b : Value} (x : Ext V W) (h : V.cell? ⟨n, 0, none⟩ = some a ∧ V.cell? ⟨n, 1, none⟩ = some b ∧ V.frozen? ⟨n, 0, none⟩ = false ∧ V.frozen? ⟨n, 1, none⟩ = false) :
    W.cell? ⟨n, 0, none⟩ = some a ∧ W.cell? ⟨n, 1, none⟩ = some b ∧ W.frozen? ⟨n, 0, none⟩ = false ∧ W.frozen? ⟨n, 1, none⟩ = false :=
  ⟨x.at h.1, x.at h.2.1, x.fz h.1 h.2.2.1, x.fz h.2.1 h.2.2.2⟩
theorem stored2 {V : World} {n : Nat} {a b u l : Value} (h0 : V.cell? ⟨n, 0, none⟩ = some a) (h1 : V.cell? ⟨n, 1, none⟩ = some b) :
    ((V.setCell ⟨n, 0, none⟩ u).setCell ⟨n, 1, none⟩ l).cell? ⟨n, 0, none⟩ = some u ∧ ((V.setCell ⟨n, 0, none⟩ u).setCell ⟨n, 1, none⟩ l).cell? ⟨n, 1, none⟩ = some l :=
  ⟨(World.cell?_setCell_other _ _ _ _ (by simp)).trans (World.cell?_setCell_same _ _ _ h0), World.cell?_setCell_same _ _ _ ((World.cell?_setCell_other _ _ _ _ (by simp)).trans h1)⟩
/-- The block of a list that a region has made, behind a call. -/
theorem ext_there {V w1 : World} {cs : List Value} {t : TypeId} (h : Ext (V.alloc (.cells cs.toArray t)) w1) : w1.there V.heap.size 0 cs.length := h.there (there_lit V cs t _ rfl)
end Go.Proofs.YtmmgmcfhlhghoaaGreatDoor

namespace Go.Proofs.YtmmgmcfhlhghoaaGreatDoor
open Go.RowKit

/-- Own: block b holds f 0, f 1, .. -/
def RowF (w : World) (b n : Nat) (f : Nat → Int) : Prop := ∀ j, j < n → w.cell? ⟨b, j, none⟩ = some (.int .i64 (f j)) ∧ w.frozen? ⟨b, j, none⟩ = false
/-- Seen: what is at A on. -/
def SeenF (w : World) (A : Option Addr) (n : Nat) (f : Nat → Int) : Prop := ∀ j, j < n → ∃ ad, A = some ad ∧ ad.block < w.heap.size ∧ w.cell? (ad.add j) = some (.int .i64 (f j))
/-- Own: block b holds pairs. -/
def RowP (w : World) (b n : Nat) (d : Nat → Int × Int) : Prop :=
  ∀ j, j < n → (w.cell? ⟨b, j * 2, none⟩ = some (.int .i64 (d j).1) ∧ w.cell? ⟨b, j * 2 + 1, none⟩ = some (.int .i64 (d j).2)) ∧ w.frozen? ⟨b, j * 2, none⟩ = false ∧ w.frozen? ⟨b, j * 2 + 1, none⟩ = false

theorem add_zero_addr (b j : Nat) : (⟨b, 0, none⟩ : Addr).add j = ⟨b, j, none⟩ := by
  unfold Addr.add; by_cases h : j = 0 <;> simp [h]

theorem RowF.ext {w w' : World} {b n : Nat} {f : Nat → Int} (h : RowF w b n f) (x : Ext w w') : RowF w' b n f := fun j hj => ⟨x.at (h j hj).1, x.fz (h j hj).1 (h j hj).2⟩
theorem SeenF.ext {w w' : World} {A : Option Addr} {n : Nat} {f : Nat → Int} (h : SeenF w A n f) (x : Ext w w') : SeenF w' A n f := fun j hj => by
  obtain ⟨ad, e, hb, hc⟩ := h j hj
  exact ⟨ad, e, x.grows _ hb, x.at hc⟩
theorem RowP.ext {w w' : World} {b n : Nat} {d : Nat → Int × Int} (h : RowP w b n d) (x : Ext w w') : RowP w' b n d := fun j hj => by
  obtain ⟨⟨h1, h2⟩, h3, h4⟩ := h j hj
  exact ⟨⟨x.at h1, x.at h2⟩, x.fz h1 h3, x.fz h2 h4⟩
theorem RowF.congr {w : World} {b n : Nat} {f g : Nat → Int} (h : RowF w b n f) (e : ∀ j, j < n → f j = g j) : RowF w b n g := fun j hj => by rw [← e j hj]; exact h j hj
theorem SeenF.congr {w : World} {A : Option Addr} {n : Nat} {f g : Nat → Int} (h : SeenF w A n f) (e : ∀ j, j < n → f j = g j) : SeenF w A n g := fun j hj => by rw [← e j hj]; exact h j hj
theorem RowP.congr {w : World} {b n : Nat} {f g : Nat → Int × Int} (h : RowP w b n f) (e : ∀ j, j < n → f j = g j) : RowP w b n g := fun j hj => by rw [← e j hj]; exact h j hj
theorem RowF.seen {w : World} {b n : Nat} {f : Nat → Int} (h : RowF w b n f) : SeenF w (some ⟨b, 0, none⟩) n f := fun j hj =>
  ⟨_, rfl, (by have := block_lt_of_cell (h j hj).1; exact this), by rw [add_zero_addr]; exact (h j hj).1⟩
theorem SeenF.none {w : World} {A : Option Addr} {f : Nat → Int} : SeenF w A 0 f := fun j hj => absurd hj (by omega)
theorem SeenF.get {w : World} {A : Option Addr} {n : Nat} {f : Nat → Int} (h : SeenF w A n f) {j : Nat} (hj : j < n) : ∃ ad, A = some ad ∧ w.cell? (ad.add j) = some (.int .i64 (f j)) := by
  obtain ⟨ad, e, _, hc⟩ := h j hj
  exact ⟨ad, e, hc⟩
theorem SeenF.le {w : World} {A : Option Addr} {n m : Nat} {f : Nat → Int} (h : SeenF w A n f) (hm : m ≤ n) : SeenF w A m f := fun j hj => h j (by omega)
/-- An argument, by its list. -/
theorem Seen.fn {w : World} {A : Option Addr} {l : List Int} (h : Seen w.heap.size w A (l.map (.int .i64))) : SeenF w A l.length (fun j => l.getD j 0) := fun j hj => by
  obtain ⟨ad, e, hb, hc⟩ := Seen.get h (k := j) (by simpa using hj)
  refine ⟨ad, e, hb, ?_⟩
  rw [hc]
  simp [List.getD, hj]

theorem rowF_new (w : World) (cs : Array Value) (t : TypeId) (n : Nat) (f : Nat → Int) (h : ∀ j, j < n → cs[j]? = some (.int .i64 (f j))) : RowF (w.alloc (.cells cs t)) w.heap.size n f := fun j hj => by
  refine ⟨?_, by simp⟩
  rw [World.cell?_alloc_at _ _ _ _ rfl]
  exact h j hj
theorem rowP_new (w : World) (cs : Array Value) (t : TypeId) (n : Nat) (d : Nat → Int × Int) (h : ∀ j, j < n → cs[j * 2]? = some (.int .i64 (d j).1) ∧ cs[j * 2 + 1]? = some (.int .i64 (d j).2)) : RowP (w.alloc (.cells cs t)) w.heap.size n d := fun j hj => by
  refine ⟨⟨?_, ?_⟩, by simp, by simp⟩
  · rw [World.cell?_alloc_at _ _ _ _ rfl]; exact (h j hj).1
  · rw [World.cell?_alloc_at _ _ _ _ rfl]; exact (h j hj).2

/-- A store into one's own row. -/
theorem RowF.set {w : World} {b n : Nat} {f : Nat → Int} (h : RowF w b n f) (i : Nat) (x : Int) : RowF (w.setCell ⟨b, i, none⟩ (.int .i64 x)) b n (fun j => if j = i then x else f j) := fun j hj => by
  refine ⟨?_, by rw [World.frozen?_setCell]; exact (h j hj).2⟩
  by_cases e : j = i
  · subst e
    simp only [if_true]
    exact World.cell?_setCell_same _ _ _ (h j hj).1
  · simp only [if_neg e]
    rw [World.cell?_setCell_other _ _ _ _ (by simp)]
    exact (h j hj).1
theorem RowF.other {w : World} {b n : Nat} {f : Nat → Int} (h : RowF w b n f) {p : Addr} (hp : p.block ≠ b) (v : Value) : RowF (w.setCell p v) b n f := fun j hj => by
  refine ⟨?_, by rw [World.frozen?_setCell]; exact (h j hj).2⟩
  rw [World.cell?_setCell_other _ _ _ _ (fun e => hp (by rw [e]))]
  exact (h j hj).1
theorem RowP.other {w : World} {b n : Nat} {d : Nat → Int × Int} (h : RowP w b n d) {p : Addr} (hp : p.block ≠ b) (v : Value) : RowP (w.setCell p v) b n d := fun j hj => by
  obtain ⟨⟨h1, h2⟩, h3, h4⟩ := h j hj
  refine ⟨⟨?_, ?_⟩, by rw [World.frozen?_setCell]; exact h3, by rw [World.frozen?_setCell]; exact h4⟩
  · rw [World.cell?_setCell_other _ _ _ _ (fun e => hp (by rw [e]))]; exact h1
  · rw [World.cell?_setCell_other _ _ _ _ (fun e => hp (by rw [e]))]; exact h2
theorem RowP.set {w : World} {b n : Nat} {d : Nat → Int × Int} (h : RowP w b n d) (i : Nat) (x y : Int) :
    RowP ((w.setCell ⟨b, i * 2, none⟩ (.int .i64 x)).setCell ⟨b, i * 2 + 1, none⟩ (.int .i64 y)) b n (fun j => if j = i then (x, y) else d j) := fun j hj => by
  obtain ⟨⟨h1, h2⟩, h3, h4⟩ := h j hj
  refine ⟨?_, by rw [World.frozen?_setCell, World.frozen?_setCell]; exact h3, by rw [World.frozen?_setCell, World.frozen?_setCell]; exact h4⟩
  by_cases e : j = i
  · subst e
    simp only [if_true]
    exact ⟨(World.cell?_setCell_other _ _ _ _ (by simp)).trans (World.cell?_setCell_same _ _ _ h1), World.cell?_setCell_same _ _ _ ((World.cell?_setCell_other _ _ _ _ (by simp)).trans h2)⟩
  · simp only [if_neg e]
    refine ⟨?_, ?_⟩
    · rw [World.cell?_setCell_other _ _ _ _ (by first | (simp; done) | (simp; omega)), World.cell?_setCell_other _ _ _ _ (by first | (simp; done) | (simp; omega))]; exact h1
    · rw [World.cell?_setCell_other _ _ _ _ (by first | (simp; done) | (simp; omega)), World.cell?_setCell_other _ _ _ _ (by first | (simp; done) | (simp; omega))]; exact h2

/-- make([]int, n): n noughts of one's own. -/
theorem make_ints (P : Program) (t e : TypeId) (n : Nat) (ht : P.underlying t = some (.slice e)) (hz : (P.info? e).map (fun i => (i.zero, i.size, i.bytes)) = some (some (.int .i64 0), 1, 8)) (hn : n ≤ 1000000) :
    ∃ cs : Array Value, (∀ w, (Instr.makeSlice t (.int .i64 n) (.int .i64 n)).run P w = .ok (.slice (some ⟨w.heap.size, 0, none⟩) n n) (w.alloc (.cells cs e))) ∧ ∀ w : World, RowF (w.alloc (.cells cs e)) w.heap.size n (fun _ => 0) := by
  obtain ⟨i, h1, h2, h3, h4⟩ := info_parts hz
  refine ⟨_, fun w => run_make w t e i _ ht h1 h2 .i64 .i64 n n (by omega) (Int.le_refl _) (by rw [h4]; omega) (by omega), fun w => rowF_new w _ e n _ fun j hj => ?_⟩
  simp only [h3, Nat.mul_one, madeCells, Value.cells]
  simp [hj]
  rw [Nat.mod_one]; rfl

/-- make([]T, n), T of two integers: n pairs of noughts of one's own. -/
theorem make_pairs (P : Program) (t e : TypeId) (n : Nat) (ht : P.underlying t = some (.slice e)) (hz : (P.info? e).map (fun i => (i.zero, i.size, i.bytes)) = some (some (.agg #[.int .i64 0, .int .i64 0]), 2, 16)) (hn : n ≤ 1000000) :
    ∃ cs : Array Value, (∀ w, (Instr.makeSlice t (.int .i64 n) (.int .i64 n)).run P w = .ok (.slice (some ⟨w.heap.size, 0, none⟩) n n) (w.alloc (.cells cs e))) ∧ ∀ w : World, RowP (w.alloc (.cells cs e)) w.heap.size n (fun _ => (0, 0)) := by
  obtain ⟨i, h1, h2, h3, h4⟩ := info_parts hz
  refine ⟨_, fun w => run_make w t e i _ ht h1 h2 .i64 .i64 n n (by omega) (Int.le_refl _) (by rw [h4]; omega) (by omega), fun w => rowP_new w _ e n _ fun j hj => ?_⟩
  simp only [h3, madeCells, Value.cells]
  constructor
  · simp [show j * 2 < n * 2 by omega]
  · simp [show j * 2 + 1 < n * 2 by omega, show (j * 2 + 1) % 2 = 1 by omega]
end Go.Proofs.YtmmgmcfhlhghoaaGreatDoor

namespace Go.Proofs.YtmmgmcfhlhghoaaGreatDoor
open Go.ChangeShapes Go.WideShapes Go.ChangeAt Go.RowKit Go.Deep

section
variable {H : Type} {enc : TypeId × Value → H} {P : Program} {W : World} {base : Nat}

/-- A struct by value: what each field reads as. -/
theorem arg_fields {t : TypeId} {fs : Array Field} {v : Value} {d : DataW H} {p : List MemPlace} (hs : P.underlying t = some (.struct fs)) (hone : oneCellFields P fs = true) (hC : P.cellsOf t = fs.size)
    (hv : Value.okWide P W .any base t v) (h : DataW.Trod enc P W 0 (fun _ => true) true t v d p) :
    ∃ cs : Array Value, v = .agg cs ∧ cs.size = fs.size ∧ ∀ (j : Nat) (f : Field), fs[j]? = some f → ∃ u n y, cs[j]? = some u ∧ DataW.trod enc P W 0 (fun _ => true) true n f.type [u] = some y := by
  obtain ⟨cs, rfl, hsz⟩ := okWide_struct hs hv
  rw [hC] at hsz
  obtain ⟨fuel, hf⟩ := h
  obtain ⟨xs, n, _, _, _, hlen, hg⟩ := DataW.trod_struct hs hf
  refine ⟨cs, rfl, hsz, fun j f hj => ?_⟩
  obtain ⟨ho, hk⟩ := hone_of hone j f hj
  have hjl : j < fs.size := (Array.getElem?_eq_some_iff.1 hj).1
  have hjc : j < cs.size := by omega
  have h1 := hg j f hj
  rw [ho, hk] at h1
  have e : ((Value.agg cs).cells.toList.drop j).take 1 = [cs[j]] := by
    have e0 : (Value.agg cs).cells.toList = cs.toList := rfl
    rw [e0, List.drop_eq_getElem_cons (by simpa using hjc)]
    simp
  rw [e] at h1
  exact ⟨cs[j], n, xs[j]'(by omega), Array.getElem?_eq_getElem hjc, h1.trans (List.getElem?_eq_getElem (by omega))⟩

/-- A slice of structs of k integers each reads as f. -/
def SeenN (k : Nat) (w : World) (A : Option Addr) (n : Nat) (f : Nat → Nat → Int) : Prop :=
  ∀ i, i < n → ∀ j, j < k → ∃ ad, A = some ad ∧ ad.block < w.heap.size ∧ w.cell? (ad.add (i * k + j)) = some (.int .i64 (f i j))
theorem SeenN.ext {k : Nat} {w w' : World} {A : Option Addr} {n : Nat} {f : Nat → Nat → Int} (h : SeenN k w A n f) (x : Ext w w') : SeenN k w' A n f := fun i hi j hj => by
  obtain ⟨ad, e, hb, hc⟩ := h i hi j hj
  exact ⟨ad, e, x.grows _ hb, x.at hc⟩
theorem SeenN.nil {k : Nat} {w : World} {A : Option Addr} {f : Nat → Nat → Int} : SeenN k w A 0 f := fun i hi => absurd hi (by omega)
theorem SeenN.congr {k : Nat} {w : World} {A : Option Addr} {n : Nat} {f g : Nat → Nat → Int} (h : SeenN k w A n f) (e : ∀ i, i < n → ∀ j, j < k → f i j = g i j) : SeenN k w A n g := fun i hi j hj => by rw [← e i hi j hj]; exact h i hi j hj

/-- A field that is a slice of integers. -/
theorem field_ints {t e : TypeId} {fuel : Nat} {v : Value} {y : DataW H × List MemPlace} (ht : P.underlying t = some (.slice e)) (he : P.underlying e = some (.int .i64)) (hc : P.cellsOf e = 1)
    (h : DataW.trod enc P W 0 (fun _ => true) true fuel t [v] = some y) :
    ∃ (A : Option Addr) (n c : Nat) (f : Nat → Int), v = .slice A n c ∧ n ≤ c ∧ c ≤ maxLen ∧ (∀ j, -9223372036854775808 ≤ f j ∧ f j ≤ 9223372036854775807) ∧ SeenF W A n f := by
  rcases open_ints ht he hc h with ⟨hcs, _⟩ | ⟨a, n, c, zs, hcs, _, hl, hm, hz, _, hcell, hw⟩
  · simp only [List.cons.injEq, and_true] at hcs
    exact ⟨none, 0, 0, fun _ => 0, hcs, by simp, by simp, fun _ => by simp, SeenF.none⟩
  · simp only [List.cons.injEq, and_true] at hcs
    simp at hz
    refine ⟨some a, n, c, fun j => zs.getD j 0, hcs, hl, hm, fun j => ?_, fun j hj => ?_⟩
    · by_cases hj : j < zs.length
      · have := hw zs[j] (List.getElem_mem hj)
        simp only [Lit.wf, IntKind.min, IntKind.max, IntKind.signed, IntKind.bits, Bool.and_eq_true, decide_eq_true_eq, if_true] at this
        simp [List.getD, hj]
        omega
      · simp [List.getD, List.getElem?_eq_none (Nat.not_lt.1 hj)]
    · have h1 := hcell j (by omega)
      refine ⟨a, rfl, ?_, h1⟩
      have := block_lt_of_cell h1
      rwa [addr_block] at this

/-- What a cell holds as a number. -/
def numAt (w : World) (a : Addr) : Int := match w.cell? a with
  | some (.int _ n) => n
  | _ => 0

/-- A field, or an argument, that is a slice of structs of integers. -/
theorem field_rows {t e : TypeId} {fs : Array Field} {fuel : Nat} {v : Value} {y : DataW H × List MemPlace} (ht : P.underlying t = some (.slice e)) (he : P.underlying e = some (.struct fs))
    (hone : oneCellFields P fs = true) (hC : P.cellsOf e = fs.size) (hint : ∀ (j : Nat) (f : Field), fs[j]? = some f → P.underlying f.type = some (.int .i64))
    (h : DataW.trod enc P W 0 (fun _ => true) true fuel t [v] = some y) :
    ∃ (A : Option Addr) (n c : Nat) (f : Nat → Nat → Int), v = .slice A n c ∧ n ≤ c ∧ c ≤ maxLen ∧ (∀ i j, i < n → j < fs.size → -9223372036854775808 ≤ f i j ∧ f i j ≤ 9223372036854775807) ∧ SeenN fs.size W A n f := by
  rcases open_slice ht h with ⟨hcs, _⟩ | ⟨a, n, c, m, q, D, Pl, hcs, _, hl, hm, hmm, _, hi⟩
  · simp only [List.cons.injEq, and_true] at hcs
    exact ⟨none, 0, 0, fun _ _ => 0, hcs, by simp, by simp, fun _ _ h => absurd h (by omega), SeenN.nil⟩
  · simp only [List.cons.injEq, and_true] at hcs
    simp at hmm
    have each : ∀ i, i < n → ∀ j, j < fs.size → ∃ z, W.cell? (a.add (i * fs.size + j)) = some (.int .i64 z) ∧ (Lit.int .i64 z).wf = true := fun i hin j hj => by
      obtain ⟨cs', hc, ht'⟩ := hi i (by omega)
      rw [hC] at hc
      obtain ⟨_, hcl, hat⟩ := World.cells?_some hc
      obtain ⟨xs, q', _, _, _, hlen, hg⟩ := DataW.trod_struct he ht'
      have hf := Array.getElem?_eq_getElem hj
      obtain ⟨ho, hk⟩ := hone_of hone j _ hf
      have h1 := hg j _ hf
      rw [ho, hk, List.drop_eq_getElem_cons (by omega), List.take_succ_cons, List.take_zero, List.getElem?_eq_getElem (by omega)] at h1
      obtain ⟨z, e1, _, wz⟩ := DataW.trod_int (hint j _ hf) h1
      simp only [List.cons.injEq, and_true] at e1
      have h2 := hat j hj
      rw [Go.Deep.add_add, List.getElem?_eq_getElem (by omega), e1] at h2
      exact ⟨z, h2, wz⟩
    refine ⟨some a, n, c, fun i j => numAt W (a.add (i * fs.size + j)), hcs, hl, hm, fun i j hin hj => ?_, fun i hin j hj => ?_⟩
    · obtain ⟨z, hz, wz⟩ := each i hin j hj
      simp only [Lit.wf, IntKind.min, IntKind.max, IntKind.signed, IntKind.bits, Bool.and_eq_true, decide_eq_true_eq, if_true] at wz
      simp [numAt, hz]
      omega
    · obtain ⟨z, hz, _⟩ := each i hin j hj
      refine ⟨a, rfl, ?_, by rw [hz]; simp [numAt, hz]⟩
      have := block_lt_of_cell hz
      rwa [addr_block] at this
end
end Go.Proofs.YtmmgmcfhlhghoaaGreatDoor

namespace Go.Proofs.YtmmgmcfhlhghoaaGreatDoor
open Go.ChangeShapes Go.WideShapes Go.ChangeAt Go.RowKit Go.Deep

/-- A text with numbers: a pattern, or an exception; and where the numbers lie. -/
structure WP where
  s : ByteArray
  ns : List Int
  A : Option Addr
  c : Nat
structure WP.Ok (x : WP) : Prop where
  room : x.ns.length ≤ x.c
  most : x.c ≤ maxLen
  size : x.s.size ≤ maxLen
  wide : ∀ n ∈ x.ns, -9223372036854775808 ≤ n ∧ n ≤ 9223372036854775807
/-- The value. -/
def wpV (x : WP) : Value := .agg #[.string x.s, .slice x.A x.ns.length x.c]
/-- Numbers that are seen. -/
def SeenL (w : World) (A : Option Addr) (l : List Int) : Prop := Seen w.heap.size w A (l.map (.int .i64))
theorem SeenL.ext {w w' : World} {A : Option Addr} {l : List Int} (h : SeenL w A l) (x : Ext w w') : SeenL w' A l := Seen.ext h x
theorem SeenL.nil {w : World} {A : Option Addr} : SeenL w A [] := Seen.nil
theorem SeenL.get {w : World} {A : Option Addr} {l : List Int} (h : SeenL w A l) {k : Nat} (hk : k < l.length) : ∃ ad, A = some ad ∧ w.cell? (ad.add k) = some (.int .i64 (l.getD k 0)) := by
  obtain ⟨ad, e, _, hc⟩ := Seen.get h (k := k) (by simpa using hk)
  exact ⟨ad, e, by rw [hc]; simp [List.getD, hk]⟩
theorem SeenL.fn {w : World} {A : Option Addr} {l : List Int} (h : SeenL w A l) : SeenF w A l.length (fun j => l.getD j 0) := Seen.fn h
/-- A list of them. -/
def SeenW (w : World) (A : Option Addr) (l : List WP) : Prop :=
  ∀ i x, l[i]? = some x → (∃ ad, A = some ad ∧ ad.block < w.heap.size ∧ w.cell? (ad.add (i * 2)) = some (.string x.s) ∧ w.cell? (ad.add (i * 2 + 1)) = some (.slice x.A x.ns.length x.c)) ∧ SeenL w x.A x.ns
theorem SeenW.ext {w w' : World} {A : Option Addr} {l : List WP} (h : SeenW w A l) (x : Ext w w') : SeenW w' A l := fun i y hy => by
  obtain ⟨⟨ad, e, hb, h0, h1⟩, h2⟩ := h i y hy
  exact ⟨⟨ad, e, x.grows _ hb, x.at h0, x.at h1⟩, h2.ext x⟩
theorem SeenW.nil {w : World} {A : Option Addr} : SeenW w A [] := fun i x h => by simp at h
theorem SeenW.get {w : World} {A : Option Addr} {l : List WP} (h : SeenW w A l) {k : Nat} (hk : k < l.length) :
    (∃ ad, A = some ad ∧ w.cell? (ad.add (k * 2)) = some (.string l[k].s) ∧ w.cell? ⟨(ad.add (k * 2)).block, (ad.add (k * 2)).off + 1, none⟩ = some (.slice l[k].A l[k].ns.length l[k].c)) ∧ SeenL w l[k].A l[k].ns := by
  obtain ⟨⟨ad, e, _, h0, h1⟩, h2⟩ := h k l[k] (List.getElem?_eq_getElem hk)
  rw [← addr_add] at h1
  exact ⟨⟨ad, e, h0, h1⟩, h2⟩
/-- The cells of one's own list. -/
def flatW (l : List WP) : List Value := l.flatMap fun x => [.string x.s, .slice x.A x.ns.length x.c]
theorem flatW_snoc (l : List WP) (x : WP) : flatW (l ++ [x]) = flatW l ++ [.string x.s, .slice x.A x.ns.length x.c] := by simp [flatW]
theorem flatW_append (l m : List WP) : flatW (l ++ m) = flatW l ++ flatW m := by simp [flatW]
theorem flatW_length (l : List WP) : (flatW l).length = l.length * 2 := by
  induction l with
  | nil => rfl
  | cons x r ih => simp only [flatW, List.flatMap_cons, List.length_append, List.length_cons] at *; simp [ih]; omega
theorem flatW_get : ∀ (l : List WP) (i : Nat) (x : WP), l[i]? = some x → (flatW l)[i * 2]? = some (.string x.s) ∧ (flatW l)[i * 2 + 1]? = some (.slice x.A x.ns.length x.c)
  | [], i, x, h => by simp at h
  | y :: r, 0, x, h => by simp at h; subst h; simp [flatW]
  | y :: r, i + 1, x, h => by
    have := flatW_get r i x (by simpa using h)
    have e : flatW (y :: r) = .string y.s :: .slice y.A y.ns.length y.c :: flatW r := rfl
    rw [e, show (i + 1) * 2 = i * 2 + 1 + 1 by omega]
    simpa using this
theorem flatW_one (l : List WP) : ∀ v ∈ flatW l, v.oneCell' = true := by
  intro v hv
  simp only [flatW, List.mem_flatMap, List.mem_cons, List.not_mem_nil, or_false] at hv
  obtain ⟨x, _, rfl | rfl⟩ := hv <;> rfl
theorem seenW_of {w : World} {A : Option Addr} {l : List WP} (h : Seen w.heap.size w A (flatW l)) (hi : ∀ x ∈ l, SeenL w x.A x.ns) : SeenW w A l := fun i x hx => by
  obtain ⟨g0, g1⟩ := flatW_get l i x hx
  obtain ⟨ad, rfl, hb, h0⟩ := h _ _ g0
  obtain ⟨ad', e, _, h1⟩ := h _ _ g1
  cases e
  exact ⟨⟨ad, rfl, hb, h0, h1⟩, hi x (List.mem_of_getElem? hx)⟩
theorem SeenW.flat {w : World} {A : Option Addr} {l : List WP} (h : SeenW w A l) : Seen w.heap.size w A (flatW l) := fun k v hv => by
  have hk : k < l.length * 2 := by have := (List.getElem?_eq_some_iff.1 hv).1; rwa [flatW_length] at this
  have hi : k / 2 < l.length := by omega
  obtain ⟨⟨ad, e, hb, h0, h1⟩, _⟩ := h (k / 2) _ (List.getElem?_eq_getElem hi)
  obtain ⟨g0, g1⟩ := flatW_get l (k / 2) _ (List.getElem?_eq_getElem hi)
  refine ⟨ad, e, hb, ?_⟩
  rcases Nat.mod_two_eq_zero_or_one k with hm | hm
  · rw [show k / 2 * 2 = k by omega] at g0 h0
    rw [h0, ← hv, g0]
  · rw [show k / 2 * 2 + 1 = k by omega] at g1 h1
    rw [h1, ← hv, g1]
theorem SeenW.inner {w : World} {A : Option Addr} {l : List WP} (h : SeenW w A l) : ∀ x ∈ l, SeenL w x.A x.ns := fun x hx => by
  obtain ⟨i, hi⟩ := List.getElem?_of_mem hx
  exact (h i x hi).2
/-- Patterns: two lists. -/
structure PatsD where
  l : List WP
  m : List WP
structure PatsP where
  x : Option Addr
  c : Nat
  y : Option Addr
  d : Nat
def patsV (D : PatsD) (P : PatsP) : Value := .agg #[.slice P.x D.l.length P.c, .slice P.y D.m.length P.d]
structure PatsOk (D : PatsD) (P : PatsP) : Prop where
  l : D.l.length ≤ P.c ∧ P.c ≤ maxLen
  m : D.m.length ≤ P.d ∧ P.d ≤ maxLen
  li : ∀ x ∈ D.l, x.Ok
  mi : ∀ x ∈ D.m, x.Ok
structure SeenPats (w : World) (D : PatsD) (P : PatsP) : Prop where
  l : SeenW w P.x D.l
  m : SeenW w P.y D.m
theorem SeenPats.ext {w w' : World} {D : PatsD} {P : PatsP} (h : SeenPats w D P) (x : Ext w w') : SeenPats w' D P := ⟨h.l.ext x, h.m.ext x⟩

section
variable {H : Type} {enc : TypeId × Value → H} {P : Program} {W : World} {base : Nat}
theorem field_intsL {t e : TypeId} {fuel : Nat} {v : Value} {y : DataW H × List MemPlace} (ht : P.underlying t = some (.slice e)) (he : P.underlying e = some (.int .i64)) (hc : P.cellsOf e = 1)
    (h : DataW.trod enc P W 0 (fun _ => true) true fuel t [v] = some y) :
    ∃ (A : Option Addr) (l : List Int) (c : Nat), v = .slice A l.length c ∧ l.length ≤ c ∧ c ≤ maxLen ∧ (∀ n ∈ l, -9223372036854775808 ≤ n ∧ n ≤ 9223372036854775807) ∧ SeenL W A l := by
  obtain ⟨A, n, c, f, rfl, h1, h2, h3, h4⟩ := field_ints ht he hc h
  refine ⟨A, (List.range n).map f, c, by simp, by simpa using h1, h2, fun z hz => ?_, fun k v hv => ?_⟩
  · simp only [List.mem_map] at hz
    obtain ⟨j, _, rfl⟩ := hz
    exact h3 j
  · simp only [List.map_map, List.getElem?_map, Option.map_eq_some_iff] at hv
    obtain ⟨j, hj, rfl⟩ := hv
    obtain ⟨h5, rfl⟩ := List.getElem?_eq_some_iff.1 hj
    simp only [List.length_range] at h5
    simp only [List.getElem_range, Function.comp]
    exact h4 k h5
theorem field_texts {t e : TypeId} {f0 f1 : Field} {ei : TypeId} {fuel : Nat} {v : Value} {y : DataW H × List MemPlace} (ht : P.underlying t = some (.slice e)) (he : P.underlying e = some (.struct #[f0, f1])) (ce : P.cellsOf e = 2) (o0 : f0.offset = 0) (o1 : f1.offset = 1)
    (c0 : P.cellsOf f0.type = 1) (c1 : P.cellsOf f1.type = 1) (hs : P.underlying f0.type = some .string) (hi : P.underlying f1.type = some (.slice ei)) (hei : P.underlying ei = some (.int .i64)) (cei : P.cellsOf ei = 1)
    (h : DataW.trod enc P W 0 (fun _ => true) true fuel t [v] = some y) :
    ∃ (A : Option Addr) (l : List WP) (c : Nat), v = .slice A l.length c ∧ l.length ≤ c ∧ c ≤ maxLen ∧ (∀ x ∈ l, x.Ok) ∧ SeenW W A l := by
  rcases open_slice_pairs ht he ce o0 o1 c0 c1 h with ⟨hcs, _⟩ | ⟨a, n, c, m, q, V0, V1, D0, D1, P0, P1, hcs, _, hl, hm, hmm, _, hx⟩
  · simp only [List.cons.injEq, and_true] at hcs
    exact ⟨none, [], 0, hcs, by simp, by simp, fun x h => by simp at h, SeenW.nil⟩
  · simp only [List.cons.injEq, and_true] at hcs
    simp at hmm
    have each : ∀ i : Fin n, ∃ x : WP, x.Ok ∧ W.cell? (a.add (i.1 * 2)) = some (.string x.s) ∧ W.cell? (a.add (i.1 * 2 + 1)) = some (.slice x.A x.ns.length x.c) ∧ SeenL W x.A x.ns := fun i => by
      obtain ⟨h0, h1, t0, t1⟩ := hx i.1 (by omega)
      obtain ⟨s, e0, _, hsz⟩ := DataW.trod_string hs t0
      simp only [List.cons.injEq, and_true] at e0
      obtain ⟨A', l', c', e1, g1, g2, g3, g4⟩ := field_intsL hi hei cei t1
      exact ⟨⟨s, l', A', c'⟩, ⟨g1, g2, hsz, g3⟩, by rw [h0, e0], by rw [h1, e1], g4⟩
    refine ⟨some a, List.ofFn fun i => Classical.choose (each i), c, by rw [List.length_ofFn]; exact hcs, by simpa using hl, hm, fun x hx => ?_, fun i x hx => ?_⟩
    · rw [List.mem_ofFn] at hx
      obtain ⟨i, rfl⟩ := hx
      exact (Classical.choose_spec (each i)).1
    · obtain ⟨hi', rfl⟩ := List.getElem?_eq_some_iff.1 hx
      simp only [List.length_ofFn] at hi'
      simp only [List.getElem_ofFn]
      obtain ⟨_, h0, h1, h2⟩ := Classical.choose_spec (each ⟨i, hi'⟩)
      refine ⟨⟨a, rfl, ?_, h0, h1⟩, h2⟩
      have := block_lt_of_cell h0
      rwa [addr_block] at this
end

theorem two_cells {cs : Array Value} {u0 u1 : Value} (h : cs.size = 2) (h0 : cs[0]? = some u0) (h1 : cs[1]? = some u1) : cs = #[u0, u1] := by
  obtain ⟨l⟩ := cs
  match l, h with
  | [a0, a1], _ =>
    simp at h0 h1
    subst h0 h1
    rfl

set_option maxRecDepth 100000 in
/-- Patterns by value. -/
theorem arg_pats {H : Type} {enc : TypeId × Value → H} {W : World} {base : Nat} {v : Value} {d : DataW H} {p : List MemPlace}
    (hv : Value.okWide Tryz.prog W .any base 25 v) (h : DataW.Trod enc Tryz.prog W 0 (fun _ => true) true 25 v d p) :
    ∃ (D : PatsD) (P : PatsP), v = patsV D P ∧ PatsOk D P ∧ SeenPats W D P := by
  obtain ⟨cs, rfl, hsz, hf⟩ := arg_fields Tryz.underlying25 (by kernel_rfl) (by kernel_rfl) hv h
  obtain ⟨u0, n0, y0, c0, t0⟩ := hf 0 _ rfl
  obtain ⟨u1, n1, y1, c1, t1⟩ := hf 1 _ rfl
  obtain rfl := two_cells hsz c0 c1
  obtain ⟨A, l, c, rfl, g1, g2, g3, g4⟩ := field_texts (ei := 3) Tryz.underlying22 Tryz.underlying56 (by kernel_rfl) rfl rfl (by kernel_rfl) (by kernel_rfl) Tryz.underlying9 Tryz.underlying48 Tryz.underlying3 (by kernel_rfl) t0
  obtain ⟨B, m, d, rfl, k1, k2, k3, k4⟩ := field_texts (ei := 3) Tryz.underlying23 Tryz.underlying58 (by kernel_rfl) rfl rfl (by kernel_rfl) (by kernel_rfl) Tryz.underlying9 Tryz.underlying48 Tryz.underlying3 (by kernel_rfl) t1
  exact ⟨⟨l, m⟩, ⟨A, c, B, d⟩, rfl, ⟨⟨g1, g2⟩, ⟨k1, k2⟩, g3, k3⟩, ⟨g4, k4⟩⟩
end Go.Proofs.YtmmgmcfhlhghoaaGreatDoor

