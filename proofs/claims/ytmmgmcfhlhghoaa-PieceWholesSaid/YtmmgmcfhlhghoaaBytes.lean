/- Bytes: a slice of bytes that reads as a list of bytes, and blocks that are known whole. Any program. -/
import Derived.Test.YtmmgmcfhlhghoaaSlices
import Derived.Laws.BytesArg
import Derived.OpenShut
import Derived.Laws.IdiomStrings
import Derived.Laws.CopyOwn
namespace Go.Proofs.Ytmmgmcfhlhghoaa
open Go.ChangeShapes Go.WideShapes Go.ChangeAt Go.RowKit

/-- Bytes as a slice's cells. -/
def bv (l : List UInt8) : List Value := l.map fun b => .int .u8 (b.toNat : Int)
theorem bv_length (l : List UInt8) : (bv l).length = l.length := by simp [bv]
theorem bv_append (l m : List UInt8) : bv (l ++ m) = bv l ++ bv m := by simp [bv]
theorem bv_one (l : List UInt8) : ∀ v ∈ bv l, v.oneCell' = true := by
  intro v hv; simp only [bv, List.mem_map] at hv; obtain ⟨b, _, rfl⟩ := hv; rfl
theorem bv_at {l : List UInt8} {k : Nat} (hk : k < l.length) : (bv l)[k]? = some (.int .u8 (l[k].toNat : Int)) := by simp [bv, hk]

/-- The slice from A on reads as these bytes. -/
def SeenB (w : World) (A : Option Addr) (l : List UInt8) : Prop := Seen w.heap.size w A (bv l)
theorem SeenB.ext {w w' : World} {A : Option Addr} {l : List UInt8} (h : SeenB w A l) (x : Ext w w') : SeenB w' A l := Seen.ext h x
theorem SeenB.nil {w : World} {A : Option Addr} : SeenB w A [] := Seen.nil
theorem SeenB.get {w : World} {A : Option Addr} {l : List UInt8} (h : SeenB w A l) {k : Nat} (hk : k < l.length) :
    ∃ ad, A = some ad ∧ ad.block < w.heap.size ∧ w.cell? (ad.add k) = some (.int .u8 (l[k].toNat : Int)) := h k _ (bv_at hk)
/-- The address behind a cut. -/
def cutA (A : Option Addr) (k cap : Nat) : Option Addr := if cap = k then A else A.map (·.add k)
theorem SeenB.cut {w : World} {A : Option Addr} {l : List UInt8} (h : SeenB w A l) {k cap : Nat} (hk : k ≤ l.length) (hc : l.length ≤ cap) : SeenB w (cutA A k cap) (l.drop k) := by
  intro j v hv
  have hj : k + j < l.length := by
    have := (List.getElem?_eq_some_iff.1 hv).1
    simp [bv] at this; omega
  obtain ⟨ad, rfl, hb, hcell⟩ := h.get hj
  unfold cutA
  rw [if_neg (by omega)]
  refine ⟨ad.add k, rfl, by rw [addr_block]; exact hb, ?_⟩
  rw [addr_add, hcell]
  have : (bv (l.drop k))[j]? = (bv l)[k + j]? := by simp [bv]
  rw [this, bv_at hj] at hv
  exact hv
theorem SeenB.take {w : World} {A : Option Addr} {l : List UInt8} (h : SeenB w A l) (k : Nat) : SeenB w A (l.take k) := by
  intro j v hv
  have hj : j < (l.take k).length := by
    have := (List.getElem?_eq_some_iff.1 hv).1
    simpa [bv] using this
  have hj' : j < l.length := by simp at hj; omega
  have : (bv (l.take k))[j]? = (bv l)[j]? := by rw [bv_at hj, bv_at hj']; simp
  exact h j v (by rw [← this]; exact hv)

theorem SeenB.head {w : World} {A : Option Addr} {l m : List UInt8} (h : SeenB w A (l ++ m)) : SeenB w A l := by
  have := h.take l.length
  rwa [List.take_left] at this

/-- string(b). -/
theorem SeenB.str {P : Program} {w : World} {A : Option Addr} {l : List UInt8} (h : SeenB w A l) (src dst e : TypeId) (c n : Nat) (hs : P.underlying src = some (.slice e)) (he : P.underlying e = some (.int .u8)) (hd : P.underlying dst = some .string) (hn : n = l.length) :
    (convert src dst (.slice A n c)).run P w = .ok (.string ⟨l.toArray⟩) w := by
  subst hn
  rcases A with _ | ad
  · have hl : l = [] := by
      rcases l with _ | ⟨b, l⟩
      · rfl
      · obtain ⟨_, e, _⟩ := h.get (k := 0) (by simp); cases e
    subst hl
    have := run_convert_bytes_nil (w := w) src e hs he 0 c dst hd
    exact this
  · refine run_convert_bytes_back w src dst e ad c l hs he hd fun j hj => ?_
    obtain ⟨ad', e, _, hc⟩ := h.get hj
    obtain rfl : ad = ad' := by simpa using e
    exact hc

/-- A slice of bytes that came in. -/
theorem seen_bytes {H : Type} {enc : TypeId × Value → H} {P : Program} {W : World} {base : Nat} {t e : TypeId} {v : Value} {d : DataW H} {p : List MemPlace}
    (ht : P.underlying t = some (.slice e)) (he : P.underlying e = some (.int .u8)) (hc : P.cellsOf e = 1)
    (hv : Value.okWide P W .any base t v) (h : DataW.Trod enc P W 0 (fun _ => true) true t v d p) :
    ∃ (A : Option Addr) (l : List UInt8) (c : Nat), v = .slice A l.length c ∧ l.length ≤ c ∧ c ≤ maxLen ∧ SeenB W A l := by
  obtain ⟨A, l, c, hv, h1, h2, hw, hs⟩ := seen_ints ht he hc hv h
  refine ⟨A, l.map fun n => UInt8.ofNat n.toNat, c, by simpa using hv, by simpa using h1, h2, ?_⟩
  have e : bv (l.map fun n => UInt8.ofNat n.toNat) = l.map (.int .u8) := by
    unfold bv
    rw [List.map_map]
    apply List.map_congr_left
    intro n hn
    have := bounds_u8 (hw n hn)
    simp
    omega
  unfold SeenB
  rw [e]
  exact hs

/-- Block g is just these cells, none of them frozen. -/
def Blk (w : World) (g : Nat) (t : TypeId) (cs : List Value) : Prop := w.heap[g]? = some (.cells cs.toArray t (0, 0))
theorem Blk.lt {w : World} {g : Nat} {t : TypeId} {cs : List Value} (h : Blk w g t cs) : g < w.heap.size := by
  rcases Nat.lt_or_ge g w.heap.size with hlt | hge
  · exact hlt
  · unfold Blk at h; rw [Array.getElem?_eq_none hge] at h; cases h
theorem Blk.cell {w : World} {g : Nat} {t : TypeId} {cs : List Value} (h : Blk w g t cs) (i : Nat) : w.cell? ⟨g, i, none⟩ = cs[i]? := by
  unfold Blk at h; simp [World.cell?, h]
theorem Blk.free {w : World} {g : Nat} {t : TypeId} {cs : List Value} (h : Blk w g t cs) (i : Nat) : w.frozen? ⟨g, i, none⟩ = false := by
  unfold Blk at h; simp [World.frozen?, h]
theorem Blk.ext {w w' : World} {g : Nat} {t : TypeId} {cs : List Value} (h : Blk w g t cs) (x : Ext w w') : Blk w' g t cs := (x.block g h.lt).trans h
theorem Blk.new (w : World) (t : TypeId) (cs : Array Value) : Blk (w.alloc (.cells cs t)) w.heap.size t cs.toList := by
  unfold Blk
  show (w.heap.push (.cells cs t))[w.heap.size]? = _
  simp
theorem Blk.set {w : World} {g : Nat} {t : TypeId} {cs : List Value} (h : Blk w g t cs) (i : Nat) (u : Value) : Blk (w.setCell ⟨g, i, none⟩ u) g t (cs.set i u) := by
  unfold Blk at h ⊢
  simp [World.setCell, Array.getElem?_modify, h]
theorem Blk.far {w : World} {g : Nat} {t : TypeId} {cs : List Value} (h : Blk w g t cs) {p : Addr} (hp : p.block ≠ g) (u : Value) : Blk (w.setCell p u) g t cs := by
  unfold Blk at h ⊢
  simp [World.setCell, Array.getElem?_modify, h, hp]
theorem Blk.seen {w : World} {g : Nat} {t : TypeId} {l : List UInt8} {cs : List Value} (h : Blk w g t cs) (e : cs = bv l) : SeenB w (some ⟨g, 0, none⟩) l := by
  subst e
  intro j v hv
  refine ⟨_, rfl, h.lt, ?_⟩
  have : ((⟨g, 0, none⟩ : Addr).add j) = ⟨g, j, none⟩ := by unfold Addr.add; by_cases h : j = 0 <;> simp [h]
  rw [this, h.cell]
  exact hv
/-- make([]byte, n). -/
theorem make_bytes (P : Program) (t e : TypeId) (n : Nat) (ht : P.underlying t = some (.slice e)) (hz : (P.info? e).map (fun i => (i.zero, i.size, i.bytes)) = some (some (.int .u8 0), 1, 1)) (hn : n ≤ 1000000) :
    ∃ cs : Array Value, (∀ w, (Instr.makeSlice t (.int .i64 n) (.int .i64 n)).run P w = .ok (.slice (some ⟨w.heap.size, 0, none⟩) n n) (w.alloc (.cells cs e))) ∧ cs.toList = bv (List.replicate n 0) := by
  obtain ⟨i, h1, h2, h3, h4⟩ := info_parts hz
  refine ⟨_, fun w => run_make w t e i _ ht h1 h2 .i64 .i64 n n (by omega) (Int.le_refl _) (by rw [h4]; omega) (by omega), ?_⟩
  simp only [h3, Nat.mul_one, madeCells, Value.cells]
  apply List.ext_getElem
  · simp [bv]
  · intro j h1 h2
    simp [bv, Nat.mod_one]

/-- One's own bytes, to which more can be put: made since w0. -/
def OwnB (t : TypeId) (w0 w : World) (v : Value) (l : List UInt8) : Prop := w.ownsRow w0.heap.size t 1 v l.length (bv l) ∧ Ext w0 w
theorem OwnB.seen {t : TypeId} {w0 w : World} {v : Value} {l : List UInt8} (h : OwnB t w0 w v l) : ∃ A c, v = .slice A l.length c ∧ l.length ≤ c ∧ SeenB w A l := by
  obtain ⟨A, c, hv, hs⟩ := own_seen h.1
  refine ⟨A, c, hv, ?_, hs⟩
  rcases h.1.2 with ⟨e, h0⟩ | ⟨g, cap, cur, e, _, _, hc, _⟩
  · omega
  · rw [e] at hv; injection hv with _ _ h3; omega
theorem OwnB.nil (t : TypeId) (w0 w : World) (x : Ext w0 w) : OwnB t w0 w (.slice none 0 0) [] := ⟨World.ownsRow_nil _ _ _ _, x⟩
theorem OwnsRow.ext {w w' : World} {base : Nat} {e : TypeId} {size n : Nat} {v : Value} {xs : List Value} (h : w.ownsRow base e size v n xs) (x : Ext w w') : w'.ownsRow base e size v n xs := by
  refine ⟨h.1, ?_⟩
  rcases h.2 with hn | ⟨g, cap, cur, rfl, hb, hgg, rest⟩
  · exact .inl hn
  · exact .inr ⟨g, cap, cur, rfl, hb, (x.block g (Array.getElem?_eq_some_iff.1 hgg).1).trans hgg, rest⟩
/-- []byte{..}. -/
theorem OwnB.lit (t : TypeId) (w0 w : World) (l : List UInt8) (cs : Array Value) (n : Nat) (hc : cs = (bv l).toArray) (hn : n = l.length) (hm : l.length ≤ 1000000) (x : Ext w0 w) :
    OwnB t w0 (w.alloc (.cells cs t)) (.slice (some ⟨w.heap.size, 0, none⟩) n n) l := by
  subst hc hn
  have := World.ownsRow_lit (base := w0.heap.size) (e := t) (size := 1) w (bv l).toArray l.length x.size (by unfold maxLen; omega) (by simp [bv])
  exact ⟨by simpa using this, x.alloc _⟩
theorem OwnB.over {t : TypeId} {w0 w w' : World} {v : Value} {l : List UInt8} (h : OwnB t w0 w v l) (x : Ext w w') : OwnB t w0 w' v l := ⟨OwnsRow.ext h.1 x, h.2.trans x⟩
/-- append(own, more...). -/
theorem run_putB {P : Program} {w w0 : World} (t ty e : TypeId) (ht : P.underlying t = some (.slice e)) (hz : (P.info? e).map (fun i => (i.zero, i.size, i.bytes)) = some (some (.int .u8 0), 1, 1))
    {v : Value} {m : List UInt8} (h : OwnB e w0 w v m) (A : Option Addr) (l : List UInt8) (n c : Nat) (hx : SeenB w A l) (hn : n = l.length) (hm : m.length + l.length ≤ 1000000) :
    ∃ v' w', (Builtin.append_ #[t, t] ty #[v, .slice A n c]).run P w = .ok v' w' ∧ OwnB e w0 w' v' (m ++ l) ∧ w.grownBy w' v.ownBlock := by
  subst hn
  obtain ⟨i, hi, hz0, hsz, hby⟩ := info_parts hz
  obtain ⟨hown, hx0⟩ := h
  have hrow : ∀ k, v.ownBlock = some k → w0.heap.size ≤ k := fun k hk => (hown.lt k hk).1
  rcases A with _ | ad
  · have hl : l = [] := by
      rcases l with _ | ⟨b, l⟩
      · rfl
      · obtain ⟨_, e, _⟩ := hx.get (k := 0) (by simp); cases e
    subst hl
    refine ⟨v, w, ?_, by simpa using ⟨hown, hx0⟩, World.grownBy.refl w _⟩
    rcases hown.2 with ⟨rfl, _⟩ | ⟨g, cap, cur, rfl, _, _, hnc, _⟩
    · simp [Builtin.append_, run_underlying ht, sizeOf, typeInfo, hi, Builtin.lenOf, Builtin.firstCells]
    · simp [Builtin.append_, run_underlying ht, sizeOf, typeInfo, hi, Builtin.lenOf, Builtin.firstCells, hnc, storeCells]
  · obtain ⟨v', w', hrun, h2, h3, _, _⟩ := run_append_own_at (P := P) w w0.heap.size t ty e i (.int .u8 0) 1 1 ht hi hz0 hsz hby rfl (by omega) v m.length (bv m) hown ad l.length c (bv l) (by simp [bv])
      (fun j u hu => by
        obtain ⟨ad', e, _, hc⟩ := hx j u hu
        obtain rfl : ad = ad' := by simpa using e
        exact hc) (bv_one l) (by unfold maxLen; omega) (by omega) hx0.size
    refine ⟨v', w', hrun, ⟨?_, Below.grown hx0 h3 hx0.size hrow⟩, h3⟩
    rw [List.length_append, bv_append]
    exact h2
/-- An append whose run is known. -/
theorem wpList_ran {P : Program} {w w' : World} {ops : Array Oper} {rest : List Oper} {o : Oper} {a : Act} {Q : Exit → Act → World → Prop} {t : TypeId} {v : Value} (hgd : o.guard = none) (s x : Operand)
    (ho : o.op = .call { callee := .builtin .append, args := #[s, x], argTypes := #[t, t] }) (hrun : (Builtin.append_ #[t, t] o.type #[a.eval s, a.eval x]).run P w = .ok v w')
    (h : wpList P ops Q rest (a.put o.dst v) w') : wpList P ops Q (o :: rest) a w := by
  refine wpList_plain hgd fun K hK => ?_
  unfold Oper.wp execOp
  simp only [ho, resolve, invoke, builtin, Sem.run_bind, Sem.run_pure, Result.andThen_ok, List.map_toArray, List.map_cons, List.map_nil, hrun]
  exact hK _ _ h
end Go.Proofs.Ytmmgmcfhlhghoaa

