/- The landed penalty, and the points' function; what the landed Breaks keeps between two breaks. -/
import Derived.Test.YtmmgmcfhlhghoaaGreatDoorItr16
import Derived.Test.YtmmgmcfhlhghoaaGreatDoorGE16
namespace Go.Proofs.YtmmgmcfhlhghoaaGreatDoor
open Go.RowKit
namespace L16
open L10 (TN tn)
open L11 (TrieAt)
open L13 (TW tw checkB)
open L14 (LayD LayOk layC mayL)

/-- An append whose run is known, within a fence. -/
theorem wpListIn_ran {F : Fence} {n : Nat} {P : Program} {w w' : World} {ops : Array Oper} {rest : List Oper} {o : Oper} {a : Act} {Q : Exit → Act → World → Prop} {t : TypeId} {v : Value} (hgd : o.guard = none) (s x : Operand)
    (ho : o.op = .call { callee := .builtin .append, args := #[s, x], argTypes := #[t, t] }) (hrun : (Builtin.append_ #[t, t] o.type #[a.eval s, a.eval x]).run P w = .ok v w')
    (h : wpListIn F n P ops Q rest (a.put o.dst v) w') : wpListIn F n P ops Q (o :: rest) a w := by
  refine wpListIn_plain hgd fun K hK => ?_
  unfold Oper.wpIn
  refine ⟨by simp [Oper.about, ho, resolve, Target.leads, Sem.run_pure], ?_⟩
  rw [Oper.semAt_plain F _ _ (by rw [ho]; intro c hc; cases hc)]
  simp only [execOp, ho, resolve, invoke, builtin, Sem.run_bind, Sem.run_pure, Result.andThen_ok, List.map_toArray, List.map_cons, List.map_nil, hrun]
  exact hK _ _ h

theorem results_ones {fn : Func} {p q : Nat} {t u : TypeId} (h : fn.results = #[.cell p t, .cell q u]) (tmps : Array Value) (W : World) (b c : Nat) (x v : Value) (hp : tmps[p]? = some (.pointer (some ⟨b, 0, none⟩))) (hq : tmps[q]? = some (.pointer (some ⟨c, 0, none⟩)))
    (hb : W.cell? ⟨b, 0, none⟩ = some x) (hc : W.cell? ⟨c, 0, none⟩ = some v) (ha : (isAgg t).run Tryz.prog W = .ok false W) (ha' : (isAgg u).run Tryz.prog W = .ok false W) :
    (results fn tmps).run Tryz.prog W = .ok (.tuple #[x, v]) W := by
  simp only [results, h]
  simp [go_sem, loadVar, loadCells, asAddr, hp, hq, hb, hc, ha, ha']
theorem row_cells {w : World} {base : Nat} {e : TypeId} {size n : Nat} {v : Value} {xs : List Value} (h : w.ownsRow base e size v n xs) (j : Nat) (o : Obj) (hj : v.ownBlock = some j) (ho : w.heap[j]? = some o) : o.isCells = true := by
  rcases h.2 with ⟨rfl, _⟩ | ⟨g, cap, cur, rfl, _, hg, _⟩
  · cases hj
  · cases hj
    rw [hg] at ho
    cases ho
    rfl
/-- One's own breaks beside the trie. -/
def OwnR (N : Nat) (w : World) (v : Value) (l : List Brk) : Prop := w.ownsRow N 43 3 v l.length (flatK l)
theorem OwnR.put {N : Nat} {w : World} {v : Value} {l : List Brk} (h : OwnR N w v l) (hN : N ≤ w.heap.size) (b : Brk) (hm : l.length + 1 ≤ 1000000) (ty : TypeId) :
    ∃ v' w', (Builtin.append_ #[35, 35] ty #[v, .slice (some ⟨w.heap.size, 0, none⟩) 1 1]).run Tryz.prog (w.alloc (.cells #[.int .i64 b.1, .int .i64 b.2.1, .int .i64 b.2.2] 43)) = .ok v' w' ∧ OwnR N w' v' (l ++ [b]) ∧
      (w.alloc (.cells #[.int .i64 b.1, .int .i64 b.2.1, .int .i64 b.2.2] 43)).grownBy w' v.ownBlock ∧ (v'.ownBlock = v.ownBlock ∨ v'.ownBlock = some (w.heap.size + 1)) := by
  obtain ⟨i, hi, hz0, hsz, hby⟩ := info_parts brk_info16
  have h1 := OwnsRow.ext h ((Ext.refl w).alloc (.cells #[.int .i64 b.1, .int .i64 b.2.1, .int .i64 b.2.2] 43))
  have hs := seenK_new w b
  obtain ⟨v', w', hr, ho, hg, _, hb⟩ := run_append_own_at (P := Tryz.prog) _ N 35 ty 43 i (.agg #[.int .i64 0, .int .i64 0, .int .i64 0]) 3 24 Tryz.underlying35 hi hz0 hsz hby rfl (by omega) v l.length (flatK l) h1 ⟨w.heap.size, 0, none⟩ 1 1 (flatK [b]) (flatK_length [b])
    (fun j u hu => by
      obtain ⟨ad', e, _, hc⟩ := hs j u hu
      cases e
      exact hc) (flatK_one [b]) (by unfold maxLen; omega) (by omega) (Nat.le_trans hN ((Ext.refl w).alloc (.cells #[.int .i64 b.1, .int .i64 b.2.1, .int .i64 b.2.2] 43)).size)
  refine ⟨v', w', hr, ?_, hg, by simpa using hb⟩
  unfold OwnR
  rw [List.length_append, flatK_append]
  exact ho
theorem OwnR.but {S : Nat → Prop} {N : Nat} {w w' : World} {v : Value} {l : List Brk} (h : OwnR N w v l) (x : But S w w') (hS : ∀ k, N ≤ k → v.ownBlock = some k → ¬ S k) : OwnR N w' v l := by
  refine ⟨h.1, ?_⟩
  rcases h.2 with hn | ⟨g, cap, cur, rfl, hb, hgg, rest⟩
  · exact .inl hn
  · exact .inr ⟨g, cap, cur, rfl, hb, (x.block g (Array.getElem?_eq_some_iff.1 hgg).1 (hS g hb rfl)).trans hgg, rest⟩

/-- One's own blocks: the loop's two, the results', the list's variable, and the list. -/
def ownK (D bR bE bV : Nat) (W : World) (k : Nat) : Prop := k = D ∨ k = D + 1 ∨ k = bR ∨ k = bE ∨ k = bV ∨ ∃ v, W.cell? ⟨bV, 0, none⟩ = some v ∧ v.ownBlock = some k
/-- What the rounds keep. -/
structure KpB (D bR bE bV : Nat) (W W' : World) : Prop where
  size : W.heap.size ≤ W'.heap.size
  block : ∀ b cs t f, ¬ ownK D bR bE bV W b → W.heap[b]? = some (.cells cs t f) → W'.heap[b]? = some (.cells cs t f)
  own : ∀ k, ownK D bR bE bV W' k → ownK D bR bE bV W k ∨ W.heap.size ≤ k
theorem KpB.trans {D bR bE bV : Nat} {a b c : World} (h : KpB D bR bE bV a b) (k : KpB D bR bE bV b c) : KpB D bR bE bV a c :=
  ⟨Nat.le_trans h.size k.size, fun i cs t f hi hc => k.block i cs t f (fun g => (h.own i g).elim hi fun l => by have := (Array.getElem?_eq_some_iff.1 hc).1; omega) (h.block i cs t f hi hc),
    fun i hi => (k.own i hi).elim (fun g => h.own i g) fun g => .inr (Nat.le_trans h.size g)⟩
theorem KpB.of_but {D bR bE bV : Nat} {W W' : World} (x : But (ownK D bR bE bV W) W W') (ho : ∀ k, ownK D bR bE bV W' k → ownK D bR bE bV W k ∨ W.heap.size ≤ k) : KpB D bR bE bV W W' :=
  ⟨x.size, fun b _ _ _ hb hc => (x.block b (Array.getElem?_eq_some_iff.1 hc).1 hb).trans hc, ho⟩
theorem own_same {D bR bE bV : Nat} {S : Nat → Prop} {W W' : World} {cs : List Value} {t : TypeId} (hb : Blk W bV t cs) (x : But S W W') (hS : ¬ S bV) {k : Nat} (h : ownK D bR bE bV W' k) : ownK D bR bE bV W k := by
  rcases h with h | h | h | h | h | ⟨v, hv, hk⟩
  · exact .inl h
  · exact .inr (.inl h)
  · exact .inr (.inr (.inl h))
  · exact .inr (.inr (.inr (.inl h)))
  · exact .inr (.inr (.inr (.inr (.inl h))))
  · have h1 := (x.blk hb hS).cell 0
    have h2 := hb.cell 0
    rw [← h1, hv] at h2
    exact .inr (.inr (.inr (.inr (.inr ⟨v, h2, hk⟩))))

/-- What Breaks keeps between two breaks. -/
structure BI (J : Job) (D bR bE bV N : Nat) (pre : List Brk) (W : World) : Prop where
  free : J.Free (ownK D bR bE bV) W
  res : Blk W bR 35 [.slice none 0 0]
  err : Blk W bE 32 [.int .i64 0]
  list : ∃ v, Blk W bV 35 [v] ∧ OwnR N W v pre
  len : pre.length ≤ 200
/-- Where it is left. -/
structure BX (J : Job) (D bR bE : Nat) (cd : Code) (pre : List Brk) (W : World) : Prop where
  ret : cd = .ret
  len : 200 < pre.length
  trie : ∃ F, J.At F W ∧ ¬ F D ∧ ¬ F (D + 1)
  res : Blk W bR 35 [.slice none 0 0]
  err : Blk W bE 32 [.int .i64 160]
/-- How the numbers of blocks stand. -/
structure Plc (J : Job) (D bR bE bV N : Nat) : Prop where
  fB : J.B < J.w0.heap.size
  fR : J.w0.heap.size ≤ bR
  fE : bR < bE
  fV : bE < bV
  fN : J.w0.heap.size ≤ N
  fD : bV < D
  fND : N ≤ D
  ft : J.parted = true → J.bt < bV ∧ J.bb < bV ∧ J.bl < bV
  ft2 : J.parted = true → bE < J.bt ∧ bE < J.bb ∧ bE < J.bl
theorem own_low {J : Job} {D bR bE bV N : Nat} {W : World} {v : Value} {l : List Brk} (P : Plc J D bR bE bV N) (hb : Blk W bV 35 [v]) (hv : OwnR N W v l) {k : Nat} (h : ownK D bR bE bV W k) : J.w0.heap.size ≤ k := by
  have := P.fR; have := P.fE; have := P.fV; have := P.fN; have := P.fD
  rcases h with h | h | h | h | h | ⟨v', hv', hk⟩
  · omega
  · omega
  · omega
  · omega
  · omega
  · rw [hb.cell 0] at hv'
    cases hv'
    have := (hv.lt k hk).1
    omega
theorem row_far {N : Nat} {W : World} {v : Value} {l : List Brk} (hv : OwnR N W v l) {b : Nat} {t : TypeId} {cs : List Value} (hb : Blk W b t cs) (ht : t ≠ 43) : v.ownBlock ≠ some b := by
  rcases hv.2 with ⟨rfl, _⟩ | ⟨g, cap, cur, rfl, _, hgg, _⟩
  · simp [Value.ownBlock]
  · intro e
    have : g = b := by simpa [Value.ownBlock] using e
    rw [this] at hgg
    unfold Blk at hb
    rw [hb] at hgg
    simp only [Option.some.injEq, Obj.cells.injEq] at hgg
    exact ht hgg.2.1
/-- The blocks that the points' function looks at are not one's own. -/
theorem own_fn {J : Job} {D bR bE bV N : Nat} {W : World} {v : Value} {l : List Brk} {F : Nat → Prop} (P : Plc J D bR bE bV N) (hb : Blk W bV 35 [v]) (hv : OwnR N W v l) (a : J.At F W) (p : J.parted = true) : ¬ ownK D bR bE bV W J.bt ∧ ¬ ownK D bR bE bV W J.bb ∧ ¬ ownK D bR bE bV W J.bl := by
  have h1 := P.ft p
  have h2 := P.ft2 p
  have := P.fE; have := P.fV; have := P.fD
  obtain ⟨f1, f2, f3⟩ := a.fn p
  have no : ∀ b : Nat, b < bV → bE < b → (v.ownBlock ≠ some b) → ¬ ownK D bR bE bV W b := fun b l1 l2 l3 h => by
    rcases h with h | h | h | h | h | ⟨v', hv', hk⟩
    · omega
    · omega
    · omega
    · omega
    · omega
    · rw [hb.cell 0] at hv'
      cases hv'
      exact l3 hk
  exact ⟨no _ h1.1 h2.1 (row_far hv f1 (by decide)), no _ h1.2.1 h2.2.1 (row_far hv f2 (by decide)), no _ h1.2.2 h2.2.2 (row_far hv f3 (by decide))⟩
theorem BI.stp {J : Job} {D bR bE bV N : Nat} {pre : List Brk} {W W' : World} (P : Plc J D bR bE bV N) (h : BI J D bR bE bV N pre W) (s : J.Stp (ownK D bR bE bV) W W') : BI J D bR bE bV N pre W' := by
  have := P.fB; have := P.fR; have := P.fE; have := P.fV; have := P.fN
  obtain ⟨v, hv, ho⟩ := h.list
  exact ⟨s.2, s.1.blk h.res (by show ¬ bR = J.B; omega), s.1.blk h.err (by show ¬ bE = J.B; omega), ⟨v, s.1.blk hv (by show ¬ bV = J.B; omega), ho.but s.1 (fun k hk _ e => by have : k = J.B := e; omega)⟩, h.len⟩
theorem BI.own {J : Job} (O : J.Ok) {D bR bE bV N : Nat} (P : Plc J D bR bE bV N) : OwnOf D (BI J D bR bE bV N) := fun pre W W' row h hg hr => by
  have x : But (fun k => row = some k) W W' := But.of_grown hg fun g e => e
  have hB := P.fB; have hR := P.fR; have hE := P.fE; have hV := P.fV; have hN := P.fN; have hD := P.fD
  have far : ∀ k, row = some k → k = D ∨ k = D + 1 := fun k e => (hr k e).1
  obtain ⟨v, hv, ho⟩ := h.list
  obtain ⟨F, a, fr⟩ := h.free
  refine ⟨⟨F, a.set x (fun k e => ?_) O (fun p => ?_), fun k hk => ?_⟩, x.blk h.res (fun e => by have := far _ e; omega), x.blk h.err (fun e => by have := far _ e; omega), ⟨v, x.blk hv (fun e => by have := far _ e; omega), ho.but x fun k _ e2 e => ?_⟩, h.len⟩
  · have := far k e
    exact ⟨(fr k (by rcases this with e | e; exact .inl e; exact .inr (.inl e))).1, by omega, by omega⟩
  · have h1 := P.ft p
    exact ⟨fun e => by have := far _ e; omega, fun e => by have := far _ e; omega, fun e => by have := far _ e; omega⟩
  · obtain ⟨f1, f2⟩ := fr k (own_same hv x (fun e => by have := far _ e; omega) hk)
    exact ⟨f1, Nat.lt_of_lt_of_le f2 hg.size⟩
  · obtain ⟨_, o, ho2, hc⟩ := hr k e
    have := row_cells ho k o e2 ho2
    rw [hc] at this
    cases this
theorem BX.own {J : Job} (O : J.Ok) {D bR bE bV N : Nat} (P : Plc J D bR bE bV N) (cd : Code) : OwnOf D (BX J D bR bE cd) := fun pre W W' row h hg hr => by
  have x : But (fun k => row = some k) W W' := But.of_grown hg fun g e => e
  have hB := P.fB; have hR := P.fR; have hE := P.fE; have hV := P.fV; have hD := P.fD
  have far : ∀ k, row = some k → k = D ∨ k = D + 1 := fun k e => (hr k e).1
  obtain ⟨F, a, f1, f2⟩ := h.trie
  refine ⟨h.ret, h.len, ⟨F, a.set x (fun k e => ?_) O (fun p => ?_), f1, f2⟩, x.blk h.res (fun e => by have := far _ e; omega), x.blk h.err (fun e => by have := far _ e; omega)⟩
  · rcases far k e with e | e <;> subst e
    · exact ⟨f1, by omega, by omega⟩
    · exact ⟨f2, by omega, by omega⟩
  · have h1 := P.ft p
    exact ⟨fun e => by have := far _ e; omega, fun e => by have := far _ e; omega, fun e => by have := far _ e; omega⟩
end L16
end Go.Proofs.YtmmgmcfhlhghoaaGreatDoor

