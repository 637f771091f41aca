/- The landed Read of layer 13. -/
import Derived.Test.YtbiklbomacjihaaDoorIter13
import Derived.Test.YtbiklbomacjihaaDoorReadB13
namespace Go.Proofs.YtbiklbomacjihaaDoor
open Go.RowKit
namespace L13
open L10 (gapB wordsGo wordsL)

attribute [local go_sem] Oper.semAt_some

/-- An append whose run is known, within a fence. -/
theorem wpListIn_ran {F : Fence} {n : Nat} {P : Program} {w w' : World} {ops : Array Oper} {rest : List Oper} {o : Oper} {a : Act} {Q : Exit → Act → World → Prop} {t : TypeId} {v : Value} (hgd : o.guard = none) (s x : Operand)
    (ho : o.op = .call { callee := .builtin .append, args := #[s, x], argTypes := #[t, t] }) (hrun : (Builtin.append_ #[t, t] o.type #[a.eval s, a.eval x]).run P w = .ok v w')
    (h : wpListIn F n P ops Q rest (a.put o.dst v) w') : wpListIn F n P ops Q (o :: rest) a w := by
  refine wpListIn_plain hgd fun K hK => ?_
  unfold Oper.wpIn
  refine ⟨by simp [Oper.about, ho, resolve, Target.leads, Sem.run_pure], ?_⟩
  rw [Oper.semAt_plain F _ _ (by rw [ho]; intro c hc; cases hc)]
  simp only [execOp, ho, resolve, invoke, builtin, Sem.run_bind, Sem.run_pure, Result.andThen_ok, List.map_toArray, List.map_cons, List.map_nil, hrun]
  exact hK _ _ h
theorem Typed.row {W W' : World} {A : Option Addr} {row : Option Nat} (h : Typed W A) (hg : W.grownBy W' row) (hr : ∀ r, row = some r → ∃ o : Obj, W.heap[r]? = some o ∧ o.isCells = false) : Typed W' A := fun ad e => by
  obtain ⟨cs, f, hb⟩ := h ad e
  exact ⟨cs, f, (grownBy_keeps_cells hg hr hb rfl).trans hb⟩
theorem seenL_row {W W' : World} {A : Option Addr} {l : List Int} {row : Option Nat} (h : SeenL W A l) (hg : W.grownBy W' row) (hr : ∀ r, row = some r → ∃ o : Obj, W.heap[r]? = some o ∧ o.isCells = false) : SeenL W' A l := fun i v hv => by
  obtain ⟨ad, e, hb, hc⟩ := h i v hv
  exact ⟨ad, e, Nat.lt_of_lt_of_le hb hg.size, cell_kept hc hg hr⟩
theorem owns_row {W W' : World} {base e size n : Nat} {v : Value} {xs : List Value} {row : Option Nat} (h : W.ownsRow base e size v n xs) (hg : W.grownBy W' row) (hr : ∀ r, row = some r → ∃ o : Obj, W.heap[r]? = some o ∧ o.isCells = false) : W'.ownsRow base e size v n xs := by
  refine ⟨h.1, ?_⟩
  rcases h.2 with hn | ⟨g, cap, cur, rfl, hb, hgg, rest⟩
  · exact .inl hn
  · exact .inr ⟨g, cap, cur, rfl, hb, (grownBy_keeps_cells hg hr hgg rfl).trans hgg, rest⟩
/-- A word of the list: where its numbers lie nothing else lies. -/
def In13 (W : World) (y : CW) : Prop := SeenL W y.A y.cs ∧ SeenL W y.B y.ss ∧ y.Ok ∧ Typed W y.A ∧ Typed W y.B
theorem In13.ext {W W' : World} {y : CW} (h : In13 W y) (x : Ext W W') : In13 W' y := ⟨h.1.ext x, h.2.1.ext x, h.2.2.1, h.2.2.2.1.ext x, h.2.2.2.2.ext x⟩
theorem In13.row {W W' : World} {y : CW} {row : Option Nat} (h : In13 W y) (hg : W.grownBy W' row) (hr : ∀ r, row = some r → ∃ o : Obj, W.heap[r]? = some o ∧ o.isCells = false) : In13 W' y :=
  ⟨seenL_row h.1 hg hr, seenL_row h.2.1 hg hr, h.2.2.1, h.2.2.2.1.row hg hr, h.2.2.2.2.row hg hr⟩
/-- One's own list of words, in a box. -/
structure LR (B g : Nat) (wr : World) (v : Value) (wl : List CW) : Prop where
  box : Blk wr g 24 [v]
  lo : g < B
  row : wr.ownsRow B 36 2 v wl.length (flatC wl)
  inn : ∀ y ∈ wl, In13 wr y
theorem LR.ext {B g : Nat} {wr w' : World} {v : Value} {wl : List CW} (h : LR B g wr v wl) (x : Ext wr w') : LR B g w' v wl := ⟨h.box.ext x, h.lo, OwnsRow.ext h.row x, fun y hy => (h.inn y hy).ext x⟩
theorem LR.kept {B g : Nat} {wr w' : World} {v : Value} {wl : List CW} {row : Option Nat} (h : LR B g wr v wl) (hg : wr.grownBy w' row) (hr : ∀ r, row = some r → ∃ o : Obj, wr.heap[r]? = some o ∧ o.isCells = false) : LR B g w' v wl :=
  ⟨blk_row h.box hg hr, h.lo, owns_row h.row hg hr, fun y hy => (h.inn y hy).row hg hr⟩
/-- The cells that change: the box, and all that was made since. -/
def TB (B g : Nat) : Addr → Prop := fun p => p.block = g ∨ B ≤ p.block
theorem typed_but {v : Value} {n : Nat} {xs : List Value} {base : Nat} {w : World} {A : Option Addr} (h : Typed w A) (hr : w.ownsRow base 36 2 v n xs) : ∀ ad, A = some ad → ¬ v.ownBlock = some ad.block := fun ad e e2 => by
  obtain ⟨cs, f, hb⟩ := h ad e
  obtain ⟨_, ⟨rfl, _⟩ | ⟨g, cap, cur, rfl, _, hg, _⟩⟩ := hr
  · cases e2
  · simp only [Value.ownBlock, Option.some.injEq] at e2
    subst e2
    rw [hb] at hg
    simp at hg
theorem typed_box {g : Nat} {v : Value} {w : World} {A : Option Addr} (h : Typed w A) (hr : Blk w g 24 [v]) : ∀ ad, A = some ad → ¬ ad.block = g := fun ad e e2 => by
  obtain ⟨cs, f, hb⟩ := h ad e
  subst e2
  unfold Blk at hr
  rw [hb] at hr
  simp at hr
theorem In13.but {S : Nat → Prop} {w w' : World} {y : CW} (h : In13 w y) (k : But S w w') (h1 : ∀ ad, y.A = some ad → ¬ S ad.block) (h2 : ∀ ad, y.B = some ad → ¬ S ad.block) : In13 w' y := by
  have ty : ∀ A, Typed w A → (∀ ad, A = some ad → ¬ S ad.block) → Typed w' A := fun A hA hn ad e => by
    obtain ⟨cs, f, hb⟩ := hA ad e
    exact ⟨cs, f, (k.block _ (Array.getElem?_eq_some_iff.1 hb).1 (hn ad e)).trans hb⟩
  exact ⟨seenL_but h.1 k h1, seenL_but h.2.1 k h2, h.2.2.1, ty _ h.2.2.2.1 h1, ty _ h.2.2.2.2 h2⟩
theorem chg_row {B g N : Nat} {w w' : World} {row : Option Nat} (hg : w.grownBy w' row) (hr : ∀ k, row = some k → B ≤ k) (hN : N ≤ B) : Chg (TB B g) N w w' := by
  have ne : ∀ b, (¬ TB B g ⟨b, 0, none⟩) → some b ≠ row := fun b h e => h (.inr (hr b e.symm))
  have key : ∀ p : Addr, ¬ TB B g p → some p.block ≠ row := fun p h => ne p.block h
  have cl : ∀ p v, ¬ TB B g p → w.cell? p = some v → w'.cell? p = w.cell? p ∧ w'.frozen? p = w.frozen? p := fun p v h hc => cell_of_block (hg.block p.block (World.block_lt_of_cell? w p hc) (key p h))
  exact ⟨hg.size, fun p v h hc => (cl p v h hc).1.trans hc, fun p v h hc hf => (cl p v h hc).2.trans hf, fun b cs t f h hc => (hg.block b (Array.getElem?_eq_some_iff.1 hc).1 (key ⟨b, 0, none⟩ (h 0))).trans hc,
    fun w0 h x => ext_row x hg (fun k e => Nat.le_trans h (Nat.le_trans hN (hr k e)))⟩
/-- One word more. -/
theorem LR.put {B g : Nat} {wr : World} {v : Value} {wl : List CW} (h : LR B g wr v wl) (y : CW) (hy : In13 wr y) (hn : wl.length ≤ 400000) (two : B ≤ wr.heap.size) (ty : TypeId) :
    ∃ A' n' c' w', (Builtin.append_ #[24, 24] ty #[v, .slice (some ⟨wr.heap.size, 0, none⟩) 1 1]).run Tryd.prog (wr.alloc (.cells #[.slice y.A y.cs.length y.c, .slice y.B y.ss.length y.d] 36)) = .ok (.slice A' n' c') w' ∧
      w'.cell? ⟨g, 0, none⟩ = some v ∧ w'.frozen? ⟨g, 0, none⟩ = false ∧ LR B g (w'.setCell ⟨g, 0, none⟩ (.slice A' n' c')) (.slice A' n' c') (wl ++ [y]) ∧ Chg (TB B g) g wr (w'.setCell ⟨g, 0, none⟩ (.slice A' n' c')) ∧ KeepsOthers wr (w'.setCell ⟨g, 0, none⟩ (.slice A' n' c')) := by
  obtain ⟨i, hi, hz0, hsz, hby⟩ := info_parts word_info13
  have xa : Ext wr (wr.alloc (.cells #[.slice y.A y.cs.length y.c, .slice y.B y.ss.length y.d] 36)) := (Ext.refl wr).alloc _
  have ka := KeepsOthers.alloc wr (.cells #[.slice y.A y.cs.length y.c, .slice y.B y.ss.length y.d] 36)
  have h := h.ext xa
  have hy := hy.ext xa
  have kN : Blk (wr.alloc (.cells #[.slice y.A y.cs.length y.c, .slice y.B y.ss.length y.d] 36)) wr.heap.size 36 [.slice y.A y.cs.length y.c, .slice y.B y.ss.length y.d] := Blk.lit _ _ _ _ rfl
  generalize wr.alloc (.cells #[.slice y.A y.cs.length y.c, .slice y.B y.ss.length y.d] 36) = wq at *
  obtain ⟨v', w', hr, ho, hg, _, hat⟩ := run_append_own_at (P := Tryd.prog) wq B 24 ty 36 i (.agg #[.slice none 0 0, .slice none 0 0]) 2 48 Tryd.underlying24 hi hz0 hsz hby rfl (by omega) v wl.length (flatC wl) h.row ⟨wr.heap.size, 0, none⟩ 1 1 [.slice y.A y.cs.length y.c, .slice y.B y.ss.length y.d] rfl
    (fun j u hu => by
      match j, hu with
      | 0, hu => simp at hu; subst hu; exact kN.cell 0
      | 1, hu => simp at hu; subst hu; exact kN.cell 1
      | j + 2, hu => simp at hu) (by simp [Value.oneCell']) (by unfold maxLen; omega) (by omega) (Nat.le_trans two xa.size)
  obtain ⟨A', c', rfl, _⟩ := own_seen ho
  have BG : But (fun k => v.ownBlock = some k) wq w' := But.of_grown hg (fun g hg => hg)
  have nb : ¬ v.ownBlock = some g := fun e => by have := (h.row.lt _ e).1; have := h.lo; omega
  have kb : Blk w' g 24 [v] := BG.blk h.box nb
  have in1 : ∀ z, In13 wq z → In13 w' z := fun z hz => hz.but BG (typed_but hz.2.2.2.1 h.row) (typed_but hz.2.2.2.2 h.row)
  have in2 : ∀ z, In13 wq z → In13 (w'.setCell ⟨g, 0, none⟩ (.slice A' (wl.length + 1) c')) z := fun z hz =>
    (in1 z hz).but (S := fun k => k = g) (But.set w' ⟨g, 0, none⟩ _ rfl) (typed_box (in1 z hz).2.2.2.1 kb) (typed_box (in1 z hz).2.2.2.2 kb)
  have hlo := h.lo
  refine ⟨A', wl.length + 1, c', w', hr, kb.cell 0, kb.free 0, ⟨kb.set 0 _, h.lo, ?_, fun z hz => ?_⟩, ?_, ?_⟩
  · rw [flatC_snoc, List.length_append]
    exact ownsRow_setCell_below ho (by show g < _; omega) _
  · rcases List.mem_append.1 hz with hz | hz
    · exact in2 z (h.inn z hz)
    · obtain rfl : z = y := by simpa using hz
      exact in2 z hy
  · exact ((Chg.of_ext xa).trans (chg_row hg (fun k e => (h.row.lt k e).1) (by omega))).trans (Chg.set w' g 0 _ (.inl rfl) (Nat.le_refl _))
  · refine (ka.trans (KeepsOthers.of_grownBy hg fun j o ej hj => ?_)).trans (KeepsOthers.setCell _ _ _)
    obtain ⟨_, ⟨rfl, _⟩ | ⟨g', cap, cur, rfl, _, hg', _⟩⟩ := h.row
    · cases ej
    · simp only [Value.ownBlock, Option.some.injEq] at ej
      subst ej
      rw [hj] at hg'
      cases hg'
      rfl
theorem typed_off {g : Nat} {t : TypeId} {cs : List Value} {w : World} {A : Option Addr} (h : Typed w A) (hr : Blk w g t cs) (ht : t ≠ 3) : ∀ ad, A = some ad → ¬ ad.block = g := fun ad e e2 => by
  obtain ⟨cs', f, hb⟩ := h ad e
  subst e2
  unfold Blk at hr
  rw [hb] at hr
  simp only [Option.some.injEq, Obj.cells.injEq] at hr
  exact ht hr.2.1.symm
/-- A store into another box. -/
theorem LR.far {B g b : Nat} {t : TypeId} {cs : List Value} {wr : World} {v : Value} {wl : List CW} (h : LR B g wr v wl) (hb : Blk wr b t cs) (ht : t ≠ 3) (hg : b ≠ g) (hB : b < B) (u : Value) : LR B g (wr.setCell ⟨b, 0, none⟩ u) v wl :=
  ⟨h.box.far (p := ⟨b, 0, none⟩) hg u, h.lo, ownsRow_setCell_below h.row (by show b < _; omega) u, fun y hy => (h.inn y hy).but (S := fun k => k = b) (But.set wr ⟨b, 0, none⟩ u rfl) (typed_off (h.inn y hy).2.2.2.1 hb ht) (typed_off (h.inn y hy).2.2.2.2 hb ht)⟩
/-- Two boxes of one cell as results. -/
theorem results_ones {fn : Func} {p q : Nat} {t u : TypeId} (h : fn.results = #[.cell p t, .cell q u]) (tmps : Array Value) (W : World) (b c : Nat) (x v : Value) (hp : tmps[p]? = some (.pointer (some ⟨b, 0, none⟩))) (hq : tmps[q]? = some (.pointer (some ⟨c, 0, none⟩)))
    (hb : W.cell? ⟨b, 0, none⟩ = some x) (hc : W.cell? ⟨c, 0, none⟩ = some v) (ha : (isAgg t).run Tryd.prog W = .ok false W) (ha' : (isAgg u).run Tryd.prog W = .ok false W) :
    (results fn tmps).run Tryd.prog W = .ok (.tuple #[x, v]) W := by
  simp only [results, h]
  simp [go_sem, loadVar, loadCells, asAddr, hp, hq, hb, hc, ha, ha']
theorem LR.look {B g : Nat} {wr : World} {v : Value} {wl : List CW} (h : LR B g wr v wl) : ∃ A c, v = .slice A wl.length c ∧ wl.length ≤ c ∧ c ≤ maxLen ∧ SeenC wr A wl := by
  obtain ⟨A, c, rfl, hs⟩ := own_seen h.row
  have hin : ∀ x ∈ wl, SeenL wr x.A x.cs ∧ SeenL wr x.B x.ss := fun x hx => ⟨(h.inn x hx).1, (h.inn x hx).2.1⟩
  obtain ⟨_, ⟨e1, h1⟩ | ⟨g, cap, cur, e1, _, _, hc, hm, _⟩⟩ := h.row
  · simp only [Value.slice.injEq] at e1
    exact ⟨A, c, rfl, by omega, by unfold maxLen; omega, seenC_of hs hin⟩
  · simp only [Value.slice.injEq] at e1
    exact ⟨A, c, rfl, by omega, by omega, seenC_of hs hin⟩
theorem all_ok : ∀ {wl : List CW} {ws : List (List UInt8)}, wl.map (fun y => some (tw y)) = ws.map okW → wl.map tw = ws.map ofL ∧ (ws.map ofL).all wordB = true
  | [], [], _ => ⟨rfl, rfl⟩
  | [], b :: s, h => by simp at h
  | a :: r, [], h => by simp at h
  | a :: r, b :: s, h => by
    simp only [List.map_cons, List.cons.injEq] at h
    obtain ⟨h1, h2⟩ := all_ok h.2
    have h3 := h.1
    unfold okW at h3
    split at h3
    · rename_i hw
      simp only [Option.some.injEq] at h3
      simp only [List.map_cons, List.all_cons, h1, h3, hw, h2, Bool.and_self, and_self]
    · cases h3
theorem none_bad {ws : List (List UInt8)} (h : none ∈ ws.map okW) : (ws.map ofL).all wordB = false := by
  obtain ⟨t, ht, e⟩ := List.mem_map.1 h
  unfold okW at e
  split at e
  · cases e
  · rename_i hw
    rw [Bool.eq_false_iff]
    intro ha
    exact hw (List.all_eq_true.1 ha _ (List.mem_map.2 ⟨t, ht, rfl⟩))
theorem many_bad {ws : List TW} (h : 100 < ws.length) : checkB ws = false := by
  rw [checkB, decide_eq_false (by omega)]; rfl
theorem readA_stop {l : List UInt8} {pre : List WB} (hp : pre.map keyW <+: (wordsL l).map okW) (h : none ∈ pre.map keyW ∨ 100 < pre.length) : readA l = ([], 130) := by
  unfold readA fromL
  rcases h with h | h
  · rw [none_bad (hp.subset h)]; rfl
  · have := hp.length_le
    simp only [List.length_map] at this
    rw [many_bad (by rw [List.length_map]; omega), Bool.and_false]; rfl
theorem readA_done {l : List UInt8} {wl : List CW} (h : wl.map (fun y => some (tw y)) = (wordsL l).map okW) : readA l = if checkB (wl.map tw) = true then (wl.map tw, 0) else ([], 130) := by
  obtain ⟨h1, h2⟩ := all_ok h
  unfold readA fromL
  rw [← h1] at h2 ⊢
  rw [h2, Bool.true_and]
/-- What Read keeps between two words, and where it stops. -/
def RI (w : World) (b0 b1 b2 b4 : Nat) (pre : List WB) (W' : World) : Prop := ((∃ v wl, LR (b4 + 5) b2 W' v wl ∧ pre.map keyW = wl.map (fun y => some (tw y)) ∧ pre.length ≤ 100) ∧ Blk W' b0 24 [.slice none 0 0] ∧ Blk W' b1 25 [.int .i64 0]) ∧ Ext w W'
def RIx (w : World) (b0 b1 : Nat) (cd : Code) (pre : List WB) (W' : World) : Prop := (cd = .ret ∧ (none ∈ pre.map keyW ∨ 100 < pre.length) ∧ Blk W' b0 24 [.slice none 0 0] ∧ Blk W' b1 25 [.int .i64 130]) ∧ Ext w W'
theorem RI.own {w : World} {b0 b1 b2 b4 B : Nat} (hB : w.heap.size ≤ B) : OwnFrom B (RI w b0 b1 b2 b4) := fun pre X Y row h hg hr => by
  have hr2 : ∀ r, row = some r → ∃ o : Obj, X.heap[r]? = some o ∧ o.isCells = false := fun r e => (hr r e).2
  obtain ⟨⟨⟨v, wl, h1, h2, h3⟩, h4, h5⟩, h6⟩ := h
  exact ⟨⟨⟨v, wl, h1.kept hg hr2, h2, h3⟩, blk_row h4 hg hr2, blk_row h5 hg hr2⟩, ext_row h6 hg (fun r e => by have := (hr r e).1; omega)⟩
theorem RIx.own {w : World} {b0 b1 B : Nat} (cd : Code) (hB : w.heap.size ≤ B) : OwnFrom B (RIx w b0 b1 cd) := fun pre X Y row h hg hr => by
  have hr2 : ∀ r, row = some r → ∃ o : Obj, X.heap[r]? = some o ∧ o.isCells = false := fun r e => (hr r e).2
  obtain ⟨⟨h1, h2, h3, h4⟩, h6⟩ := h
  exact ⟨⟨h1, h2, blk_row h3 hg hr2, blk_row h4 hg hr2⟩, ext_row h6 hg (fun r e => by have := (hr r e).1; omega)⟩
set_option maxRecDepth 100000 in
set_option maxHeartbeats 8000000 in
theorem read_text (A : Option Addr) (l : List UInt8) (n c : Nat) (w : World) (hs : SeenB w A l) (hn : n = l.length) (hm : n ≤ 800000) (hc : n ≤ c) (hc1 : c ≤ maxLen) (ht : Tabs w) :
    Calls Tryd.prog 11 #[.slice A n c] w (ReadQ w (readA l)) := by
  obtain ⟨WA, hWA⟩ : ∃ WA, WA = ((w.alloc (.cells #[.slice none 0 0] 24)).alloc (.cells #[.int .i64 0] 25)).alloc (.cells #[.slice none 0 0] 24) := ⟨_, rfl⟩
  have X0 : Ext w WA := by rw [hWA]; exact (((Ext.refl w).alloc _).alloc _).alloc _
  have kR : Blk WA w.heap.size 24 [.slice none 0 0] := by rw [hWA]; exact ((Blk.lit _ _ _ _ rfl).ext ((Ext.refl _).alloc _)).ext ((Ext.refl _).alloc _)
  have kE : Blk WA (w.heap.size + 1) 25 [.int .i64 0] := by rw [hWA]; exact (Blk.lit _ _ _ _ (by simp)).ext ((Ext.refl _).alloc _)
  have kL : Blk WA (w.heap.size + 1 + 1) 24 [.slice none 0 0] := by rw [hWA]; exact Blk.lit _ _ _ _ (by simp)
  have hz : WA.heap.size = w.heap.size + 1 + 1 + 1 := by rw [hWA]; simp
  have HS := Lib.hid hs
  have HT := Lib.hid ht
  have HN := Lib.hid hn
  clear hs ht hn
  refine (callsIn_wide (n := 9)).1 (callsIn_of_wp_marks Tryd.func11 rfl trivial ?_ rfl)
  refine wpIn_wide.2 ?_
  simp only [Tryd.ntmps11, List.size_toArray, List.length_cons, List.length_nil, Nat.reduceAdd, Nat.reduceSub, Array.replicate_succ, Array.replicate_zero, List.push_toArray, List.append_toArray, List.nil_append, List.cons_append]
  go_wp2_with fail
  rw [← hWA]
  refine (words_any A n c WA).mono ?_
  rintro e w1 ⟨rfl, hw1⟩
  have x1 : Ext WA w1 := by rw [hw1]; exact (Ext.refl _).alloc _
  have hz1 : w1.heap.size = w.heap.size + 1 + 1 + 1 + 1 := by rw [hw1]; simp; omega
  have kT : Blk w1 (w.heap.size + 1 + 1 + 1) 22 [.slice A n c] := by rw [hw1]; exact Blk.lit _ _ _ _ hz.symm
  rw [hz]
  have kR := kR.ext x1
  have kE := kE.ext x1
  have kL := kL.ext x1
  have X1 := X0.trans x1
  clear x1 X0 hw1 hWA hz
  have HSZ := Lib.hid (show w.heap.size ≤ w.heap.size from Nat.le_refl _)
  generalize hb1 : w.heap.size + 1 = b1 at *
  generalize hb2 : b1 + 1 = b2 at *
  generalize hb3 : b2 + 1 = b3 at *
  generalize hb4 : b3 + 1 = b4 at *
  generalize hb0 : w.heap.size = b0 at *
  go_wp2_with fail
  refine wpIn_wide.1 (range_over (n := 9) (F := Fence.wide) rfl (by omega) (gf := 28) (lb := #[.pointer (some ⟨b3, 0, none⟩)]) rfl trivial (enters_of Tryd.func28 (by kernel_rfl) rfl)
    (encs := encW) (fun _ => rfl) (V := fun x W => VW x W ∧ b4 + 5 ≤ W.heap.size) (Kp := Chg (TB (b4 + 5) b2) b2) (S := fun xs => xs.map keyW = (wordsL l).map okW) (Sp := fun pre => pre.map keyW <+: (wordsL l).map okW) (N := (wordsL l).length)
    (RI w b0 b1 b2 b4)
    (RIx w b0 b1)
    (fun x a' W' => ∃ Bx, Blk W' Bx 36 [.slice x.1.A x.1.cs.length x.1.c, .slice x.1.B x.1.ss.length x.1.d] ∧ VW x W' ∧ b4 + 5 ≤ W'.heap.size ∧
      a' = { tmps := #[.slice A n c, undef, .pointer (some ⟨b0, 0, none⟩), .pointer (some ⟨b1, 0, none⟩), .pointer (some ⟨b2, 0, none⟩), .pointer (some ⟨Bx, 0, none⟩), .bool x.2, .slice A n c, .func (.func 28) #[] #[.pointer (some ⟨b3, 0, none⟩)], .agg #[.slice x.1.A x.1.cs.length x.1.c, .slice x.1.B x.1.ss.length x.1.d], .bool x.2, undef, undef, undef, undef, undef, undef, undef, undef, undef, undef, undef, undef, undef, undef, undef], defers := [] })
    (RI.own (by omega)) (fun cd => RIx.own cd (by omega))
    (fun x a' u X Y row h hg hr => by
      have hr2 : ∀ r, row = some r → ∃ o : Obj, X.heap[r]? = some o ∧ o.isCells = false := fun r e => (hr r e).2
      obtain ⟨Bx, h1, h2, h3, h4⟩ := h
      refine ⟨Bx, blk_row h1 hg hr2, fun hw => ?_, Nat.le_trans h3 hg.size, h4⟩
      exact In13.row (h2 hw) hg hr2)
    (fun h k => Chg.trans h k) (fun W' r r' h => chg_loop W' r r' (by omega) h)
    ⟨⟨⟨.slice none 0 0, [], ⟨kL, by omega, World.ownsRow_nil _ _ _ _, fun y hy => by simp at hy⟩, rfl, by simp⟩, kR, kE⟩, X1⟩ ?call ?assign ?body ?done ?stop)
  case call =>
    intro W' J' Jx' x' hz' hJ' hJx' hY' h0'
    exact words_in 8 (w1.heap.size + 1) b3 (by omega) A l n c HN.out hm hc hc1 w HS.out HT.out (TB (b4 + 5) b2) b2 (b4 + 2) (by omega) W' J' Jx' (X1.trans x') (kT.ext x') (by omega) (by omega) (fun p hp => by rcases hp with hp | hp <;> omega) hJ' hJx'
      (fun pre x W2 h1 h2 h3 h4 => hz1 ▸ hY' pre x W2 h1 ⟨h2, by omega⟩ h4) h0'
  case assign =>
    rintro pre ⟨y, is⟩ W' K hi ⟨hv, h5⟩ hK
    have hi2 := own_ext (RI.own (B := w.heap.size) (Nat.le_refl _)) hi ((Ext.refl W').alloc (.cells #[.slice y.A y.cs.length y.c, .slice y.B y.ss.length y.d] 36))
    have GO := Lib.hid (hK { tmps := #[.slice A n c, undef, .pointer (some ⟨b0, 0, none⟩), .pointer (some ⟨b1, 0, none⟩), .pointer (some ⟨b2, 0, none⟩), .pointer (some ⟨W'.heap.size, 0, none⟩), .bool is, .slice A n c, .func (.func 28) #[] #[.pointer (some ⟨b3, 0, none⟩)], .agg #[.slice y.A y.cs.length y.c, .slice y.B y.ss.length y.d], .bool is, undef, undef, undef, undef, undef, undef, undef, undef, undef, undef, undef, undef, undef, undef, undef], defers := [] }
      (W'.alloc (.cells #[.slice y.A y.cs.length y.c, .slice y.B y.ss.length y.d] 36)) ((KeepsOthers.alloc W' _).from _) (Chg.of_ext ((Ext.refl W').alloc _)) hi2
      ⟨W'.heap.size, Blk.lit _ _ _ _ rfl, fun hw => In13.ext (hv hw) ((Ext.refl W').alloc _), by simp; omega, rfl⟩)
    clear hi hi2 hK hv
    simp only [encW, cwV]
    gi_wp2
    exact GO.out
  case body =>
    rintro pre ⟨y, is⟩ a' W' ⟨⟨⟨v, wl, hl, hpre, hlen⟩, hR, hE⟩, hx0⟩ ⟨Bx, kX, hv, h5, rfl⟩ hlt
    obtain ⟨Al, cl, rfl, _, _, _⟩ := hl.look
    have q0 : W'.cell? ⟨b0, 0, none⟩ = some (.slice none 0 0) := hR.cell 0
    have q1 : W'.cell? ⟨b1, 0, none⟩ = some (.int .i64 0) := hE.cell 0
    have f0 := hR.free 0
    have f1 := hE.free 0
    have q2 : W'.cell? ⟨b2, 0, none⟩ = some (.slice Al wl.length cl) := hl.box.cell 0
    have p0 : W'.cell? ⟨Bx, 0, none⟩ = some (.slice y.A y.cs.length y.c) := kX.cell 0
    have p1 : W'.cell? ⟨Bx, 1, none⟩ = some (.slice y.B y.ss.length y.d) := kX.cell 1
    have hpw : pre.length = wl.length := by have := congrArg List.length hpre; simpa using this
    have hb10 : b1 ≠ b0 := by omega
    have FAIL := Lib.hid (fun (hno : none ∈ (pre ++ [(y, is)]).map keyW ∨ 100 < (pre ++ [(y, is)]).length) =>
      show ownPostG w1.heap.size (Chg (TB (b4 + 5) b2) b2) (RI w b0 b1 b2 b4)
        (RIx w b0 b1) (pre ++ [(y, is)]) W' .ret { tmps := #[], defers := [] }
        ((W'.setCell ⟨b0, 0, none⟩ (.slice none 0 0)).setCell ⟨b1, 0, none⟩ (.int .i64 130)) from
      ⟨((KeepsOthers.setCell _ _ _).trans (KeepsOthers.setCell _ _ _)).from _, ⟨rfl, hno, (hR.set 0 (.slice none 0 0)).far (p := ⟨b1, 0, none⟩) (by show b1 ≠ b0; omega) _, (hE.far (p := ⟨b0, 0, none⟩) (by show b0 ≠ b1; omega) _).set 0 (.int .i64 130)⟩,
        (hx0.setCell (p := ⟨b0, 0, none⟩) (by show _ ≤ b0; omega) _).setCell (p := ⟨b1, 0, none⟩) (by show _ ≤ b1; omega) _⟩)
    cases is with
    | false =>
      have F := Lib.hid (FAIL.out (.inl (by simp [keyW])))
      clear FAIL hl hpre hR hE hx0 kX hv
      gi_wp2
      exact F.out
    | true =>
      by_cases h100 : wl.length = 100
      · have F := Lib.hid (FAIL.out (.inr (by rw [List.length_append, hpw, h100]; simp)))
        clear FAIL hl hpre hR hE hx0 kX hv
        rw [h100] at q2
        gi_wp2
        exact F.out
      · have g100 : ((wl.length : Int) == 100) = false := by simp; omega
        obtain ⟨A9, n9, c9, w9, hr, e2, e3, hl9, hc9, hk9⟩ := hl.put y (hv rfl) (by omega) h5 24
        have F := Lib.hid (show ownPostG w1.heap.size (Chg (TB (b4 + 5) b2) b2) (RI w b0 b1 b2 b4)
          (RIx w b0 b1) (pre ++ [(y, true)]) W' .normal { tmps := #[], defers := [] }
          (w9.setCell ⟨b2, 0, none⟩ (.slice A9 n9 c9)) from
          ⟨hk9.from _, hc9, ⟨⟨_, wl ++ [y], hl9, by rw [List.map_append, List.map_append, hpre]; rfl, by rw [List.length_append]; simp; omega⟩, hc9.blk _ _ _ _ (fun o h => by rcases h with h | h <;> (simp only at h; omega)) hR, hc9.blk _ _ _ _ (fun o h => by rcases h with h | h <;> (simp only at h; omega)) hE⟩, hc9.old w (by omega) hx0⟩)
        clear FAIL hl hpre hR hE hx0 kX hv hl9 hc9 hk9 q0 q1 f0 f1
        generalize wl.length = zl at *
        generalize y.cs.length = y1 at *
        generalize y.ss.length = y2 at *
        have hzl : (zl : Int) ≤ 100 := by omega
        gi_wp2_with (gi_at_builtin; refine wpListIn_ran rfl _ _ rfl hr ?_)
        exact F.out
  case done =>
    rintro xs W' hSx ⟨⟨⟨v, wl, hl, hxs, hlen⟩, hR, hE⟩, hx0⟩ hK
    obtain ⟨Al, cl, rfl, h1, h2, hsn⟩ := hl.look
    have hra := readA_done (l := l) (wl := wl) (by rw [← hxs, hSx])
    have C := Lib.hid (check_any Al wl wl.length cl W' hsn rfl (fun y hy => (hl.inn y hy).2.2.1))
    have hpw : xs.length = wl.length := by have := congrArg List.length hxs; simpa using this
    have hb10 : b1 ≠ b0 := by omega
    have HL := Lib.hid hl
    have HR := Lib.hid hR
    have HE := Lib.hid hE
    have HX0 := Lib.hid hx0
    have HK := Lib.hid hK
    have HRA := Lib.hid hra
    have HZ1 := Lib.hid hz1
    have q2 : W'.cell? ⟨b2, 0, none⟩ = some (.slice Al wl.length cl) := hl.box.cell 0
    clear hl hxs hR hE hx0 hK hra hSx hsn
    obtain ⟨bb, hbb⟩ : ∃ bb, checkB (wl.map tw) = bb := ⟨_, rfl⟩
    rw [hbb] at C HRA
    clear hbb
    have FIN := Lib.hid (fun (w5 : World) (x5 : Ext W' w5) (wl2 : List CW) (A2 : Option Addr) (c2 : Nat) (z : Int) (hk5 : w5.heap[w1.heap.size]? = some (.deferred (some [])))
        (hok : wl2.length ≤ c2) (hc2 : c2 ≤ maxLen) (hy : ∀ W2, LR (b4 + 5) b2 W2 (.slice Al wl.length cl) wl → SeenC W2 A2 wl2 ∧ ∀ y ∈ wl2, y.Ok) (hq : readA l = (wl2.map tw, z)) =>
      show (((w5.setCell ⟨b0, 0, none⟩ (.slice A2 wl2.length c2)).setCell ⟨b1, 0, none⟩ (.int .i64 z)).heap[w1.heap.size]? = some (.deferred (some []))) ∧
        ((((w5.setCell ⟨b0, 0, none⟩ (.slice A2 wl2.length c2)).setCell ⟨b1, 0, none⟩ (.int .i64 z)).putObj w1.heap.size (.deferred none)).cell? ⟨b0, 0, none⟩ = some (.slice A2 wl2.length c2)) ∧
        ((((w5.setCell ⟨b0, 0, none⟩ (.slice A2 wl2.length c2)).setCell ⟨b1, 0, none⟩ (.int .i64 z)).putObj w1.heap.size (.deferred none)).cell? ⟨b1, 0, none⟩ = some (.int .i64 z)) ∧
        ReadQ w (readA l) (.returned (.tuple #[.slice A2 wl2.length c2, .int .i64 z])) (((w5.setCell ⟨b0, 0, none⟩ (.slice A2 wl2.length c2)).setCell ⟨b1, 0, none⟩ (.int .i64 z)).putObj w1.heap.size (.deferred none)) from by
      have kf := ((KeepsOthers.setCell w5 ⟨b0, 0, none⟩ (.slice A2 wl2.length c2)).trans (KeepsOthers.setCell _ ⟨b1, 0, none⟩ (.int .i64 z))).same _ _ hk5 rfl
      have k0 := ((HR.out.ext x5).set 0 (.slice A2 wl2.length c2)).far (p := ⟨b1, 0, none⟩) (by show b1 ≠ b0; omega) (.int .i64 z)
      have k1 := ((HE.out.ext x5).far (p := ⟨b0, 0, none⟩) (by show b0 ≠ b1; omega) (.slice A2 wl2.length c2)).set 0 (.int .i64 z)
      have l1 := (HL.out.ext x5).far (HR.out.ext x5) (by decide) (by omega) (by omega) (.slice A2 wl2.length c2)
      have l2 := l1.far ((HE.out.ext x5).far (p := ⟨b0, 0, none⟩) (by show b0 ≠ b1; omega) (.slice A2 wl2.length c2)) (by decide) (by omega) (by omega) (.int .i64 z)
      have x9 : Ext w ((w5.setCell ⟨b0, 0, none⟩ (.slice A2 wl2.length c2)).setCell ⟨b1, 0, none⟩ (.int .i64 z)) := ((HX0.out.trans x5).setCell (p := ⟨b0, 0, none⟩) (by show _ ≤ b0; omega) _).setCell (p := ⟨b1, 0, none⟩) (by show _ ≤ b1; omega) _
      generalize (w5.setCell ⟨b0, 0, none⟩ (.slice A2 wl2.length c2)).setCell ⟨b1, 0, none⟩ (.int .i64 z) = WF at *
      have hg := grownBy_putObj' WF w1.heap.size (.deferred none)
      have hr : ∀ r, some w1.heap.size = some r → ∃ o : Obj, WF.heap[r]? = some o ∧ o.isCells = false := fun r e => by cases e; exact ⟨_, kf, rfl⟩
      obtain ⟨s1, s2⟩ := hy _ (l2.kept hg hr)
      refine ⟨kf, (blk_row k0 hg hr).cell 0, (blk_row k1 hg hr).cell 0, ext_row x9 hg (fun r e => by cases e; omega), A2, c2, wl2, by rw [hq], by rw [hq], s1, s2, hok, hc2⟩)
    go_wp2_with fail
    refine C.out.mono ?_
    rintro e w5 ⟨rfl, x5⟩
    have q2 := x5.at q2
    have q0 : w5.cell? ⟨b0, 0, none⟩ = some (.slice none 0 0) := (HR.out.ext x5).cell 0
    have q1 : w5.cell? ⟨b1, 0, none⟩ = some (.int .i64 0) := (HE.out.ext x5).cell 0
    have f0 := (HR.out.ext x5).free 0
    have f1 := (HE.out.ext x5).free 0
    have k5 := (x5.block _ (Array.getElem?_eq_some_iff.1 HK.out).1).trans HK.out
    cases bb with
    | false =>
      have F := Lib.hid (FIN.out w5 x5 [] none 0 130 k5 (Nat.le_refl _) (by unfold maxLen; omega) (fun W2 _ => ⟨SeenC.nil, fun y hy => by simp at hy⟩) (by rw [HRA.out]; rfl))
      clear FIN C k5
      go_wp2_with fail
      obtain ⟨g1, g2, g3, g4⟩ := F.out
      rw [HZ1.out, List.length_nil] at g1 g2 g3 g4
      exact ⟨by simp, .inl ⟨_, _, rfl, run_takeDeferred g1, ⟨_, results_ones rfl _ _ b0 b1 (.slice none 0 0) (.int .i64 130) rfl rfl g2 g3 (Tryd.isAgg24 _) (Tryd.isAgg25 _), g4⟩⟩⟩
    | true =>
      have F := Lib.hid (FIN.out w5 x5 wl Al cl 0 k5 h1 h2 (fun W2 hl2 => by
        obtain ⟨A3, c3, e3, _, _, h3⟩ := hl2.look
        cases e3
        exact ⟨h3, fun y hy => (hl2.inn y hy).2.2.1⟩) (by rw [HRA.out]; rfl))
      clear FIN C k5
      go_wp2_with fail
      obtain ⟨g1, g2, g3, g4⟩ := F.out
      rw [HZ1.out] at g1 g2 g3 g4
      exact ⟨by simp, .inl ⟨_, _, rfl, run_takeDeferred g1, ⟨_, results_ones rfl _ _ b0 b1 (.slice Al wl.length cl) (.int .i64 0) rfl rfl g2 g3 (Tryd.isAgg24 _) (Tryd.isAgg25 _), g4⟩⟩⟩
  case stop =>
    rintro cd pre W' hSp ⟨⟨rfl, hno, hR, hE⟩, hx0⟩ hK
    have HRA := Lib.hid (readA_stop hSp hno)
    have hg := grownBy_putObj' W' w1.heap.size (.deferred none)
    have hr : ∀ r, some w1.heap.size = some r → ∃ o : Obj, W'.heap[r]? = some o ∧ o.isCells = false := fun r e => by cases e; exact ⟨_, hK, rfl⟩
    have F := Lib.hid (show (W'.putObj w1.heap.size (.deferred none)).cell? ⟨b0, 0, none⟩ = some (.slice none 0 0) ∧ (W'.putObj w1.heap.size (.deferred none)).cell? ⟨b1, 0, none⟩ = some (.int .i64 130) ∧ ReadQ w (readA l) (.returned (.tuple #[.slice none 0 0, .int .i64 130])) (W'.putObj w1.heap.size (.deferred none)) from
      ⟨(blk_row hR hg hr).cell 0, (blk_row hE hg hr).cell 0, ext_row hx0 hg (fun r e => by cases e; omega), none, 0, [], by rw [HRA.out]; rfl, by rw [HRA.out]; rfl, SeenC.nil, fun y hy => by simp at hy, Nat.le_refl _, by unfold maxLen; omega⟩)
    clear hR hE hx0 hno hSp hg hr HRA
    gi_wp2
    obtain ⟨g2, g3, g4⟩ := F.out
    exact ⟨by simp, .inl ⟨_, _, rfl, run_takeDeferred hK, ⟨_, results_ones rfl _ _ b0 b1 (.slice none 0 0) (.int .i64 130) rfl rfl g2 g3 (Tryd.isAgg24 _) (Tryd.isAgg25 _), g4⟩⟩⟩
end L13
end Go.Proofs.YtbiklbomacjihaaDoor

