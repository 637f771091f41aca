/- Patterns copied into a variable of one's own, and what is then written over them. -/
import Derived.Test.YtfdoohangemojaaThree11
namespace Go.Proofs.Ytfdoohangemojaa
open Go.RowKit
open Go.Lib hiding intOf
namespace L11
open L10 (TN plainB patB tn rd patsB)

theorem int_info11 : (Try.prog.info? 3).map (fun i => (i.zero, i.size, i.bytes)) = some (some (.int .i64 0), 1, 8) := by kernel_rfl
/-- append([]int{}, x...). -/
theorem run_copy (w : World) (A : Option Addr) (l : List Int) (n c : Nat) (hs : SeenL w A l) (hn : n = l.length) (hm : l.length ≤ 1000000) (ty : TypeId) :
    ∃ A' c' w', (Builtin.append_ #[25, 25] ty #[.slice (some ⟨w.heap.size, 0, none⟩) 0 0, .slice A n c]).run Try.prog (w.alloc (.cells #[] 3)) = .ok (.slice A' n c') w' ∧
      Ext w (w.alloc (.cells #[] 3)) ∧ Ext w w' ∧ w'.ownsRow w.heap.size 3 1 (.slice A' l.length c') l.length (l.map (.int .i64)) := by
  subst hn
  obtain ⟨i, hi, hz0, hsz, hby⟩ := info_parts int_info11
  have x0 : Ext w (w.alloc (.cells #[] 3)) := (Ext.refl w).alloc _
  have o0 := World.ownsRow_lit (base := w.heap.size) (e := 3) (size := 1) w #[] 0 (Nat.le_refl _) (by unfold maxLen; omega) (by simp)
  have hs := hs.ext x0
  rcases A with _ | ad
  · have hl : l = [] := by
      rcases l with _ | ⟨b, l⟩
      · rfl
      · obtain ⟨_, e, _⟩ := hs.get (k := 0) (by simp); cases e
    subst hl
    have ht := Try.underlying25
    refine ⟨some ⟨w.heap.size, 0, none⟩, 0, _, ?_, x0, x0, by simpa using o0⟩
    simp [Builtin.append_, run_underlying ht, Go.sizeOf, typeInfo, hi, Builtin.lenOf, Builtin.firstCells, storeCells]
  · obtain ⟨v', w', hrun, h2, h3, _, _⟩ := run_append_own_at (P := Try.prog) (w := w.alloc (.cells #[] 3)) w.heap.size 25 ty 3 i (.int .i64 0) 1 8 Try.underlying25 hi hz0 hsz hby rfl (by omega) _ 0 [] (by simpa using o0) ad l.length c (l.map (.int .i64)) (by simp)
      (fun j u hu => by
        obtain ⟨ad', e, _, hc⟩ := hs j u hu
        cases e
        exact hc) (fun u hu => by obtain ⟨z, _, rfl⟩ := List.mem_map.1 hu; rfl) (by unfold maxLen; omega) (by omega) x0.size
    rw [Nat.zero_add, List.nil_append] at h2
    obtain ⟨A', c', rfl, _⟩ := own_seen h2
    exact ⟨A', c', w', hrun, x0, Below.grown x0 h3 x0.size (fun k hk => by
      have : k = w.heap.size := by simpa [Value.ownBlock] using hk.symm
      omega), h2⟩

/-- Its numbers, a row of one's own. -/
def NumsAt (b : Nat) (w : World) (y : WP) : Prop := w.ownsRow b 3 1 (.slice y.A y.ns.length y.c) y.ns.length (y.ns.map (.int .i64))
theorem NumsAt.ext {b : Nat} {w w' : World} {y : WP} (h : NumsAt b w y) (x : Ext w w') : NumsAt b w' y := OwnsRow.ext h x
/-- A row of other elements may grow. -/
theorem NumsAt.but {b : Nat} {w w' : World} {y : WP} {S : Nat → Prop} (h : NumsAt b w y) (x : But S w w') (hS : ∀ g cur, S g → w.heap[g]? = some (.cells cur 3 (0, 0)) → False) : NumsAt b w' y := by
  refine ⟨h.1, ?_⟩
  rcases h.2 with hn | ⟨g, cap, cur, e, hb, hgg, rest⟩
  · exact .inl hn
  · exact .inr ⟨g, cap, cur, e, hb, (x.block g (Array.getElem?_eq_some_iff.1 hgg).1 (fun hk => hS g cur hk hgg)).trans hgg, rest⟩
theorem NumsAt.seen {b : Nat} {w : World} {y : WP} (h : NumsAt b w y) : SeenL w y.A y.ns := by
  obtain ⟨A, c, e, hs⟩ := own_seen h
  cases e
  exact hs
theorem NumsAt.room {b : Nat} {w : World} {y : WP} (h : NumsAt b w y) : y.ns.length ≤ y.c ∧ y.c ≤ maxLen := by
  obtain ⟨s, ns, A, c⟩ := y
  rcases h.2 with ⟨e, h0⟩ | ⟨g, cap, cur, e, _, _, h1, h2, _⟩
  · simp only [Value.slice.injEq] at e
    exact ⟨by show ns.length ≤ c; omega, by show c ≤ maxLen; unfold maxLen; omega⟩
  · simp only [Value.slice.injEq] at e
    have h1 : ns.length ≤ cap := h1
    exact ⟨by show ns.length ≤ c; omega, by show c ≤ maxLen; omega⟩
/-- Copied patterns, in a variable. -/
structure CAt (Q : Nat) (w wr : World) (vl : Value) (cl : List WP) : Prop where
  x : Ext w wr
  box : Blk wr Q 37 [vl, .slice none 0 0]
  bQ : w.heap.size ≤ Q
  row : wr.ownsRow (Q + 1) 49 2 vl cl.length (flatW cl)
  nums : ∀ y ∈ cl, NumsAt (Q + 1) wr y
theorem CAt.ext {Q : Nat} {w wr w' : World} {vl : Value} {cl : List WP} (h : CAt Q w wr vl cl) (x : Ext wr w') : CAt Q w w' vl cl :=
  ⟨h.x.trans x, h.box.ext x, h.bQ, OwnsRow.ext h.row x, fun y hy => (h.nums y hy).ext x⟩
theorem CAt.bw {Q : Nat} {w wr : World} {vl : Value} {cl : List WP} (h : CAt Q w wr vl cl) : Q + 1 ≤ wr.heap.size := h.box.lt
theorem CAt.seen {Q : Nat} {w wr : World} {vl : Value} {cl : List WP} (h : CAt Q w wr vl cl) : ∃ A c, vl = .slice A cl.length c ∧ SeenPats wr ⟨cl, []⟩ ⟨A, c, none, 0⟩ := by
  obtain ⟨A, c, e, hs⟩ := own_seenW h.row (fun y hy => (h.nums y hy).seen)
  exact ⟨A, c, e, ⟨hs, SeenW.nil⟩⟩
/-- One pattern more: its numbers copied, it put behind. -/
theorem copy_step {Q : Nat} {w3 wr : World} {vl : Value} {cl : List WP} (hq : CAt Q w3 wr vl cl) (y : WP) (n : Nat) (hn : n = y.ns.length) (sy : SeenL w3 y.A y.ns) (hy : y.ns.length ≤ 1000) (hcl : cl.length ≤ 400) (ty tz : TypeId) :
    ∃ A8 c8 w9 A' n' c' w', (Builtin.append_ #[25, 25] ty #[.slice (some ⟨wr.drew.heap.size, 0, none⟩) 0 0, .slice y.A n y.c]).run Try.prog (wr.drew.alloc (.cells #[] 3)) = .ok (.slice A8 n c8) w9 ∧
      (Builtin.append_ #[34, 34] tz #[vl, .slice (some ⟨w9.heap.size, 0, none⟩) 1 1]).run Try.prog (w9.alloc (.cells #[.string y.s, .slice A8 n c8] 49)) = .ok (.slice A' n' c') w' ∧
      CAt Q w3 (w'.setCell ⟨Q, 0, none⟩ (.slice A' n' c')) (.slice A' n' c') (cl ++ [⟨y.s, y.ns, A8, c8⟩]) ∧ (w'.cell? ⟨Q, 0, none⟩ = some vl ∧ w'.frozen? ⟨Q, 0, none⟩ = false) ∧
      (wr.drew.cell? ⟨Q, 0, none⟩ = some vl ∧ (wr.drew.alloc (.cells #[] 3)).cell? ⟨Q, 0, none⟩ = some vl ∧ w9.cell? ⟨Q, 0, none⟩ = some vl ∧ (w9.alloc (.cells #[.string y.s, .slice A8 n c8] 49)).cell? ⟨Q, 0, none⟩ = some vl) ∧
      (Ext w3 wr.drew ∧ Ext w3 (wr.drew.alloc (.cells #[] 3)) ∧ Ext w3 w9 ∧ Ext w3 (w9.alloc (.cells #[.string y.s, .slice A8 n c8] 49)) ∧ Ext w3 w' ∧ Ext w3 (w'.setCell ⟨Q, 0, none⟩ (.slice A' n' c'))) := by
  subst hn
  have q7 := hq.ext ((Ext.refl wr).drew)
  obtain ⟨A8, c8, w9, r1, x8, x9, n9⟩ := run_copy wr.drew y.A y.ns _ y.c (sy.ext q7.x) rfl (by omega) ty
  have q8 := q7.ext x8
  have q9 := q7.ext x9
  have x10 : Ext w9 (w9.alloc (.cells #[.string y.s, .slice A8 y.ns.length c8] 49)) := (Ext.refl _).alloc _
  have q10 := q9.ext x10
  obtain ⟨i, hi, hz0, hsz, hby⟩ := info_parts pats_info
  have kL : Blk (w9.alloc (.cells #[.string y.s, .slice A8 y.ns.length c8] 49)) w9.heap.size 49 [.string y.s, .slice A8 y.ns.length c8] := Blk.lit _ _ _ _ rfl
  obtain ⟨v', w', hr, ho, hg, _, _⟩ := run_append_own_at (P := Try.prog) (w9.alloc (.cells #[.string y.s, .slice A8 y.ns.length c8] 49)) (Q + 1) 34 tz 49 i (.agg #[.string ⟨#[]⟩, .slice none 0 0]) 2 40 Try.underlying34 hi hz0 hsz hby rfl (by omega) vl cl.length (flatW cl) q10.row ⟨w9.heap.size, 0, none⟩ 1 1 (flatW [⟨y.s, y.ns, A8, c8⟩]) (flatW_length _)
    (fun j u hu => by
      have hj := (List.getElem?_eq_some_iff.1 hu).1
      have e1 : (⟨w9.heap.size, 0, none⟩ : Addr).add j = ⟨w9.heap.size, j, none⟩ := by
        unfold Addr.add; by_cases h0 : j = 0 <;> simp [h0]
      rw [e1, kL.cell]
      exact hu) (flatW_one _) (by unfold maxLen; omega) (by omega) q10.bw
  obtain ⟨A', c', rfl, _⟩ := own_seen ho
  have BG : But (fun k => vl.ownBlock = some k) (w9.alloc (.cells #[.string y.s, .slice A8 y.ns.length c8] 49)) w' := But.of_grown hg (fun g hg => hg)
  have oQ : vl.ownBlock ≠ some Q := fun e => by have := (q10.row.lt _ e).1; omega
  have kb := BG.blk q10.box oQ
  have hb := hq.bQ
  have BS : But (Only Q) w' (w'.setCell ⟨Q, 0, none⟩ (.slice A' (cl.length + 1) c')) := But.set (S := Only Q) w' ⟨Q, 0, none⟩ _ rfl
  have BA : But (fun k => k = Q ∨ vl.ownBlock = some k) (w9.alloc (.cells #[.string y.s, .slice A8 y.ns.length c8] 49)) (w'.setCell ⟨Q, 0, none⟩ (.slice A' (cl.length + 1) c')) := (BG.mono (T := fun k => k = Q ∨ vl.ownBlock = some k) (fun _ _ h => .inr h)).trans BS (fun i hi => .inl (.inl hi))
  have hrt : ∀ g cur, (g = Q ∨ vl.ownBlock = some g) → (w9.alloc (.cells #[.string y.s, .slice A8 y.ns.length c8] 49)).heap[g]? = some (.cells cur 3 (0, 0)) → False := fun g cur hk hh => by
    rcases hk with rfl | hk
    · have := q10.box
      unfold Blk at this
      rw [this] at hh
      simp only [Option.some.injEq, Obj.cells.injEq] at hh
      exact absurd hh.2.1 (by decide)
    · rcases q10.row.2 with ⟨e, _⟩ | ⟨g', cap, cur', e, _, hgg, _⟩
      · rw [e] at hk; cases hk
      · rw [e] at hk
        have : g' = g := by simpa [Value.ownBlock] using hk
        rw [this] at hgg
        rw [hgg] at hh
        simp only [Option.some.injEq, Obj.cells.injEq] at hh
        exact absurd hh.2.1 (by decide)
  refine ⟨A8, c8, w9, A', _, c', w', r1, hr, ⟨BA.ext q10.x (fun k hk => hk.elim (fun e => by omega) (fun e => by have := (q10.row.lt _ e).1; omega)), kb.set 0 _, hb, ?_, fun z hz => ?_⟩, ⟨kb.cell 0, kb.free 0⟩, ⟨q7.box.cell 0, q8.box.cell 0, q9.box.cell 0, q10.box.cell 0⟩, q7.x, q8.x, q9.x, q10.x, BG.ext q10.x (fun k hk => by have := (q10.row.lt k hk).1; omega), ?_⟩
  · rw [flatW_append, List.length_append]
    exact ownsRow_setCell_below ho (by show Q < Q + 1; omega) _
  · rcases List.mem_append.1 hz with h | h
    · exact (q10.nums z h).but BA hrt
    · rw [List.mem_singleton.1 h]
      have hw : Q + 1 ≤ wr.drew.heap.size := q7.bw
      have n10 : NumsAt (Q + 1) (w9.alloc (.cells #[.string y.s, .slice A8 y.ns.length c8] 49)) ⟨y.s, y.ns, A8, c8⟩ := by
        refine NumsAt.ext ?_ x10
        refine ⟨n9.1, ?_⟩
        rcases n9.2 with h | ⟨g, cap, cur, e, hb, rest⟩
        · exact .inl h
        · exact .inr ⟨g, cap, cur, e, by omega, rest⟩
      exact n10.but BA hrt
  · exact BA.ext q10.x (fun k hk => hk.elim (fun e => by omega) (fun e => by have := (q10.row.lt _ e).1; omega))

/-- The copies, while they are written over: strings, slices of numbers, numbers, whatever they say. -/
structure Over (Q N g : Nat) (wr : World) (A : Option Addr) (cl : List WP) (c : Nat) : Prop where
  box : wr.cell? ⟨Q, 0, none⟩ = some (.slice A cl.length c)
  at_ : ∀ i, i < cl.length → A = some ⟨g, 0, none⟩ ∧ Q < g ∧ g < N
  str : ∀ i, i < cl.length → (∃ s, wr.cell? ⟨g, i * 2, none⟩ = some (.string s)) ∧ wr.frozen? ⟨g, i * 2, none⟩ = false
  sl : ∀ i (h : i < cl.length), wr.cell? ⟨g, i * 2 + 1, none⟩ = some (.slice cl[i].A cl[i].ns.length cl[i].c)
  num : ∀ y ∈ cl, ∀ k, k < y.ns.length → ∃ b v, y.A = some ⟨b, 0, none⟩ ∧ wr.cell? ⟨b, k, none⟩ = some (.int .i64 v) ∧ wr.frozen? ⟨b, k, none⟩ = false ∧ b ≠ g ∧ Q < b ∧ b < N
theorem Over.keep {Q N g : Nat} {wr w' : World} {A : Option Addr} {cl : List WP} {c : Nat} (h : Over Q N g wr A cl c) (x : Ext wr w') : Over Q N g w' A cl c :=
  ⟨x.at h.box, h.at_, fun i hi => by
    obtain ⟨⟨s, h1⟩, h2⟩ := h.str i hi
    exact ⟨⟨s, x.at h1⟩, x.fz h1 h2⟩, fun i hi => x.at (h.sl i hi), fun y hy k hk => by
    obtain ⟨b, v, e, h1, h2, h3⟩ := h.num y hy k hk
    exact ⟨b, v, e, x.at h1, x.fz h1 h2, h3⟩⟩
theorem Over.putS {Q N g : Nat} {wr : World} {A : Option Addr} {cl : List WP} {c : Nat} (h : Over Q N g wr A cl c) (i : Nat) (hi : i < cl.length) (s : ByteArray) : Over Q N g (wr.setCell ⟨g, i * 2, none⟩ (.string s)) A cl c := by
  obtain ⟨_, a1, a2⟩ := h.at_ i hi
  refine ⟨?_, h.at_, fun j hj => ⟨?_, by rw [World.frozen?_setCell]; exact (h.str j hj).2⟩, fun j hj => ?_, fun y hy k hk => ?_⟩
  · rw [World.cell?_setCell_other _ _ _ _ (by intro e; simp only [Addr.mk.injEq] at e; omega)]; exact h.box
  · by_cases e : j = i
    · subst e
      obtain ⟨⟨s', h1⟩, _⟩ := h.str j hj
      exact ⟨s, World.cell?_setCell_same _ _ _ h1⟩
    · obtain ⟨⟨s', h1⟩, _⟩ := h.str j hj
      exact ⟨s', by rw [World.cell?_setCell_other _ _ _ _ (by intro e'; simp only [Addr.mk.injEq] at e'; omega)]; exact h1⟩
  · rw [World.cell?_setCell_other _ _ _ _ (by intro e'; simp only [Addr.mk.injEq] at e'; omega)]
    exact h.sl j hj
  · obtain ⟨b, v, e, h1, h2, h3, h4⟩ := h.num y hy k hk
    refine ⟨b, v, e, ?_, by rw [World.frozen?_setCell]; exact h2, h3, h4⟩
    rw [World.cell?_setCell_other _ _ _ _ (by intro e'; simp only [Addr.mk.injEq] at e'; omega)]
    exact h1
theorem Over.putN {Q N g : Nat} {wr : World} {A : Option Addr} {cl : List WP} {c : Nat} (h : Over Q N g wr A cl c) (b k : Nat) (hb : b ≠ g ∧ Q < b) (z : Int) : Over Q N g (wr.setCell ⟨b, k, none⟩ (.int .i64 z)) A cl c := by
  refine ⟨?_, h.at_, fun j hj => ⟨?_, by rw [World.frozen?_setCell]; exact (h.str j hj).2⟩, fun j hj => ?_, fun y hy m hm => ?_⟩
  · rw [World.cell?_setCell_other _ _ _ _ (by intro e; simp only [Addr.mk.injEq] at e; omega)]; exact h.box
  · obtain ⟨⟨s', h1⟩, _⟩ := h.str j hj
    exact ⟨s', by rw [World.cell?_setCell_other _ _ _ _ (by intro e'; simp only [Addr.mk.injEq] at e'; omega)]; exact h1⟩
  · rw [World.cell?_setCell_other _ _ _ _ (by intro e'; simp only [Addr.mk.injEq] at e'; omega)]
    exact h.sl j hj
  · obtain ⟨b', v, e, h1, h2, h3, h4⟩ := h.num y hy m hm
    by_cases e' : b = b' ∧ k = m
    · obtain ⟨rfl, rfl⟩ := e'
      exact ⟨b, z, e, World.cell?_setCell_same _ _ _ h1, by rw [World.frozen?_setCell]; exact h2, h3, h4⟩
    · refine ⟨b', v, e, ?_, by rw [World.frozen?_setCell]; exact h2, h3, h4⟩
      rw [World.cell?_setCell_other _ _ _ _ (by intro e2; simp only [Addr.mk.injEq] at e2; exact e' ⟨e2.1, e2.2.1⟩)]
      exact h1
/-- They lie so when they are made. -/
theorem CAt.over {Q : Nat} {w wr : World} {vl : Value} {cl : List WP} (h : CAt Q w wr vl cl) : ∃ A c g, vl = .slice A cl.length c ∧ Over Q wr.heap.size g wr A cl c := by
  rcases h.row.2 with ⟨e, h0⟩ | ⟨g, cap, cur, e, hb, hgg, h1, h2, h3, h4⟩
  · refine ⟨none, 0, 0, by rw [e, h0], ?_, fun i hi => by omega, fun i hi => by omega, fun i hi => by omega, fun y hy => by
      have : cl = [] := List.eq_nil_of_length_eq_zero h0
      subst this; simp at hy⟩
    have := h.box.cell 0
    rw [e] at this
    rw [h0]
    simpa using this
  · have hlt := (Array.getElem?_eq_some_iff.1 hgg).1
    have hcell : ∀ j u, (flatW cl)[j]? = some u → wr.cell? ⟨g, j, none⟩ = some u := fun j u hu => by
      have hj := (List.getElem?_eq_some_iff.1 hu).1
      rw [flatW_length] at hj
      have : wr.cell? ⟨g, j, none⟩ = cur[j]? := by simp [World.cell?, hgg]
      rw [this, ← Array.getElem?_toList]
      rw [← h4, List.getElem?_take, if_pos hj] at hu
      exact hu
    have hfz : ∀ j, wr.frozen? ⟨g, j, none⟩ = false := fun j => by simp [World.frozen?, hgg]
    refine ⟨some ⟨g, 0, none⟩, cap, g, e, ?_, fun i hi => ⟨rfl, by omega, hlt⟩, fun i hi => ⟨⟨_, hcell _ _ (flatW_get cl i _ (List.getElem?_eq_getElem hi)).1⟩, hfz _⟩, fun i hi => hcell _ _ (flatW_get cl i _ (List.getElem?_eq_getElem hi)).2, fun y hy k hk => ?_⟩
    · have := h.box.cell 0
      rw [e] at this
      simpa using this
    · have hn := h.nums y hy
      obtain ⟨s, ns, yA, yc⟩ := y
      rcases hn.2 with ⟨_, h0⟩ | ⟨b, cap', cur', e', hb', hgg', g1, g2, g3, g4⟩
      · exact absurd h0 (by show ns.length ≠ 0; have : k < ns.length := hk; omega)
      · simp only [Value.slice.injEq] at e'
        have hk' : k < ns.length := hk
        refine ⟨b, ns[k], e'.1, ?_, by simp [World.frozen?, hgg'], fun e => ?_, by omega, (Array.getElem?_eq_some_iff.1 hgg').1⟩
        · have : wr.cell? ⟨b, k, none⟩ = cur'[k]? := by simp [World.cell?, hgg']
          rw [this, ← Array.getElem?_toList]
          have h5 : (ns.map (Value.int .i64))[k]? = some (.int .i64 ns[k]) := by simp [hk']
          rw [← g4, List.getElem?_take, if_pos (by show k < ns.length * 1; omega)] at h5
          exact h5
        · rw [e, hgg] at hgg'
          simp only [Option.some.injEq, Obj.cells.injEq] at hgg'
          exact absurd hgg'.2.1 (by decide)
end L11
end Go.Proofs.Ytfdoohangemojaa

