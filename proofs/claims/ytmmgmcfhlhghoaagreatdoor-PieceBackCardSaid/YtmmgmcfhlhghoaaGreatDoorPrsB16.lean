/- What the landed Breaks keeps over one more break; where it stops; the landed penalty, and the points' function. -/
import Derived.Test.YtmmgmcfhlhghoaaGreatDoorPrsA16
namespace Go.Proofs.YtmmgmcfhlhghoaaGreatDoor
open Go.RowKit
namespace L16
open L10 (TN tn)
open L11 (TrieAt)
open L13 (TW tw checkB)
open L14 (LayD LayOk layC mayL Wide)

theorem keeps16_ext {B : Nat} {W W' : World} (x : Ext W W') : KeepsFrom B W W' := ⟨x.size, fun k _ _ hk _ => (x.block k (Array.getElem?_eq_some_iff.1 hk).1).trans hk⟩
theorem BI.ext {J : Job} {D bR bE bV N : Nat} {pre : List Brk} {W W' : World} (P : Plc J D bR bE bV N) (h : BI J D bR bE bV N pre W) (x : Ext W W') : BI J D bR bE bV N pre W' := by
  obtain ⟨v, hv, ho⟩ := h.list
  obtain ⟨F, a, fr⟩ := h.free
  exact h.stp P ((a.ask x).stp fr fun k hk => own_same hv (But.of_ext (S := fun _ => False) x) id hk).1
theorem BI.kp {J : Job} {D bR bE bV N : Nat} {pre : List Brk} {W W' : World} (h : BI J D bR bE bV N pre W) (x : Ext W W') : KpB D bR bE bV W W' := by
  obtain ⟨v, hv, ho⟩ := h.list
  exact KpB.of_but (But.of_ext x) fun k hk => .inl (own_same hv (But.of_ext (S := fun _ => False) x) id hk)
theorem BI.put {J : Job} (O : J.Ok) {D bR bE bV N : Nat} {pre : List Brk} {W : World} {v : Value} (P : Plc J D bR bE bV N) (h : BI J D bR bE bV N pre W) (hl : pre.length < 200) (b : Brk) (hv : Blk W bV 35 [v]) (ho : OwnR N W v pre) (ty : TypeId) :
    ∃ A9 n9 c9 w9, (Builtin.append_ #[35, 35] ty #[v, .slice (some ⟨W.heap.size, 0, none⟩) 1 1]).run Tryz.prog (W.alloc (.cells #[.int .i64 b.1, .int .i64 b.2.1, .int .i64 b.2.2] 43)) = .ok (.slice A9 n9 c9) w9 ∧
      w9.cell? ⟨bV, 0, none⟩ = some v ∧ w9.frozen? ⟨bV, 0, none⟩ = false ∧ BI J D bR bE bV N (pre ++ [b]) (w9.setCell ⟨bV, 0, none⟩ (.slice A9 n9 c9)) ∧ KpB D bR bE bV W (w9.setCell ⟨bV, 0, none⟩ (.slice A9 n9 c9)) ∧ KeepsFrom D W (w9.setCell ⟨bV, 0, none⟩ (.slice A9 n9 c9)) := by
  obtain ⟨F, a, fr⟩ := h.free
  have hB := P.fB; have hR := P.fR; have hE := P.fE; have hV := P.fV; have hN := P.fN; have hD := P.fD; have hND := P.fND
  have hDs := (fr D (.inl rfl)).2
  obtain ⟨v9, w9, hr, ho9, hg, hrow⟩ := ho.put (by omega) b (by omega) ty
  obtain ⟨A9, c9, rfl, _⟩ := own_seen ho9
  have x0 : Ext W (W.alloc (.cells #[.int .i64 b.1, .int .i64 b.2.1, .int .i64 b.2.2] 43)) := (Ext.refl W).alloc _
  have rv : ∀ k, v.ownBlock = some k → ownK D bR bE bV W k := fun k e => .inr (.inr (.inr (.inr (.inr ⟨v, hv.cell 0, e⟩))))
  have nv : v.ownBlock ≠ some bV := row_far ho hv (by decide)
  have nr : v.ownBlock ≠ some bR := row_far ho h.res (by decide)
  have ne : v.ownBlock ≠ some bE := row_far ho h.err (by decide)
  have b1 : But (ownK D bR bE bV W) W w9 := (But.of_ext (S := ownK D bR bE bV W) x0).trans (But.of_grown (S := ownK D bR bE bV W) hg rv) fun _ => Or.inl
  have k9 : Blk w9 bV 35 [v] := (But.of_grown (S := fun k => v.ownBlock = some k) hg fun _ e => e).blk (hv.ext x0) nv
  have r9 : Blk w9 bR 35 [.slice none 0 0] := (But.of_grown (S := fun k => v.ownBlock = some k) hg fun _ e => e).blk (h.res.ext x0) nr
  have e9 : Blk w9 bE 32 [.int .i64 0] := (But.of_grown (S := fun k => v.ownBlock = some k) hg fun _ e => e).blk (h.err.ext x0) ne
  have b2 : But (ownK D bR bE bV W) W (w9.setCell ⟨bV, 0, none⟩ (.slice A9 (pre ++ [b]).length c9)) := b1.trans (But.set (S := ownK D bR bE bV W) w9 ⟨bV, 0, none⟩ _ (.inr (.inr (.inr (.inr (.inl rfl)))))) fun _ => Or.inl
  have ow : ∀ k, ownK D bR bE bV (w9.setCell ⟨bV, 0, none⟩ (.slice A9 (pre ++ [b]).length c9)) k → ownK D bR bE bV W k ∨ W.heap.size ≤ k := fun k hk => by
    rcases hk with g | g | g | g | g | ⟨v2, hv2, hk2⟩
    · exact .inl (.inl g)
    · exact .inl (.inr (.inl g))
    · exact .inl (.inr (.inr (.inl g)))
    · exact .inl (.inr (.inr (.inr (.inl g))))
    · exact .inl (.inr (.inr (.inr (.inr (.inl g)))))
    · rw [(k9.set 0 _).cell 0] at hv2
      cases hv2
      rcases hrow with e | e
      · rw [e] at hk2; exact .inl (rv k hk2)
      · rw [e] at hk2; cases hk2; exact .inr (by omega)
  have n9 : ∀ k, v.ownBlock = some k → k ≠ bV := fun k e g => nv (by rw [e, g])
  refine ⟨A9, _, c9, w9, hr, k9.cell 0, k9.free 0, ⟨⟨F, a.set b2 (fun k hk => ⟨(fr k hk).1, ?_, own_low P hv ho hk⟩) O (fun p => own_fn P hv ho a p), fun k hk => ?_⟩,
    r9.far (p := ⟨bV, 0, none⟩) (by show bV ≠ bR; omega) _, e9.far (p := ⟨bV, 0, none⟩) (by show bV ≠ bE; omega) _, ⟨_, k9.set 0 _, ?_⟩, by rw [List.length_append]; simp; omega⟩, KpB.of_but b2 ow, ?_⟩
  · have := own_low P hv ho hk
    omega
  · rcases ow k hk with g | g
    · exact ⟨(fr k g).1, Nat.lt_of_lt_of_le (fr k g).2 b2.size⟩
    · refine ⟨a.new g, ?_⟩
      rcases hk with e | e | e | e | e | ⟨v2, hv2, hk2⟩
      · have := (fr D (.inl rfl)).2; omega
      · have := (fr (D + 1) (.inr (.inl rfl))).2; omega
      · have := h.res.lt; omega
      · have := h.err.lt; omega
      · have := hv.lt; omega
      · rw [(k9.set 0 _).cell 0] at hv2
        cases hv2
        have := (ho9.lt k hk2).2
        simpa [World.setCell] using this
  · exact OwnR.but ho9 (But.set (S := Only bV) w9 ⟨bV, 0, none⟩ _ rfl) (fun k _ e g => row_far ho9 k9 (by decide) (by rw [e]; exact congrArg some g))
  · exact (keeps16_ext (B := D) x0).trans (((KeepsOthers.of_grownBy hg (fun j o => row_cells (OwnsRow.ext ho x0) j o)).trans (KeepsOthers.setCell _ _ _)).from _)
theorem BI.stop {J : Job} (O : J.Ok) {D bR bE bV N : Nat} {pre : List Brk} {W : World} (P : Plc J D bR bE bV N) (h : BI J D bR bE bV N pre W) (hl : pre.length = 200) (b : Brk) :
    BX J D bR bE .ret (pre ++ [b]) ((W.setCell ⟨bR, 0, none⟩ (.slice none 0 0)).setCell ⟨bE, 0, none⟩ (.int .i64 160)) := by
  obtain ⟨F, a, fr⟩ := h.free
  obtain ⟨v, hv, ho⟩ := h.list
  have hB := P.fB; have hR := P.fR; have hE := P.fE; have hV := P.fV; have hD := P.fD
  have x : But (fun k => k = bR ∨ k = bE) W ((W.setCell ⟨bR, 0, none⟩ (.slice none 0 0)).setCell ⟨bE, 0, none⟩ (.int .i64 160)) :=
    (But.set (S := fun k => k = bR ∨ k = bE) W ⟨bR, 0, none⟩ _ (.inl rfl)).trans (But.set (S := fun k => k = bR ∨ k = bE) _ ⟨bE, 0, none⟩ _ (.inr rfl)) fun _ => Or.inl
  refine ⟨rfl, by rw [List.length_append, hl]; simp, ⟨F, a.set x (fun k e => ?_) O (fun p => ?_), (fr D (.inl rfl)).1, (fr (D + 1) (.inr (.inl rfl))).1⟩, (h.res.set 0 (.slice none 0 0)).far (p := ⟨bE, 0, none⟩) (by show bE ≠ bR; omega) _, (h.err.far (p := ⟨bR, 0, none⟩) (by show bR ≠ bE; omega) _).set 0 (.int .i64 160)⟩
  · rcases e with e | e <;> subst e
    · exact ⟨(fr _ (.inr (.inr (.inl rfl)))).1, by omega, by omega⟩
    · exact ⟨(fr _ (.inr (.inr (.inr (.inl rfl))))).1, by omega, by omega⟩
  · obtain ⟨n1, n2, n3⟩ := own_fn P hv ho a p
    exact ⟨fun e => n1 (by rcases e with e | e <;> rw [e]; exact .inr (.inr (.inl rfl)); exact .inr (.inr (.inr (.inl rfl)))), fun e => n2 (by rcases e with e | e <;> rw [e]; exact .inr (.inr (.inl rfl)); exact .inr (.inr (.inr (.inl rfl)))), fun e => n3 (by rcases e with e | e <;> rw [e]; exact .inr (.inr (.inl rfl)); exact .inr (.inr (.inr (.inl rfl))))⟩

theorem BI.fin {J : Job} (O : J.Ok) {D bR bE bV N : Nat} {pre : List Brk} {W : World} {v : Value} (P : Plc J D bR bE bV N) (h : BI J D bR bE bV N pre W) (ho : OwnR N W v pre) (hK : W.heap[D]? = some (.deferred (some []))) :
    ((W.setCell ⟨bR, 0, none⟩ v).setCell ⟨bE, 0, none⟩ (.int .i64 0)).heap[D]? = some (.deferred (some [])) ∧
    (((W.setCell ⟨bR, 0, none⟩ v).setCell ⟨bE, 0, none⟩ (.int .i64 0)).putObj D (.deferred none)).cell? ⟨bR, 0, none⟩ = some v ∧ (((W.setCell ⟨bR, 0, none⟩ v).setCell ⟨bE, 0, none⟩ (.int .i64 0)).putObj D (.deferred none)).cell? ⟨bE, 0, none⟩ = some (.int .i64 0) ∧
    (∃ F, J.At F (((W.setCell ⟨bR, 0, none⟩ v).setCell ⟨bE, 0, none⟩ (.int .i64 0)).putObj D (.deferred none))) ∧ OwnR N (((W.setCell ⟨bR, 0, none⟩ v).setCell ⟨bE, 0, none⟩ (.int .i64 0)).putObj D (.deferred none)) v pre := by
  obtain ⟨F, a, fr⟩ := h.free
  have hB := P.fB; have hR := P.fR; have hE := P.fE; have hV := P.fV; have hD := P.fD
  have kf := ((KeepsOthers.setCell W ⟨bR, 0, none⟩ v).trans (KeepsOthers.setCell _ ⟨bE, 0, none⟩ (.int .i64 0))).same _ _ hK rfl
  have k0 := (h.res.set 0 v).far (p := ⟨bE, 0, none⟩) (by show bE ≠ bR; omega) (.int .i64 0)
  have k1 := (h.err.far (p := ⟨bR, 0, none⟩) (by show bR ≠ bE; omega) v).set 0 (.int .i64 0)
  have x : But (fun k => k = bR ∨ k = bE) W ((W.setCell ⟨bR, 0, none⟩ v).setCell ⟨bE, 0, none⟩ (.int .i64 0)) :=
    (But.set (S := fun k => k = bR ∨ k = bE) W ⟨bR, 0, none⟩ _ (.inl rfl)).trans (But.set (S := fun k => k = bR ∨ k = bE) _ ⟨bE, 0, none⟩ _ (.inr rfl)) fun _ => Or.inl
  have nr := row_far ho h.res (by decide)
  have ne := row_far ho h.err (by decide)
  have nD : v.ownBlock ≠ some D := fun e => by
    have := row_cells ho D _ e hK
    cases this
  have o1 := OwnR.but ho x fun k _ e g => by
    rcases g with g | g <;> subst g
    · exact nr e
    · exact ne e
  obtain ⟨n1, n2, n3⟩ : (J.parted = true → J.bt ≠ bR ∧ J.bt ≠ bE ∧ J.bt ≠ D) ∧ (J.parted = true → J.bb ≠ bR ∧ J.bb ≠ bE ∧ J.bb ≠ D) ∧ (J.parted = true → J.bl ≠ bR ∧ J.bl ≠ bE ∧ J.bl ≠ D) := by
    refine ⟨fun p => ?_, fun p => ?_, fun p => ?_⟩ <;> have h1 := P.ft p <;> have h2 := P.ft2 p <;> omega
  have a1 := a.set x (fun k e => by
    rcases e with e | e <;> subst e
    · exact ⟨(fr _ (.inr (.inr (.inl rfl)))).1, by omega, by omega⟩
    · exact ⟨(fr _ (.inr (.inr (.inr (.inl rfl))))).1, by omega, by omega⟩) O (fun p => ⟨fun e => e.elim (n1 p).1 (n1 p).2.1, fun e => e.elim (n2 p).1 (n2 p).2.1, fun e => e.elim (n3 p).1 (n3 p).2.1⟩)
  generalize (W.setCell ⟨bR, 0, none⟩ v).setCell ⟨bE, 0, none⟩ (.int .i64 0) = W2 at *
  have y : But (fun k => k = D) W2 (W2.putObj D (.deferred none)) := But.of_grown (grownBy_putObj' W2 D (.deferred none)) fun g e => by cases e; rfl
  refine ⟨kf, (y.blk k0 (by omega)).cell 0, (y.blk k1 (by omega)).cell 0, ⟨F, a1.set y (fun k e => by cases e; exact ⟨(fr _ (.inl rfl)).1, by omega, by omega⟩) O fun p => ⟨(n1 p).2.2, (n2 p).2.2, (n3 p).2.2⟩⟩, OwnR.but o1 y fun k _ e g => nD (by rw [e, g])⟩
theorem BX.fin {J : Job} (O : J.Ok) {D bR bE bV N : Nat} {cd : Code} {pre : List Brk} {W : World} (P : Plc J D bR bE bV N) (h : BX J D bR bE cd pre W) :
    (W.putObj D (.deferred none)).cell? ⟨bR, 0, none⟩ = some (.slice none 0 0) ∧ (W.putObj D (.deferred none)).cell? ⟨bE, 0, none⟩ = some (.int .i64 160) ∧ ∃ F, J.At F (W.putObj D (.deferred none)) := by
  obtain ⟨F, a, fr, _⟩ := h.trie
  have hB := P.fB; have hR := P.fR; have hE := P.fE; have hV := P.fV; have hD := P.fD
  have y : But (fun k => k = D) W (W.putObj D (.deferred none)) := But.of_grown (grownBy_putObj' W D (.deferred none)) fun g e => by cases e; rfl
  refine ⟨(y.blk h.res (by omega)).cell 0, (y.blk h.err (by omega)).cell 0, F, a.set y (fun k e => by cases e; exact ⟨fr, by omega, by omega⟩) O fun p => ?_⟩
  have h1 := P.ft p
  exact ⟨by omega, by omega, by omega⟩
theorem kp_loop {D bR bE bV : Nat} (hV : bV ≠ D + 1) (W : World) (o : Obj) : KpB D bR bE bV W (W.putObj (D + 1) o) := by
  refine ⟨by simp, fun b cs t f hb hc => ?_, fun k hk => .inl ?_⟩
  · have : b ≠ D + 1 := fun e => hb (.inr (.inl e))
    exact (World.putObj_heap_other (by omega)).trans hc
  · have e : (W.putObj (D + 1) o).cell? ⟨bV, 0, none⟩ = W.cell? ⟨bV, 0, none⟩ := World.cell?_of_block (World.putObj_heap_other (by show _ ≠ _; omega))
    unfold ownK at hk ⊢
    rw [e] at hk
    exact hk

set_option maxRecDepth 100000 in
/-- The function of the points: its three variables. -/
theorem fn_any (B : Nat) (A : Option Addr) (n c : Nat) (L : LayD) (SA : Option Addr) (sc : Nat) (w : World) :
    Calls Tryz.prog 17 #[.pointer (some ⟨B, 0, none⟩), .slice A n c, .agg (layC L SA sc).toArray] w (fun e w' => e = .returned (.func (.func 29) #[] #[.pointer (some ⟨w.heap.size, 0, none⟩), .pointer (some ⟨w.heap.size + 1, 0, none⟩), .pointer (some ⟨w.heap.size + 1 + 1, 0, none⟩)]) ∧
      Ext w w' ∧ Blk w' w.heap.size 31 [.pointer (some ⟨B, 0, none⟩)] ∧ Blk w' (w.heap.size + 1) 23 [.slice A n c] ∧ Blk w' (w.heap.size + 1 + 1) 40 (layC L SA sc) ∧ w'.heap.size = w.heap.size + 1 + 1 + 1) := by
  obtain ⟨W1, hW1⟩ : ∃ W1, W1 = ((w.alloc (.cells #[.pointer (some ⟨B, 0, none⟩)] 31)).alloc (.cells #[.slice A n c] 23)).alloc (.cells (layC L SA sc).toArray 40) := ⟨_, rfl⟩
  have X := Lib.hid (show Ext w W1 by rw [hW1]; exact (((Ext.refl _).alloc _).alloc _).alloc _)
  have K0 := Lib.hid (show Blk W1 w.heap.size 31 [.pointer (some ⟨B, 0, none⟩)] by rw [hW1]; exact ((Blk.lit _ _ _ _ rfl).ext ((Ext.refl _).alloc _)).ext ((Ext.refl _).alloc _))
  have K1 := Lib.hid (show Blk W1 (w.heap.size + 1) 23 [.slice A n c] by rw [hW1]; exact (Blk.lit _ _ _ _ (by simp)).ext ((Ext.refl _).alloc _))
  have K2 := Lib.hid (show Blk W1 (w.heap.size + 1 + 1) 40 (layC L SA sc) by rw [hW1]; exact Blk.lit _ _ _ _ (by simp))
  have SZ := Lib.hid (show W1.heap.size = w.heap.size + 1 + 1 + 1 by rw [hW1]; simp)
  have HW1 := Lib.hid hW1
  obtain ⟨b0, hb0⟩ : ∃ b0, w.heap.size = b0 := ⟨_, rfl⟩
  rw [hb0] at K0 K1 K2 SZ ⊢
  have H0 := Lib.hid hb0
  clear hW1 hb0
  go_enter Tryz.func17, Tryz.ntmps17
  go_upto_region 1 with (fail)
  rw [← HW1.out]
  rw [H0.out]
  clear HW1 H0
  go_wp2_with fail
  go_ret
  exact ⟨rfl, X.out, K0.out, K1.out, K2.out, SZ.out⟩
end L16
end Go.Proofs.YtmmgmcfhlhghoaaGreatDoor

