/- One's own list of one's own rows, of which the last one may grow; how much lines hold. -/
import Derived.Test.YtmmgmcfhlhghoaaPie17
import Derived.Test.YtmmgmcfhlhghoaaCutL17
namespace Go.Proofs.Ytmmgmcfhlhghoaa
open Go.RowKit
namespace L17

theorem ownsRow_at {w w' : World} {base n size : Nat} {e : TypeId} {v : Value} {xs : List Value} (h : w.ownsRow base e size v n xs) (x : ∀ g, v.ownBlock = some g → w'.heap[g]? = w.heap[g]?) : w'.ownsRow base e size v n xs := by
  refine ⟨h.1, ?_⟩
  rcases h.2 with hn | ⟨g, cap, cur, rfl, hb, hgg, rest⟩
  · exact .inl hn
  · exact .inr ⟨g, cap, cur, rfl, hb, (x g rfl).trans hgg, rest⟩
theorem seenL_at {w w' : World} {A : Option Addr} {ns : List Int} (h : SeenL w A ns) (hs : w.heap.size ≤ w'.heap.size) (x : ∀ ad, A = some ad → w'.heap[ad.block]? = w.heap[ad.block]?) : SeenL w' A ns := fun k v hv => by
  obtain ⟨ad, e, hb, hc⟩ := h k v hv
  refine ⟨ad, e, Nat.lt_of_lt_of_le hb hs, ?_⟩
  have h2 := x ad e
  rw [← hc]
  unfold World.cell?
  rw [addr_block, h2]
/-- One's own rows: the last one may grow, and lies apart. -/
def OwnT (w0 w : World) (v : Value) (rs : List RI) : Prop := OwnR w0 w v rs ∧ ∀ i z, rs = i ++ [z] →
  w.ownsRow w0.heap.size 3 1 (riV z) z.ns.length (z.ns.map (.int .i64)) ∧ ∀ x ∈ i, ∀ ad be : Addr, x.A = some ad → z.A = some be → ad.block ≠ be.block
theorem OwnT.nil {w0 w : World} (x : Ext w0 w) : OwnT w0 w (.slice none 0 0) [] := ⟨OwnR.nil x, fun i z h => by simp at h⟩
theorem OwnT.over {w0 w w' : World} {v : Value} {rs : List RI} (h : OwnT w0 w v rs) (x : Ext w w') : OwnT w0 w' v rs := ⟨h.1.over x, fun i z e => ⟨OwnsRow.ext (h.2 i z e).1 x, (h.2 i z e).2⟩⟩
/-- append(own, nil). -/
theorem OwnT.fresh {w0 w : World} {v : Value} {rs : List RI} (h : OwnT w0 w v rs) (hm : rs.length + 1 ≤ 1000000) (ty : TypeId) :
    ∃ v' w', (Builtin.append_ #[27, 27] ty #[v, .slice (some ⟨w.heap.size, 0, none⟩) 1 1]).run Try.prog (w.alloc (.cells #[.slice none 0 0] 36)) = .ok v' w' ∧ OwnT w0 w' v' (rs ++ [⟨[], none, 0⟩]) := by
  obtain ⟨v', w', hr, ho⟩ := h.1.put ⟨[], none, 0⟩ SeenL.nil (fun ad e => by cases e) hm ty
  refine ⟨v', w', hr, ho, fun i z e => ?_⟩
  obtain ⟨_, e2⟩ := List.append_inj' e rfl
  simp only [List.cons.injEq, and_true] at e2
  subst e2
  exact ⟨World.ownsRow_nil _ _ _ _, fun x _ ad be _ h2 => by cases h2⟩
/-- own[last] = append(own[last], more...). -/
theorem OwnT.grow {w0 w : World} {g n cap : Nat} {i : List RI} {z : RI} (h : OwnT w0 w (.slice (some ⟨g, 0, none⟩) n cap) (i ++ [z])) (A : Option Addr) (m : List Int) (k c : Nat) (hs : SeenL w A m) (hk : k = m.length) (hm : z.ns.length + m.length ≤ 1000000) (ty : TypeId) :
    ∃ A' c' w', (Builtin.append_ #[36, 36] ty #[.slice z.A z.ns.length z.c, .slice A k c]).run Try.prog w = .ok (.slice A' (z.ns.length + m.length) c') w' ∧ w'.cell? ⟨g, i.length, none⟩ = some (.slice z.A z.ns.length z.c) ∧ w'.frozen? ⟨g, i.length, none⟩ = false ∧
      OwnT w0 (w'.setCell ⟨g, i.length, none⟩ (.slice A' (z.ns.length + m.length) c')) (.slice (some ⟨g, 0, none⟩) n cap) (i ++ [⟨z.ns ++ m, A', c'⟩]) := by
  subst hk
  obtain ⟨hz, hd⟩ := h.2 i z rfl
  have hn : n = i.length + 1 := by
    rcases h.1.1.2 with ⟨e, _⟩ | ⟨g2, cap2, cur, e, _⟩
    · cases e
    · simp only [Value.slice.injEq] at e
      rw [e.2.1]; simp
  subst hn
  obtain ⟨cg, hgg⟩ : ∃ cs, w.heap[g]? = some (.cells cs 36 (0, 0)) := by
    rcases h.1.1.2 with ⟨e, _⟩ | ⟨g2, cap2, cur, e, _, hb, _⟩
    · cases e
    · simp only [Value.slice.injEq, Option.some.injEq, Addr.mk.injEq, and_true] at e
      rw [e.1]; exact ⟨cur, hb⟩
  have hgz : ∀ k, (riV z).ownBlock = some k → k ≠ g := fun k hk e => by
    subst e
    rcases hz.2 with ⟨e, _⟩ | ⟨g2, cap2, cur, e, _, hb, _⟩
    · rw [e] at hk; cases hk
    · rw [e] at hk
      cases hk
      rw [hgg] at hb
      simp only [Option.some.injEq, Obj.cells.injEq] at hb
      exact absurd hb.2.1 (by decide)
  have hglt : g < w.heap.size := (Array.getElem?_eq_some_iff.1 hgg).1
  -- the row grows
  obtain ⟨v', w', hr, ho, hgr, hb'⟩ : ∃ v' w', (Builtin.append_ #[36, 36] ty #[riV z, .slice A m.length c]).run Try.prog w = .ok v' w' ∧ w'.ownsRow w0.heap.size 3 1 v' (z.ns ++ m).length ((z.ns ++ m).map (.int .i64)) ∧ w.grownBy w' (riV z).ownBlock ∧
      (v'.ownBlock = (riV z).ownBlock ∨ v'.ownBlock = some w.heap.size) := by
    obtain ⟨ii, hi, hz0, hsz, hby⟩ := info_parts int_info12
    rcases A with _ | ad
    · have hl : m = [] := by
        rcases m with _ | ⟨b, m⟩
        · rfl
        · obtain ⟨_, e, _⟩ := hs.get (k := 0) (by simp); cases e
      subst hl
      refine ⟨riV z, w, ?_, by simpa using hz, ⟨rfl, rfl, rfl, Nat.le_refl _, fun _ _ _ => rfl⟩, .inl rfl⟩
      rcases hz.2 with ⟨e, _⟩ | ⟨g, cap, cur, e, _, _, hnc, _⟩
      · rw [e]; simp [Builtin.append_, run_underlying Try.underlying36, Go.sizeOf, typeInfo, hi, Builtin.lenOf, Builtin.firstCells]
      · rw [e]; simp [Builtin.append_, run_underlying Try.underlying36, Go.sizeOf, typeInfo, hi, Builtin.lenOf, Builtin.firstCells, hnc, storeCells]
    · obtain ⟨v', w', hr, ho, hg, _, hb⟩ := run_append_own_at (P := Try.prog) w w0.heap.size 36 ty 3 ii (.int .i64 0) 1 8 Try.underlying36 hi hz0 hsz hby rfl (by omega) (riV z) z.ns.length (z.ns.map (.int .i64)) hz ad m.length c (m.map (.int .i64)) (by simp)
        (fun j u hu => by
          obtain ⟨ad', e, _, hc⟩ := hs j u hu
          cases e
          exact hc) (by simp [Value.oneCell']) (by unfold maxLen; omega) (by omega) h.1.2.1.size
      exact ⟨v', w', hr, by rw [List.length_append, List.map_append]; exact ho, hg, hb⟩
  have x' : Ext w0 w' := Below.grown h.1.2.1 hgr h.1.2.1.size (fun k hk => (hz.lt k hk).1)
  have oi : OwnI w0 w' v' (z.ns ++ m) := ⟨ho, x'⟩
  obtain ⟨A', c', ev, s', -⟩ := oi.seen
  subst ev
  have ty' := OwnI.typed oi
  have hlen : (z.ns ++ m).length = z.ns.length + m.length := List.length_append
  rw [hlen] at hr ho hb'
  have hg' : w'.heap[g]? = some (.cells cg 36 (0, 0)) := (hgr.block g hglt (fun e => hgz g e.symm rfl)).trans hgg
  have hrow := ownsRow_at h.1.1 (w' := w') (fun k hk => by cases hk; rw [hg', hgg])
  have hcell := row_cell (w := w') (base := w0.heap.size) (e := 36) (n := i.length + 1) (g := g) (cap := cap) (xs := (i ++ [z]).map riV) (by have := hrow; rwa [show (i ++ [z]).length = i.length + 1 by simp] at this) (i := i.length) (by omega)
  have hc1 : w'.cell? ⟨g, i.length, none⟩ = some (.slice z.A z.ns.length z.c) := by rw [hcell.1]; simp [riV]
  have hset := row_set (w := w') (base := w0.heap.size) (e := 36) (n := i.length + 1) (g := g) (cap := cap) (xs := (i ++ [z]).map riV) (by have := hrow; rwa [show (i ++ [z]).length = i.length + 1 by simp] at this) i.length (.slice A' (z.ns.length + m.length) c')
  have gr : w'.grownBy (w'.setCell ⟨g, i.length, none⟩ (.slice A' (z.ns.length + m.length) c')) (some g) := grown_set w' g i.length _
  have hgt : ∀ k, some g = some k → ∃ cs f, w'.heap[k]? = some (.cells cs 36 f) := fun k hk => by cases hk; exact ⟨cg, (0, 0), hg'⟩
  have hown : ∀ x ∈ i, SeenL w' x.A x.ns ∧ TypedI w' x.A := fun x hx => by
    have h0 := h.1.2.2 x (by simp [hx])
    have hsame : ∀ ad, x.A = some ad → w'.heap[ad.block]? = w.heap[ad.block]? := fun ad e => by
      obtain ⟨cs, f, hb⟩ := h0.2 ad e
      refine hgr.block _ (Array.getElem?_eq_some_iff.1 hb).1 fun e2 => ?_
      unfold riV at e2
      rcases hzA : z.A with _ | be
      · rw [hzA] at e2; cases e2
      · rw [hzA] at e2
        simp only [Value.ownBlock, Option.some.injEq] at e2
        exact hd x hx ad be e hzA e2
    refine ⟨seenL_at h0.1 hgr.size hsame, fun ad e => ?_⟩
    obtain ⟨cs, f, hb⟩ := h0.2 ad e
    exact ⟨cs, f, (hsame ad e).trans hb⟩
  refine ⟨A', c', w', hr, hc1, hcell.2, ⟨?_, x'.setCell (h.1.1.lt g rfl).1 _, fun y hy => ?_⟩, fun i2 z2 e => ?_⟩
  · have e1 : ((i ++ [z]).map riV).set i.length (.slice A' (z.ns.length + m.length) c') = (i ++ [(⟨z.ns ++ m, A', c'⟩ : RI)]).map riV := by simp [riV]
    rw [e1] at hset
    rw [show (i ++ [(⟨z.ns ++ m, A', c'⟩ : RI)]).length = i.length + 1 by simp]
    exact hset
  · rcases List.mem_append.1 hy with hy | hy
    · exact seenL_grown (hown y hy).1 (hown y hy).2 gr hgt
    · rw [List.mem_singleton.1 hy]
      exact seenL_grown s' ty' gr hgt
  · obtain ⟨e1, e2⟩ := List.append_inj' e rfl
    simp only [List.cons.injEq, and_true] at e2
    subst e1 e2
    refine ⟨?_, fun x hx ad be ha hbe hne => ?_⟩
    · unfold riV
      dsimp only
      rw [hlen]
      refine ownsRow_at ho fun k hk => gr.block k ?_ fun e3 => ?_
      · rcases hb' with e4 | e4
        · exact Nat.lt_of_lt_of_le (hz.lt k (e4 ▸ hk)).2 hgr.size
        · rw [e4] at hk; cases hk
          exact (ho.lt w.heap.size e4).2
      · cases e3
        rcases hb' with e4 | e4
        · exact hgz g (e4 ▸ hk) rfl
        · rw [e4] at hk; cases hk; omega
    · have h0 := h.1.2.2 x (by simp [hx])
      obtain ⟨cs, f, hb⟩ := h0.2 ad ha
      have hlt := (Array.getElem?_eq_some_iff.1 hb).1
      dsimp only at hbe
      rw [hbe] at hb'
      simp only [Value.ownBlock] at hb'
      rcases hb' with e4 | e4
      · unfold riV at e4
        rcases hzA : z.A with _ | bz
        · rw [hzA] at e4; cases e4
        · rw [hzA] at e4
          simp only [Option.some.injEq] at e4
          exact hd x hx ad bz ha hzA (by omega)
      · simp only [Option.some.injEq] at e4
        omega
end L17
end Go.Proofs.Ytmmgmcfhlhghoaa

