/- Structs of many cells: loaded and stored whole. Any program. -/
import Derived.Test.YtmmgmcfhlhghoaaKeep
import Derived.Test.YtmmgmcfhlhghoaaBytes
import Derived.Deep.MidRow
import Derived.Lib.QuietBelow
import Derived.BigQuiet
namespace Go.Proofs.Ytmmgmcfhlhghoaa
open Go.RowKit Go.Lib

theorem Blk.range {w : World} {b : Nat} {t : TypeId} {cs : List Value} (h : Blk w b t cs) : w.rangeAt b 0 cs := fun j v hv => by
  rw [Nat.zero_add, h.cell j]; exact hv
theorem Blk.there {w : World} {b : Nat} {t : TypeId} {cs : List Value} (h : Blk w b t cs) : w.there b 0 cs.length := fun j hj => by
  rw [Nat.zero_add, h.cell j, h.free j, List.getElem?_eq_getElem hj]; exact ⟨rfl, rfl⟩
theorem range_regrown {w : World} {b : Nat} {t : TypeId} {cs : List Value} (h : Blk w b t cs) : ∀ w', (∃ p : Regrown, w' = Sort.grow (redrawn w p.d) p.os) → w'.rangeAt b 0 cs := by
  rintro w' ⟨p, rfl⟩
  exact (h.ext (below_regrown _ _ _)).range

/-- A load of a struct, in a region that draws its order: as a move of what lies there. -/
theorem quiet_load {P : Program} {C : World → Prop} {K : Act → Prop} {a : Act} {dst : Option Tmp} {type : TypeId} {pos : String} {after : Array Edge} {guard : Option (Nat × Bool)} (ty : TypeId) {x : Operand}
    (b : Nat) (hx : a.eval x = .pointer (some ⟨b, 0, none⟩)) (cs : List Value) {d : TypeDesc} (hc : ∀ w, C w → w.rangeAt b 0 cs) (he : ∃ w, C w)
    (hu : P.underlying ty = some d) (hd : d.isRow = true) (hi : (P.info? ty).map (·.size) = some cs.length)
    (h : (Oper.mk dst (.move (.const (.agg cs.toArray))) type pos after guard).quiet P a C K) : (Oper.mk dst (.load ty x) type pos after guard).quiet P a C K := by
  obtain ⟨v, h1, h2⟩ := h
  refine ⟨.agg cs.toArray, fun w hw => ?_, ?_⟩
  · unfold Oper.quietAt execOp
    simp only [hx, Instr.loadAt, Instr.sureAddr, Sem.run_bind, Sem.run_pure, Result.andThen_ok, run_loadVar_mid w b 0 ty cs d (hc w hw) hu hd hi]
    exact ⟨rfl, rfl⟩
  · obtain ⟨w, hw⟩ := he
    have h3 := h1 w hw
    unfold Oper.quietAt at h3
    rw [BigFrame.run_move (.const (.agg cs.toArray)) rfl] at h3
    obtain ⟨_, h4⟩ := h3
    rw [← h4] at h2
    exact h2
theorem some_regrown (w : World) : ∃ w', ∃ p : Regrown, w' = Sort.grow (redrawn w p.d) p.os := ⟨_, ⟨0, #[]⟩, rfl⟩

theorem blk_set_from {b : Nat} {t : TypeId} : ∀ (vs mid pre : List Value) (w : World), mid.length = vs.length → Blk w b t (pre ++ mid) → Blk (w.setCells b pre.length vs) b t (pre ++ vs)
  | [], mid, pre, w, hl, h => by
    have : mid = [] := List.eq_nil_of_length_eq_zero hl
    subst this
    exact h
  | v :: r, [], pre, w, hl, h => by cases hl
  | v :: r, m :: mid, pre, w, hl, h => by
    have h1 := h.set pre.length v
    rw [List.set_append_right _ _ (Nat.le_refl _), Nat.sub_self, List.set_cons_zero, show pre ++ v :: mid = (pre ++ [v]) ++ mid by simp] at h1
    have h2 := blk_set_from r mid (pre ++ [v]) _ (by simpa using hl) h1
    simpa [World.setCells] using h2
theorem blk_setCells {w : World} {b : Nat} {t : TypeId} {cs : List Value} (h : Blk w b t cs) (vs : List Value) (hl : cs.length = vs.length) : Blk (w.setCells b 0 vs) b t vs := by
  simpa using blk_set_from vs cs [] w hl h
theorem blk_setFar {b g : Nat} {t : TypeId} {cs : List Value} (hb : b ≠ g) : ∀ (vs : List Value) (o : Nat) (w : World), Blk w g t cs → Blk (w.setCells b o vs) g t cs
  | [], _, _, h => h
  | v :: r, o, _, h => blk_setFar hb r (o + 1) _ (h.far (p := ⟨b, o, none⟩) hb v)
theorem ext_setCells {w0 : World} {b : Nat} (hb : w0.heap.size ≤ b) : ∀ (vs : List Value) (o : Nat) (w : World), Ext w0 w → Ext w0 (w.setCells b o vs)
  | [], _, _, x => x
  | v :: r, o, _, x => ext_setCells hb r (o + 1) _ (x.setCell (p := ⟨b, o, none⟩) hb v)
end Go.Proofs.Ytmmgmcfhlhghoaa

