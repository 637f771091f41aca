/- A region that joins bytes, reads them, and makes a variable of what was read, in whatever order. -/
import Derived.Test.YteflkagilhmeiaaDoorUni14
import Derived.Deep.RegionHeld3
namespace Go.Proofs.YteflkagilhmeiaaDoor
open Go.RowKit Go.Deep
namespace L14

/-- Where so many lines end. -/
def pos (D : LayD) (k : Nat) : Nat := (((seqN 0).take k).flatMap (lineL D)).length
theorem pos_le (D : LayD) (k : Nat) : pos D k ≤ ((seqN 0).flatMap (lineL D)).length := by
  have := congrArg List.length (text_cut D (seqN 0) k).2
  rw [List.length_take] at this
  unfold pos
  omega
/-- One's own bytes, of whatever world they were put together since. -/
theorem run_bytes14 {w w0 : World} {v : Value} {m : List UInt8} (h : OwnB 5 w0 w v m) (a : Option Addr) (n c : Nat) (l : List UInt8) (hs : SeenB w a l) (hn : n = l.length) (hm : m.length + l.length ≤ 900000) (ty : TypeId) :
    ∃ v' w', (Builtin.append_ #[26, 26] ty #[v, .slice a n c]).run Tryd.prog w = .ok v' w' ∧ OwnB 5 w0 w' v' (m ++ l) ∧ w.grownBy w' v.ownBlock ∧ ∀ b cs, Blk w b 24 cs → Blk w' b 24 cs := by
  obtain ⟨v', w', h1, h2, h3⟩ := run_putB (P := Tryd.prog) 26 ty 5 Tryd.underlying26 byte_info h a l n c hs hn (by omega)
  exact ⟨v', w', h1, h2, h3, fun b cs hb => (Keep.grown (g := b + 1) h.1 h3).blk hb (by omega) (by decide)⟩
theorem step_ran {P : Program} {ops : Array Oper} {o : Oper} {a : Act} {w w' : World} {K : Act → World → Prop} {Q : Exit → Act → World → Prop} {E : Prop} {t : TypeId} {v : Value} (s x : Operand)
    (ho : o.op = .call { callee := .builtin .append, args := #[s, x], argTypes := #[t, t] }) (hw : Region.wanted o (yielded ops a.tmps) = true) (hrun : (Builtin.append_ #[t, t] o.type #[a.eval s, a.eval x]).run P w = .ok v w')
    (h : K (a.put o.dst v) w') : if Region.wanted o (yielded ops a.tmps) = true then Oper.wp P o a w K Q else E := by
  rw [if_pos hw]
  unfold Oper.wp execOp
  simp only [ho, resolve, invoke, builtin, Sem.run_bind, Sem.run_pure, Result.andThen_ok, List.map_toArray, List.map_cons, List.map_nil, hrun]
  exact h
theorem step_store {P : Program} {ops : Array Oper} {o : Oper} {a : Act} {w : World} {K : Act → World → Prop} {Q : Exit → Act → World → Prop} {E : Prop} (ty : TypeId) (x y : Operand) (ho : o.op = .store ty x y)
    (b : Nat) (cells : Array Value) (hx : a.eval x = .pointer (some ⟨b, 0, none⟩)) (hy : a.eval y = .agg cells) (ht : w.there b 0 cells.size) (hi : (P.info? ty).map (·.size) = some cells.size) (h1 : cells.all (·.oneCell') = true)
    (hw : Region.wanted o (yielded ops a.tmps) = true) (h : K (a.put o.dst undef) (w.setCells b 0 cells.toList)) : if Region.wanted o (yielded ops a.tmps) = true then Oper.wp P o a w K Q else E := by
  rw [if_pos hw]
  exact wp_store_mid ty x y ho b 0 cells hx hy ht hi h1 h
/-- Bytes elsewhere stay. -/
theorem seen_grown {w w' : World} {b q : Nat} {l : List UInt8} (h : SeenB w (some ⟨b, 0, none⟩) l) (g : w.grownBy w' (Value.slice (some ⟨q, 0, none⟩) 0 0).ownBlock) (hq : ¬ q = b) : SeenB w' (some ⟨b, 0, none⟩) l := fun k v hv => by
  obtain ⟨ad, e, hb, hc⟩ := h k v hv
  cases e
  have hg := g.block b hb (by simp [Value.ownBlock]; omega)
  refine ⟨_, rfl, Nat.lt_of_lt_of_le hb g.size, ?_⟩
  have e1 : ((⟨b, 0, none⟩ : Addr).add k) = ⟨b, k, none⟩ := by cases k <;> simp [Addr.add]
  rw [e1] at hc ⊢
  rw [(cell_of_block hg).1]
  exact hc
def Z21 : List Value := [.int .i64 0, .int .i64 0, .int .i64 0, .int .i64 0, .slice none 0 0, .int .i64 0, .int .i64 0, .int .i64 0, .int .i64 0, .int .i64 0, .int .i64 0, .int .i64 0, .int .i64 0, .int .i64 0, .int .i64 0, .int .i64 0, .int .i64 0, .int .i64 0, .int .i64 0, .int .i64 0, .int .i64 0]
/-- What was read, stored in the variable. -/
theorem stored {w0 W : World} {b : Nat} {L : LayD} {A : Option Addr} {c : Nat} (x : Ext w0 W) (k : Blk W b 24 Z21) (hb : w0.heap.size ≤ b) (sn : SeenP W A L.n L.sh) (hne : ∀ ad, A = some ad → b ≠ ad.block) :
    Ext w0 (W.setCells b 0 (layC L A c)) ∧ Blk (W.setCells b 0 (layC L A c)) b 24 (layC L A c) ∧ SeenP (W.setCells b 0 (layC L A c)) A L.n L.sh :=
  ⟨ext_setCells hb _ _ _ x, blk_setCells k _ rfl, seenP_sets hne _ _ _ sn⟩
end L14
end Go.Proofs.YteflkagilhmeiaaDoor

