/- A layout in a variable: it is loaded, it is stored where the variable was just made. -/
import Derived.Test.YtaieafmgeheomaaDoorLay14
import Derived.Test.YtaieafmgeheomaaDoorMid09
import Derived.Lib.QuietBelow
namespace Go.Proofs.YtaieafmgeheomaaDoor
open Go.RowKit
namespace L14

theorem layC_one (L : LayD) (A : Option Addr) (c : Nat) : ∀ v ∈ layC L A c, v.oneCell' = true := by
  intro v hv
  simp only [layC, List.mem_cons, List.not_mem_nil, or_false] at hv
  rcases hv with rfl | rfl | rfl | rfl | rfl | rfl | rfl | rfl | rfl | rfl | rfl | rfl | rfl | rfl | rfl | rfl | rfl | rfl | rfl | rfl | rfl <;> rfl
theorem rg14 {f : FuncId} {args : Array Value} {w : World} {d : Nat} {os : Array Obj} {v : Value} (h : Calls Tryd.prog f args (Sort.grow (redrawn w d) os) (Ret (Sort.grow (redrawn w d) os) v)) :
    Calls Tryd.prog f args (Sort.grow (redrawn w d) os) fun e w'' => e = .returned v ∧ ∃ p : Regrown, w'' = Sort.grow (redrawn w p.d) p.os := Calls.regrown_of h
theorem lay_info : (Tryd.prog.info? 24).map (·.size) = some 21 := by kernel_rfl
/-- A load of a struct, guarded or not. -/
theorem wpList_load14 {P : Program} {ops : Array Oper} {rest : List Oper} {op : Oper} {a : Act} {w : World} {Q : Exit → Act → World → Prop} (hw : Region.wanted op (yielded ops a.tmps) = true) (ty : TypeId) (x : Operand) (ho : op.op = .load ty x)
    (b : Nat) (hx : a.eval x = .pointer (some ⟨b, 0, none⟩)) (cs : List Value) (d : TypeDesc) (hc : w.rangeAt b 0 cs)
    (hu : P.underlying ty = some d) (hd : d.isRow = true) (hi : (P.info? ty).map (·.size) = some cs.length)
    (h : wpList P ops Q rest (a.put op.dst (.agg cs.toArray)) w) : wpList P ops Q (op :: rest) a w := by
  unfold wpList
  rw [if_pos hw]
  exact Or.inl (wp_load_mid ty x ho b 0 hx cs d hc hu hd hi h)
/-- A variable of a layout, new, with its value. -/
def boxW (w : World) (L : LayD) (A : Option Addr) (c : Nat) : World := (w.alloc (.cells #[.int .i64 0, .int .i64 0, .int .i64 0, .int .i64 0, .slice none 0 0, .int .i64 0, .int .i64 0, .int .i64 0, .int .i64 0, .int .i64 0, .int .i64 0, .int .i64 0, .int .i64 0, .int .i64 0, .int .i64 0, .int .i64 0, .int .i64 0, .int .i64 0, .int .i64 0, .int .i64 0, .int .i64 0] 24)).setCells w.heap.size 0 (layC L A c)
theorem boxW_ext (w : World) (L : LayD) (A : Option Addr) (c : Nat) : Ext w (boxW w L A c) := ext_setCells (Nat.le_refl _) _ _ _ ((Ext.refl _).alloc _)
theorem boxW_blk (w : World) (L : LayD) (A : Option Addr) (c : Nat) : Blk (boxW w L A c) w.heap.size 24 (layC L A c) := blk_setCells (cs := [.int .i64 0, .int .i64 0, .int .i64 0, .int .i64 0, .slice none 0 0, .int .i64 0, .int .i64 0, .int .i64 0, .int .i64 0, .int .i64 0, .int .i64 0, .int .i64 0, .int .i64 0, .int .i64 0, .int .i64 0, .int .i64 0, .int .i64 0, .int .i64 0, .int .i64 0, .int .i64 0, .int .i64 0]) (Blk.lit _ _ _ _ rfl) _ rfl
theorem boxW_there (w : World) : (w.alloc (.cells #[.int .i64 0, .int .i64 0, .int .i64 0, .int .i64 0, .slice none 0 0, .int .i64 0, .int .i64 0, .int .i64 0, .int .i64 0, .int .i64 0, .int .i64 0, .int .i64 0, .int .i64 0, .int .i64 0, .int .i64 0, .int .i64 0, .int .i64 0, .int .i64 0, .int .i64 0, .int .i64 0, .int .i64 0] 24)).there w.heap.size 0 21 :=
  Blk.there (Blk.lit w w.heap.size 24 #[.int .i64 0, .int .i64 0, .int .i64 0, .int .i64 0, .slice none 0 0, .int .i64 0, .int .i64 0, .int .i64 0, .int .i64 0, .int .i64 0, .int .i64 0, .int .i64 0, .int .i64 0, .int .i64 0, .int .i64 0, .int .i64 0, .int .i64 0, .int .i64 0, .int .i64 0, .int .i64 0, .int .i64 0] rfl)
/-- The value is stored where the variable was just made. -/
theorem wpList_boxW {ops : Array Oper} {rest : List Oper} {op : Oper} {a : Act} {W : World} {Q : Exit → Act → World → Prop} (hgd : op.guard = none) (x y : Operand) (ho : op.op = .store 24 x y)
    (w : World) (hW : W = w.alloc (.cells #[.int .i64 0, .int .i64 0, .int .i64 0, .int .i64 0, .slice none 0 0, .int .i64 0, .int .i64 0, .int .i64 0, .int .i64 0, .int .i64 0, .int .i64 0, .int .i64 0, .int .i64 0, .int .i64 0, .int .i64 0, .int .i64 0, .int .i64 0, .int .i64 0, .int .i64 0, .int .i64 0, .int .i64 0] 24)) (L : LayD) (A : Option Addr) (c : Nat) (hx : a.eval x = .pointer (some ⟨w.heap.size, 0, none⟩)) (hy : a.eval y = .agg (layC L A c).toArray)
    (h : wpList Tryd.prog ops Q rest (a.put op.dst undef) (boxW w L A c)) : wpList Tryd.prog ops Q (op :: rest) a W := by
  subst hW
  exact wpList_store_mid hgd 24 x y ho w.heap.size 0 (layC L A c).toArray hx hy (boxW_there w) lay_info (all_oneCell_toArray (layC_one _ _ _)) h
attribute [irreducible] boxW
/-- The value is loaded. -/
theorem wpList_getW {ops : Array Oper} {rest : List Oper} {op : Oper} {a : Act} {w : World} {Q : Exit → Act → World → Prop} (hw : Region.wanted op (yielded ops a.tmps) = true) (x : Operand) (ho : op.op = .load 24 x)
    (b : Nat) (hx : a.eval x = .pointer (some ⟨b, 0, none⟩)) {L : LayD} {A : Option Addr} {c : Nat} (k : Blk w b 24 (layC L A c))
    (h : wpList Tryd.prog ops Q rest (a.put op.dst (.agg (layC L A c).toArray)) w) : wpList Tryd.prog ops Q (op :: rest) a w :=
  wpList_load14 hw 24 x ho b hx (layC L A c) _ k.range Tryd.underlying24 rfl (by kernel_rfl) h
end L14
end Go.Proofs.YtaieafmgeheomaaDoor

