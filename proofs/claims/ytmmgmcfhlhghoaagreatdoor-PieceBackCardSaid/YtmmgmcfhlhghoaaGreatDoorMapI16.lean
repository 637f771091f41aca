/- A map of integers to integers, by a function: what is stored, deleted, ranged over. -/
import Derived.Test.YtmmgmcfhlhghoaaGreatDoorGB16
import Derived.Maps.RangeWalk
namespace Go.Proofs.YtmmgmcfhlhghoaaGreatDoor
open Go.RowKit
namespace L16
open L11 (MapG)

def mI (f : Int → Option Int) (x : Value) : Option (DataW Unit) := match x with
  | .int .i64 z => (f z).map fun c => .lit (.int .i64 c)
  | _ => none
/-- Block b is a map of at most n entries, and it is f. -/
def MapK (w : World) (b n : Nat) (f : Int → Option Int) : Prop := MapG Tryz.prog 3 (plainElem Tryz.prog 3) w b n (mI f)
def I64 (x : Int) : Prop := -9223372036854775808 ≤ x ∧ x ≤ 9223372036854775807
theorem int_law : Maps.Keyed Tryz.prog 3 := Maps.int_keyed Tryz.underlying3
theorem i64_wf {x : Int} (h : I64 x) : (Lit.int .i64 x).wf = true := by
  obtain ⟨h1, h2⟩ := h
  simp [Lit.wf, show IntKind.i64.min = -9223372036854775808 by decide, show IntKind.i64.max = 9223372036854775807 by decide]
  omega
theorem wf_i64 {x : Int} (h : (Lit.int .i64 x).wf = true) : I64 x := by
  unfold I64
  simpa [Lit.wf, show IntKind.i64.min = -9223372036854775808 by decide, show IntKind.i64.max = 9223372036854775807 by decide] using h
theorem key_i64 {x : Int} (h : I64 x) : keyOf Tryz.prog 3 (.int .i64 x) = some (.int .i64 x) := Maps.keyOf_int_mk Tryz.underlying3 (i64_wf h)
theorem MapK.lt {w : World} {b n : Nat} {f : Int → Option Int} (h : MapK w b n f) : b < w.heap.size := MapG.lt h
theorem MapK.block {w w' : World} {b n : Nat} {f : Int → Option Int} (h : MapK w b n f) (e : w'.heap[b]? = w.heap[b]?) : MapK w' b n f := MapG.block h e
theorem MapK.ext {w w' : World} {b n : Nat} {f : Int → Option Int} (h : MapK w b n f) (x : Ext w w') : MapK w' b n f := h.block (x.block b h.lt)
theorem MapK.but {S : Nat → Prop} {w w' : World} {b n : Nat} {f : Int → Option Int} (h : MapK w b n f) (x : But S w w') (hb : ¬ S b) : MapK w' b n f := h.block (x.block b h.lt hb)
theorem MapK.congr {w : World} {b n : Nat} {f g : Int → Option Int} (h : MapK w b n f) (e : ∀ x, g x = f x) : MapK w b n g := by
  rw [show g = f from funext e]; exact h
theorem MapK.mono {w : World} {b n m : Nat} {f : Int → Option Int} (h : MapK w b n f) (hm : n ≤ m) : MapK w b m f := MapG.mono h hm
theorem MapK.made (w : World) : MapK (w.alloc (.map #[] 0)) w.heap.size 0 (fun _ => none) := MapG.congr (MapG.made w) fun x l _ => by
  unfold mI
  split <;> rfl
theorem MapK.store {w : World} {b n : Nat} {f : Int → Option Int} (h : MapK w b n f) (hn : n ≤ 1000000) (x c : Int) (hx : I64 x) (hc : I64 c) :
    ∃ w', (Instr.mapUpdate 120 (.map (some b)) (.int .i64 x) (.int .i64 c)).run Tryz.prog w = .ok () w' ∧ MapK w' b (n + 1) (fun y => if y = x then some c else f y) ∧ But (Only b) w w' := by
  obtain ⟨w', h1, h2, h3⟩ := MapG.store h int_law Tryz.underlying120 (by unfold maxLen; omega) (key_i64 hx) (plainElem_int Tryz.underlying3 (i64_wf hc))
  refine ⟨w', h1, MapG.congr h2 fun y l hy => ?_, But.of_grown h3 fun g e => by cases e; rfl⟩
  obtain ⟨z, rfl, rfl, _⟩ := Maps.keyOf_int_inv Tryz.underlying3 hy
  by_cases e : z = x
  · subst e; simp [mI]
  · simp [mI, e]
theorem MapK.drop {w : World} {b n : Nat} {f : Int → Option Int} (h : MapK w b n f) (x : Int) (hx : I64 x) (ty : TypeId) :
    ∃ w', (Builtin.delete_ #[120, 3] ty #[.map (some b), .int .i64 x]).run Tryz.prog w = .ok (.tuple #[]) w' ∧ MapK w' b n (fun y => if y = x then none else f y) ∧ But (Only b) w w' := by
  obtain ⟨D, ho, q⟩ := h
  obtain ⟨w', h1, h2, h3⟩ := ho.drop int_law Tryz.underlying120 (key_i64 hx) ty
  refine ⟨w', h1, ⟨_, h2, fun y l hy => ?_⟩, But.of_grown h3.grown fun g e => by cases e; rfl⟩
  obtain ⟨z, rfl, rfl, hz⟩ := Maps.keyOf_int_inv Tryz.underlying3 hy
  by_cases e : z = x
  · subst e
    simp only [mI, if_true, Option.map_none, Option.isSome_none]
    exact ⟨Maps.has_del_same, fun d hd => by simp at hd⟩
  · have hne : Lit.int .i64 z ≠ Lit.int .i64 x := by simpa using e
    obtain ⟨q1, q2⟩ := q _ _ (key_i64 (wf_i64 hz))
    simp only [mI, if_neg e] at q1 q2 ⊢
    rw [Maps.has_del_other hne]
    exact ⟨q1, fun d hd zd => by rw [Maps.atKey_del_other hne]; exact q2 d hd zd⟩
end L16
end Go.Proofs.YtmmgmcfhlhghoaaGreatDoor

