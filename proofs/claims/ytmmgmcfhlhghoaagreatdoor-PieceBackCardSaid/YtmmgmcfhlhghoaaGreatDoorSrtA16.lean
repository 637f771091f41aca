/- Sorting by a function that makes memory of its own: what the walks of sort's functions stand on. Any program. -/
import Derived.Test.YtmmgmcfhlhghoaaGreatDoorGB16
import Derived.Shelf.SlSortFuncK.HeapSortK
namespace Go.Proofs.YtmmgmcfhlhghoaaGreatDoor
open Go.Shelf Go.RowKit
open Go.Sort hiding Below
open Go.Lib hiding intOf
namespace Srt16
variable {P : Program} {ρ : Ren} {α : Type} [Inhabited α] {g sf size blk base : Nat} {V : Value} {sb : Array Value} {lt : α → α → Bool} {S : Array α → World → Prop}

/-- What a sort is handed: the function g that compares (bound to V), the function sf that swaps (bound to sb), and what holds (S) while the row, in block blk, holds a list. -/
structure Srt (P : Program) (g sf : Nat) (V : Value) (sb : Array Value) (lt : α → α → Bool) (size blk base : Nat) (S : Array α → World → Prop) : Prop where
  enter : ∀ args w, (callFunc g args).run P w = .ok (.enter g args) w
  small : size < 4611686018427387904
  long : ∀ {d w}, S d w → d.size = size
  room : ∀ {d w}, S d w → blk < w.heap.size ∧ base ≤ w.heap.size
  keep : ∀ {d w w'}, S d w → But (fun k => base ≤ k ∧ k ≠ blk) w w' → S d w'
  less : ∀ {d w}, S d w → ∀ i j : Nat, i < size → j < size → Calls P g #[V, .int .i64 i, .int .i64 j] w fun e w' => e = .returned (.bool (lt d[i]! d[j]!)) ∧ Ext w w'
  swap : ∀ {d w}, 2 ≤ size → S d w → ∀ i j : Nat, i < size → j < size → ∃ w', (callFunc sf (#[.int .i64 i, .int .i64 j] ++ sb)).run P w = .ok (.value (.tuple #[])) w' ∧ S (swp d i j) w' ∧ But (Only blk) w w'

/-- How a call of the family ends: the row holds d', all else that was there is as it was. -/
def Done (S : Array α → World → Prop) (blk : Nat) (w : World) (d' : Array α) (v : Value) (e : Ending) (w' : World) : Prop := e = .returned v ∧ S d' w' ∧ But (Only blk) w w'

/-- Within a call of the family: its data lie in a block B of its own. -/
structure In (g sf : Nat) (V : Value) (sb : Array Value) (blk : Nat) (S : Array α → World → Prop) (B : Nat) (w0 : World) (d : Array α) (w : World) : Prop where
  s : S d w
  c0 : w.cell? ⟨B, 0, none⟩ = some (.func (.func g) #[V] #[])
  c1 : w.cell? ⟨B, 1, none⟩ = some (.func (.func sf) #[] sb)
  ne : B ≠ blk
  x : But (Only blk) w0 w
theorem Srt.ext (K : Srt P g sf V sb lt size blk base S) {d : Array α} {w w' : World} (h : S d w) (x : Ext w w') : S d w' := K.keep h (But.of_ext x)
theorem Srt.start (K : Srt P g sf V sb lt size blk base S) {d : Array α} {w : World} (h : S d w) (t : TypeId) :
    In g sf V sb blk S w.heap.size w d (w.alloc (.cells #[.func (.func g) #[V] #[], .func (.func sf) #[] sb] t)) :=
  ⟨K.ext h ((Ext.refl w).alloc _), by simp, by simp, by have := (K.room h).1; omega, But.alloc w _⟩
theorem In.ext (K : Srt P g sf V sb lt size blk base S) {B : Nat} {w0 w w' : World} {d : Array α} (h : In g sf V sb blk S B w0 d w) (x : Ext w w') : In g sf V sb blk S B w0 d w' :=
  ⟨K.ext h.s x, x.at h.c0, x.at h.c1, h.ne, h.x.trans (But.of_ext (S := Only blk) x) fun _ => Or.inl⟩
omit [Inhabited α] in
theorem In.call {B : Nat} {w0 w w' : World} {d d' : Array α} (h : In g sf V sb blk S B w0 d w) (s : S d' w') (x : But (Only blk) w w') : In g sf V sb blk S B w0 d' w' :=
  ⟨s, x.at h.c0 h.ne, x.at h.c1 h.ne, h.ne, h.x.trans x fun _ => Or.inl⟩
theorem In.less (K : Srt P g sf V sb lt size blk base S) {B : Nat} {w0 w : World} {d : Array α} (h : In g sf V sb blk S B w0 d w) (i j : Nat) (x y : Int) (v : Bool) (hx : x = i) (hy : y = j) (hi : i < size) (hj : j < size) (hv : lt d[i]! d[j]! = v) :
    Calls P g #[V, .int .i64 x, .int .i64 y] w fun e w' => e = .returned (.bool v) ∧ In g sf V sb blk S B w0 d w' := by
  subst hx; subst hy; subst hv
  exact (K.less h.s i j hi hj).mono fun e w' ⟨a, b⟩ => ⟨a, h.ext K b⟩
theorem In.swap (K : Srt P g sf V sb lt size blk base S) (h2 : 2 ≤ size) {B : Nat} {w0 w : World} {d : Array α} (h : In g sf V sb blk S B w0 d w) (i j : Nat) (x y : Int) (hx : x = i) (hy : y = j) (hi : i < size) (hj : j < size) :
    ∃ w', (callFunc sf (#[.int .i64 x, .int .i64 y] ++ sb)).run P w = .ok (.value (.tuple #[])) w' ∧ Hid (In g sf V sb blk S B w0 (swp d i j) w') := by
  subst hx; subst hy
  obtain ⟨w', a, b, c⟩ := K.swap h2 h.s i j hi hj
  exact ⟨w', a, h.call b c⟩
omit [Inhabited α] in
theorem In.done {B : Nat} {w0 w : World} {d : Array α} (h : In g sf V sb blk S B w0 d w) {v : Value} : Done S blk w0 d v (.returned v) w := ⟨rfl, h.s, h.x⟩
end Srt16
end Go.Proofs.YtmmgmcfhlhghoaaGreatDoor

