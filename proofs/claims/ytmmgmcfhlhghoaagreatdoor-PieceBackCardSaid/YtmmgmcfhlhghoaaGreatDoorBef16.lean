/- A break as an argument; the document's Before of layer 16. -/
import Derived.Test.YtmmgmcfhlhghoaaGreatDoorBrk16
import Derived.Test.YtmmgmcfhlhghoaaGreatDoorGA16
namespace Go.Proofs.YtmmgmcfhlhghoaaGreatDoor
open Go.ChangeShapes Go.WideShapes Go.ChangeAt Go.RowKit Go.Deep
namespace L16

theorem three_cells {cs : Array Value} {a b c : Value} (h : cs.size = 3) (h0 : cs[0]? = some a) (h1 : cs[1]? = some b) (h2 : cs[2]? = some c) : cs = #[a, b, c] := by
  obtain ⟨l⟩ := cs
  match l, h with
  | [x, y, z], _ =>
    simp at h0 h1 h2
    rw [h0, h1, h2]
set_option maxRecDepth 100000 in
/-- A break by value. -/
theorem arg_brk {H : Type} {enc : TypeId × Value → H} {W : World} {base : Nat} {v : Value} {d : DataW H} {p : List MemPlace}
    (hv : Value.okWide Tryz.prog W .any base 43 v) (h : DataW.Trod enc Tryz.prog W 0 (fun _ => true) true 43 v d p) :
    ∃ b : Brk, v = brkV b ∧ (-9223372036854775808 ≤ b.1 ∧ b.1 ≤ 9223372036854775807) ∧ (-9223372036854775808 ≤ b.2.1 ∧ b.2.1 ≤ 9223372036854775807) ∧ -9223372036854775808 ≤ b.2.2 ∧ b.2.2 ≤ 9223372036854775807 := by
  obtain ⟨cs, rfl, hsz, hf⟩ := arg_fields Tryz.underlying43 (by kernel_rfl) (by kernel_rfl) hv h
  obtain ⟨u0, n0, y0, c0, t0⟩ := hf 0 _ rfl
  obtain ⟨u1, n1, y1, c1, t1⟩ := hf 1 _ rfl
  obtain ⟨u2, n2, y2, c2, t2⟩ := hf 2 _ rfl
  obtain rfl := three_cells hsz c0 c1 c2
  obtain ⟨a, e0, _, w0⟩ := DataW.trod_int Tryz.underlying3 t0
  obtain ⟨b, e1, _, w1⟩ := DataW.trod_int Tryz.underlying3 t1
  obtain ⟨c, e2, _, w2⟩ := DataW.trod_int Tryz.underlying3 t2
  simp only [List.cons.injEq, and_true] at e0 e1 e2
  exact ⟨(a, b, c), by rw [e0, e1, e2]; rfl, bounds_i64 w0, bounds_i64 w1, bounds_i64 w2⟩

end L16
end Go.Proofs.YtmmgmcfhlhghoaaGreatDoor

