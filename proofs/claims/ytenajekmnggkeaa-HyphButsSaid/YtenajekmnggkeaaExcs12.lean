/- An exception, and a list of them, as arguments. -/
import Derived.Test.YtenajekmnggkeaaTexts10
namespace Go.Proofs.Ytenajekmnggkeaa
open Go.ChangeShapes Go.WideShapes Go.ChangeAt Go.RowKit Go.Deep

set_option maxRecDepth 100000 in
/-- An exception by value. -/
theorem arg_exc {H : Type} {enc : TypeId × Value → H} {W : World} {base : Nat} {v : Value} {d : DataW H} {p : List MemPlace}
    (hv : Value.okWide Try.prog W .any base 46 v) (h : DataW.Trod enc Try.prog W 0 (fun _ => true) true 46 v d p) :
    ∃ x : WP, v = wpV x ∧ x.Ok ∧ SeenL W x.A x.ns := by
  obtain ⟨cs, rfl, hsz, hf⟩ := arg_fields Try.underlying46 (by kernel_rfl) (by kernel_rfl) hv h
  obtain ⟨u0, n0, y0, c0, t0⟩ := hf 0 _ rfl
  obtain ⟨u1, n1, y1, c1, t1⟩ := hf 1 _ rfl
  obtain rfl := two_cells hsz c0 c1
  obtain ⟨s, e0, _, hsz'⟩ := DataW.trod_string Try.underlying9 t0
  simp only [List.cons.injEq, and_true] at e0
  obtain ⟨A', l', c', e1, g1, g2, g3, g4⟩ := field_intsL Try.underlying26 Try.underlying3 (by kernel_rfl) t1
  exact ⟨⟨s, l', A', c'⟩, by rw [e0, e1]; rfl, ⟨g1, g2, hsz', g3⟩, g4⟩
set_option maxRecDepth 100000 in
/-- A list of exceptions. -/
theorem arg_excs {H : Type} {enc : TypeId × Value → H} {W : World} {base : Nat} {v : Value} {d : DataW H} {p : List MemPlace}
    (hv : Value.okWide Try.prog W .any base 23 v) (h : DataW.Trod enc Try.prog W 0 (fun _ => true) true 23 v d p) :
    ∃ (A : Option Addr) (l : List WP) (c : Nat), v = .slice A l.length c ∧ l.length ≤ c ∧ c ≤ maxLen ∧ (∀ x ∈ l, x.Ok) ∧ SeenW W A l := by
  obtain ⟨a0, len0, cap0, rfl⟩ := okWide_slice Try.underlying23 hv
  obtain ⟨fuel, hf⟩ := h
  exact field_texts (ei := 3) Try.underlying23 Try.underlying46 (by kernel_rfl) rfl rfl (by kernel_rfl) (by kernel_rfl) Try.underlying9 Try.underlying26 Try.underlying3 (by kernel_rfl) hf
end Go.Proofs.Ytenajekmnggkeaa

