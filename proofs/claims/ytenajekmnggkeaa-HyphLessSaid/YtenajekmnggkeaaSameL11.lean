/- Two lists of numbers: the same? Blocks as lists. -/
import Derived.Test.YtenajekmnggkeaaNew11
import Derived.Test.YtenajekmnggkeaaSameLib
import Derived.Test.YtenajekmnggkeaaFew10
namespace Go.Proofs.Ytenajekmnggkeaa
open Go.RowKit
open Go.Lib hiding intOf
namespace L11
open L10 (TN plainB patB tn rd patsB)

/-- Two lists of numbers: the same? -/
theorem same_lists (A B : Option Addr) (l m : List Int) (c d : Nat) (w : World) (hs : SeenL w A l) (ht : SeenL w B m) (hn : l.length ≤ 1000000) :
    Calls Try.prog 14 #[.slice A l.length c, .slice B m.length d] w (Ret w (.bool (decide (l = m)))) := by
  have := L04.same_any A B l.length m.length c d _ _ w hs.fn ht.fn (by omega)
  have e : L04.sameB l.length m.length (fun j => l.getD j 0) (fun j => m.getD j 0) = decide (l = m) := by
    unfold L04.sameB
    rw [decide_eq_decide]
    constructor
    · rintro ⟨h1, h2⟩
      apply List.ext_getElem h1
      intro j hj hj'
      have := h2 j hj
      simpa [List.getD, hj, hj'] using this
    · rintro rfl
      exact ⟨rfl, fun _ _ => rfl⟩
  rwa [e] at this
theorem blk_seenL {w : World} {b : Nat} {t : TypeId} {l : List Int} {cs : List Value} (h : Blk w b t cs) (e : cs = l.map (.int .i64)) : SeenL w (some ⟨b, 0, none⟩) l := fun j v hv =>
  ⟨_, rfl, h.lt, by rw [add_zero_addr, h.cell, e]; exact hv⟩
theorem blk_seenW {w : World} {b : Nat} {t : TypeId} {l : List WP} {cs : List Value} (h : Blk w b t cs) (e : cs = flatW l) (hs : ∀ y ∈ l, SeenL w y.A y.ns) : SeenW w (some ⟨b, 0, none⟩) l := fun i x hx => by
  obtain ⟨f0, f1⟩ := flatW_get l i x hx
  refine ⟨⟨_, rfl, h.lt, ?_, ?_⟩, hs x (List.mem_of_getElem? hx)⟩
  · rw [add_zero_addr, h.cell, e]; exact f0
  · rw [add_zero_addr, h.cell, e]; exact f1
theorem wp_ok (s : ByteArray) (l : List Int) (A : Option Addr) (c : Nat) (h1 : l.length ≤ c) (h2 : c ≤ 100) (h3 : s.size ≤ 100) (h4 : ∀ n ∈ l, -100 ≤ n ∧ n ≤ 100) : WP.Ok ⟨s, l, A, c⟩ :=
  ⟨h1, by unfold maxLen; show c ≤ _; omega, by unfold maxLen; show s.size ≤ _; omega, fun n hn => by have := h4 n hn; omega⟩
/-- Numbers that are seen stay, while what is not where they are may turn. -/
theorem seenL_but {S : Nat → Prop} {w w' : World} {A : Option Addr} {vs : List Int} (h : SeenL w A vs) (x : But S w w') (hA : ∀ ad, A = some ad → ¬ S ad.block) : SeenL w' A vs := seenL_keep h x (fun _ => hA)
end L11
end Go.Proofs.Ytenajekmnggkeaa

