/- Contracts of layer 6 (pack): Take, and bytes.Clone. -/
import Derived.Test.YtalanmgcacacaaaPackC06
import Derived.Deep.RegionHeld3
import Derived.Lib.LazyBuf
namespace Go.Proofs.Ytalanmgcacacaaa
open Go.RowKit
namespace L06

/-- A copy. -/
def CopyB (w : World) (l : List UInt8) (e : Ending) (w' : World) : Prop := ∃ A c, e = .returned (.slice A l.length c) ∧ SeenB w' A l ∧ Ext w w'

theorem clone_any (A : Option Addr) (l : List UInt8) (n c : Nat) (w : World) (hs : SeenB w A l) (hn : n = l.length) (hl : l.length ≤ 100000) :
    Calls Try.prog 23 #[.slice A n c] w (CopyB w l) := by
  rcases A with _ | ad
  · have hl : l = [] := by
      rcases l with _ | ⟨b, l⟩
      · rfl
      · obtain ⟨_, e, _⟩ := hs.get (k := 0) (by simp); cases e
    subst hl
    subst hn
    have heq := fun W => Go.run_eql_slice_nil (P := Try.prog) W 22 5 none 0 c Try.underlying22
    go_enter Try.func23, Try.ntmps23
    go_wp2_with fail
    go_ret
    exact ⟨none, 0, rfl, SeenB.nil, Ext.refl _⟩
  · obtain ⟨v, w1, hrun, hown, _⟩ := run_putB (P := Try.prog) 22 22 5 Try.underlying22 uint8_info (OwnB.lit 5 w w [] #[] 0 rfl rfl (by simp) (Ext.refl _)) (some ad) l n c (hs.ext ((Ext.refl _).alloc _)) hn (by simp; omega)
    obtain ⟨A, c', rfl, _, hA⟩ := hown.seen
    have HH := Lib.hid hn
    have heq := fun W => Go.run_eql_slice_nil (P := Try.prog) W 22 5 (some ad) n c Try.underlying22
    clear hn
    go_enter Try.func23, Try.ntmps23
    go_wp2_with (at_builtin; refine wpList_ran rfl _ _ rfl hrun ?_)
    go_ret
    exact ⟨A, c', by simp, by simpa using hA, hown.2⟩
end L06
end Go.Proofs.Ytalanmgcacacaaa

