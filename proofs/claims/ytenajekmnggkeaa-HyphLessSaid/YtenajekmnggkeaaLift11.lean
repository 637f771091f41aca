/- The landed lift of layer 11. -/
import Derived.Test.YtenajekmnggkeaaTrieX11
import Derived.Test.YtenajekmnggkeaaRowF
import Derived.Deep.LoopGhost
import Derived.Deep.QuietTactic
namespace Go.Proofs.Ytenajekmnggkeaa
open Go.RowKit
namespace L11

/-- The numbers f, from off on made no less than h's first m. -/
def liftF (f : Nat → Int) (off m : Nat) (h : Nat → Int) (j : Nat) : Int := if off ≤ j ∧ j < off + m then max (f j) (h (j - off)) else f j
def rowI (n : Nat) (f : Nat → Int) : List Value := (List.range n).map fun k => .int .i64 (f k)
theorem rowI_get {n : Nat} {f : Nat → Int} {k : Nat} (h : k < n) : (rowI n f)[k]? = some (.int .i64 (f k)) := by simp [rowI, h]
theorem rowI_set {n : Nat} {f g : Nat → Int} (k : Nat) (x : Int) (hg : ∀ j, j < n → g j = if j = k then x else f j) : (rowI n f).set k (.int .i64 x) = rowI n g := by
  apply List.ext_getElem
  · simp [rowI]
  · intro j h1 h2
    have hj : j < n := by simpa [rowI] using h2
    have e1 : (rowI n g)[j] = .int .i64 (g j) := by simp [rowI]
    have e2 : (rowI n f)[j]'(by simpa [rowI] using hj) = .int .i64 (f j) := by simp [rowI]
    rw [List.getElem_set, e1, hg j hj, e2]
    by_cases e : k = j
    · rw [if_pos e, if_pos e.symm]
    · rw [if_neg e, if_neg (fun h => e h.symm)]
theorem rowI_congr {n : Nat} {f g : Nat → Int} (h : ∀ j, j < n → f j = g j) : rowI n f = rowI n g := List.map_congr_left fun k hk => by rw [h k (List.mem_range.1 hk)]
def LiftQ (w : World) (g N : Nat) (f : Nat → Int) (e : Ending) (w' : World) : Prop := e = .returned (.tuple #[]) ∧ But (Only g) w w' ∧ Blk w' g 3 (rowI N f)

set_option maxRecDepth 100000 in
set_option maxHeartbeats 4000000 in
theorem lift_any (g off ln cp N : Nat) (f : Nat → Int) (A : Option Addr) (m c : Nat) (h : Nat → Int) (w : World) (kg : Blk w g 3 (rowI N f)) (so : SeenF w A m h) (hA : m ≠ 0 → ∀ ad, A = some ad → ad.block ≠ g) (hm : m ≤ ln) (hN : off + ln ≤ N) (hm' : m ≤ 1000000) :
    Calls Try.prog 53 #[.slice (some ⟨g, off, none⟩) ln cp, .slice A m c] w (LiftQ w g N (liftF f off m h)) := by
  have KG := Lib.hid kg
  have SO := Lib.hid so
  have HA := Lib.hid hA
  clear kg so hA
  go_enter Try.func53, Try.ntmps53
  go_wp2_with fail
  go_loopw [8] (fun i wr => ∃ k : Nat, k ≤ m ∧ i = .int .i64 k ∧ But (Only g) w wr ∧ Blk wr g 3 (rowI N (liftF f off k h))) (fun i _ => m - (intOf i).toNat)
  case atStart =>
    refine ⟨0, Nat.zero_le _, rfl, But.refl _ _, ?_⟩
    rw [rowI_congr (g := f)]
    · exact KG.out
    · intro j _; unfold liftF; rw [if_neg (by omega)]
  case round =>
    obtain ⟨k, hk, rfl, hb, kb⟩ := hrel
    by_cases hlt : k < m
    · obtain ⟨ad, rfl, hc⟩ := SO.out.get hlt
      have hne := HA.out (by omega) ad rfl
      have hkl : k < ln := by omega
      have q0 : wr.cell? (ad.add k) = some (.int .i64 (h k)) := hb.at hc (by rw [addr_block]; exact hne)
      have e0 : liftF f off k h (off + k) = f (off + k) := by unfold liftF; rw [if_neg (by omega)]
      have q1 : wr.cell? ⟨g, off + k, none⟩ = some (.int .i64 (f (off + k))) := by rw [kb.cell, rowI_get (by omega), e0]
      have q2 : wr.frozen? ⟨g, off + k, none⟩ = false := kb.free _
      have EX := Lib.hid (show Blk (wr.setCell ⟨g, off + k, none⟩ (.int .i64 (if f (off + k) < h k then h k else f (off + k)))) g 3 (rowI N (liftF f off (k + 1) h)) by
        have := kb.set (off + k) (.int .i64 (if f (off + k) < h k then h k else f (off + k)))
        rw [rowI_set (g := liftF f off (k + 1) h)] at this
        · exact this
        · intro j hj
          by_cases e : j = off + k
          · subst e
            rw [if_pos rfl]
            unfold liftF
            rw [if_pos (by omega), show off + k - off = k by omega]
            omega
          · rw [if_neg e]
            unfold liftF
            by_cases e2 : off ≤ j ∧ j < off + k
            · rw [if_pos e2, if_pos (by omega)]
            · rw [if_neg e2, if_neg (by omega)])
      have EB := Lib.hid (show But (Only g) w (wr.setCell ⟨g, off + k, none⟩ (.int .i64 (if f (off + k) < h k then h k else f (off + k)))) from hb.trans (But.set (S := Only g) wr ⟨g, off + k, none⟩ _ rfl) (fun i hi => .inl hi))
      have hadd : (⟨g, off, none⟩ : Addr).add k = ⟨g, off + k, none⟩ := by
        unfold Addr.add; by_cases h0 : k = 0 <;> simp [h0]
      clear hb kb hc hne e0
      generalize f (off + k) = x at *
      generalize h k = y at *
      go_wp2_with fail
      go_roundw
      case rel => exact ⟨k + 1, by omega, by go_num, EB.out, EX.out⟩
      case measure => simp [intOf]; omega
    · obtain rfl : k = m := by omega
      go_wp2_with fail
      go_end0
      exact ⟨rfl, hb, kb⟩
end L11
end Go.Proofs.Ytenajekmnggkeaa

