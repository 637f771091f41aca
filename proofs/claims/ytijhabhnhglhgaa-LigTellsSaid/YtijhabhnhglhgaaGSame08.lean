/- The document's Same of glyphs; codes as literals. -/
import Derived.Test.YtijhabhnhglhgaaSet08
import Derived.Test.YtijhabhnhglhgaaSameLib
namespace Go.Proofs.Ytijhabhnhglhgaa
open Go.RowKit Go.Lib
namespace L08
open L07

theorem SeenG.get {w : World} {A : Option Addr} {g : List (Int × Int)} (h : SeenG w A g) {k : Nat} (hk : k < g.length) : ∃ ad, A = some ad ∧ w.cell? (ad.add (k * 2)) = some (.int .i64 (g.getD k (0, 0)).1) ∧ w.cell? ⟨(ad.add (k * 2)).block, (ad.add (k * 2)).off + 1, none⟩ = some (.int .i64 (g.getD k (0, 0)).2) := by
  obtain ⟨ad, rfl, _, h0⟩ := h k hk 0 (by omega)
  obtain ⟨ad', e, _, h1⟩ := h k hk 1 (by omega)
  cases e
  rw [← addr_add] at h1
  exact ⟨ad, rfl, h0, h1⟩
theorem getD_eq {g g' : List (Int × Int)} (hl : g.length = g'.length) (h : ∀ j, j < g.length → g.getD j (0, 0) = g'.getD j (0, 0)) : g = g' := by
  refine List.ext_getElem hl fun j h1 h2 => ?_
  have := h j h1
  simpa [List.getD, h1, h2] using this
def sameG (g g' : List (Int × Int)) : Bool := decide (g = g')

set_option maxRecDepth 100000 in
set_option maxHeartbeats 4000000 in
theorem gsame_any (A B : Option Addr) (g g' : List (Int × Int)) (c d : Nat) (w : World) (hs : SeenG w A g) (ht : SeenG w B g') (hn : g.length ≤ 1000000) :
    Calls Try.prog 15 #[.slice A g.length c, .slice B g'.length d] w (Ret w (.bool (sameG g g'))) := by
  by_cases h1 : g.length = g'.length
  · obtain ⟨n, hnl⟩ : ∃ n, n = g.length := ⟨_, rfl⟩
    rw [← h1, ← hnl]
    rw [← hnl] at hn
    have HN := Lib.hid hnl
    have H1 := Lib.hid h1
    clear hnl h1
    go_enter Try.func15, Try.ntmps15
    go_wp2_with fail
    go_loopw [5] (fun i wr => ∃ (k : Nat), k ≤ n ∧ i = .int .i64 k ∧ Hid (∀ j, j < k → g.getD j (0, 0) = g'.getD j (0, 0)) ∧ Ext w wr) (fun i _ => n - (intOf i).toNat)
    case atStart => exact ⟨0, by omega, rfl, fun j hj => absurd hj (by omega), Ext.refl _⟩
    case round =>
      obtain ⟨k, hk, rfl, ha, hx⟩ := hrel
      by_cases hlt : k < n
      · obtain ⟨ad, rfl, a0, a1⟩ := (hs.ext hx).get (show k < g.length by rw [← HN.out]; exact hlt)
        obtain ⟨be, rfl, b0, b1⟩ := (ht.ext hx).get (show k < g'.length by rw [← H1.out, ← HN.out]; exact hlt)
        have HX := Lib.hid hx
        clear hx
        by_cases h2 : g.getD k (0, 0) = g'.getD k (0, 0)
        · have HK : Hid (∀ j, j < k + 1 → g.getD j (0, 0) = g'.getD j (0, 0)) := fun j hj => by
            by_cases e : j = k
            · subst e; exact h2
            · exact ha.out j (by omega)
          rw [← h2] at b0 b1
          generalize (g.getD k (0, 0)).1 = x at *
          generalize (g.getD k (0, 0)).2 = y at *
          clear h2
          go_wp2_with fail
          go_quiet (fail)
          go_wp2_with fail
          go_roundw
          case rel => exact ⟨k + 1, by omega, by go_num, HK, HX.out.drewN _⟩
          case measure => simp [intOf]; omega
        · have NO : Hid (false = sameG g g') := (decide_eq_false fun h => h2 (by rw [h])).symm
          have hne : ¬ ((g.getD k (0, 0)).1 = (g'.getD k (0, 0)).1 ∧ (g.getD k (0, 0)).2 = (g'.getD k (0, 0)).2) := fun h => h2 (Prod.ext h.1 h.2)
          clear h2
          generalize (g.getD k (0, 0)).1 = x at *
          generalize (g.getD k (0, 0)).2 = y at *
          generalize (g'.getD k (0, 0)).1 = x' at *
          generalize (g'.getD k (0, 0)).2 = y' at *
          by_cases e : x = x'
          · subst e
            have e2 : ¬ y = y' := fun h => hne ⟨rfl, h⟩
            clear hne
            go_wp2_with fail
            go_quiet (fail)
            go_wp2_with fail
            go_ret
            exact ⟨ret_bool NO.out, HX.out.drewN _⟩
          · clear hne
            go_wp2_with fail
            go_quiet (fail)
            go_wp2_with fail
            go_ret
            exact ⟨ret_bool NO.out, HX.out.drewN _⟩
      · obtain rfl : k = n := by omega
        have NO : Hid (true = sameG g g') := (decide_eq_true (getD_eq H1.out fun j hj => ha.out j (by rw [HN.out]; exact hj))).symm
        go_wp2_with fail
        go_ret
        exact ⟨ret_bool NO.out, hx⟩
  · have h1z : ¬ ((g.length : Int) = (g'.length : Int)) := by omega
    rw [show sameG g g' = false from decide_eq_false fun h => h1 (by rw [h])]
    generalize g.length = a at *
    generalize g'.length = b at *
    go_enter Try.func15, Try.ntmps15
    go_wp2_with fail
    go_ret
    exact ⟨rfl, Ext.refl _⟩

/-- Codes as a literal. -/
theorem seen_lit (w : World) (l : List Int) (t : TypeId) : SeenF (w.alloc (.cells (l.map (Value.int .i64)).toArray t)) (some ⟨w.heap.size, 0, none⟩) l.length (fun j => l.getD j 0) :=
  Seen.fn (seen_new w (l.map (Value.int .i64)) t)
end L08
end Go.Proofs.Ytijhabhnhglhgaa

