/- The contracts of the document's Ends. -/
import Derived.Test.YtnkomnmdmbegiaaRefSplit04
namespace Go.Proofs.Ytnkomnmdmbegiaa
open Go.RowKit Go.Sort Go.Lib Go.Shelf
namespace L04

theorem rsplit_yes (t : Int) (A : Option Addr) (n c : Nat) (f : Nat → Int) (w : World) (hs : SeenF w A n f) (h : MayP t n f) :
    Calls Try.prog 10 #[.int .i64 t, .slice A n c] w (Own w n (partF t n f)) := by
  by_cases h0 : t = 0
  · subst h0; exact rsplit_zero A n c f w hs h
  · exact rsplit_some t A n c f w hs h h0

theorem rends_no (t : Int) (A : Option Addr) (n c : Nat) (f : Nat → Int) (w : World) (hs : SeenF w A n f) (hm : n ≤ 9223372036854775807) (h : ¬ MayP t n f) :
    Calls Try.prog 12 #[.int .i64 t, .slice A n c] w (Ret w (.tuple #[.slice none 0 0, .int .i64 1])) := by
  have hc := rsplit_no t A n c f w hs hm h
  go_enter Try.func12, Try.ntmps12
  go_wp2_with fail
  refine hc.mono ?_; rintro e w1 ⟨rfl, x1⟩
  go_wp2_with fail
  go_ret2
  exact ⟨rfl, x1⟩

theorem rends_yes (t : Int) (A : Option Addr) (n c : Nat) (f : Nat → Int) (w : World) (hs : SeenF w A n f) (h : MayP t n f) :
    Calls Try.prog 12 #[.int .i64 t, .slice A n c] w (Own w n (endF t n f)) := by
  have hn := h.1.2.2
  have hc := rsplit_yes t A n c f w hs h
  have PS : Hid (∀ k, k ≤ n → 0 ≤ sumF (partF t n f) k ∧ sumF (partF t n f) k ≤ 332859965440) := fun k hk => parts_small h hk
  clear h hs
  go_enter Try.func12, Try.ntmps12
  go_wp2_with fail
  refine hc.mono ?_; rintro e w1 ⟨x1, b, hb1, hb2, rfl, r1⟩
  have X2 : Hid (Ext w w1) := x1
  have Q2 : Hid (RowF w1 b n (partF t n f)) := r1
  have HB := Lib.hid hb1
  have HB2 := Lib.hid hb2
  clear x1 r1 hc hb1 hb2
  go_wp2_with fail
  go_loopw [8, 9] (fun s i wr => ∃ (k : Nat) (a : Int), k ≤ n ∧ i = .int .i64 k ∧ s = .int .i64 a ∧ Hid (a = sumF (partF t n f) k) ∧ Hid (Ext w wr) ∧ Hid (b < wr.heap.size) ∧
    Hid (RowF wr b n (fun j => if j < k then endF t n f j else partF t n f j))) (fun _ i _ => n - (intOf i).toNat)
  case atStart => exact ⟨0, 0, by omega, rfl, rfl, rfl, X2, HB2, by simpa [Hid] using Q2⟩
  case round =>
    clear X2 Q2 HB2
    obtain ⟨k, a, hk, rfl, rfl, ha, X2, HB2, R2⟩ := hrel
    by_cases hlt : k < n
    · obtain ⟨c2, f2⟩ := R2.out k hlt
      simp only [Nat.lt_irrefl, if_false] at c2
      have h1 := PS.out k hk
      have h2 := PS.out (k + 1) hlt
      have h3 : sumF (partF t n f) (k + 1) = a + partF t n f k := by rw [ha.out]; rfl
      rw [h3] at h2
      rw [← ha.out] at h1
      have H3 := Lib.hid h3
      clear h3
      have R3 : Hid (RowF (wr.setCell ⟨b, k, none⟩ (.int .i64 (a + partF t n f k))) b n (fun j => if j < k + 1 then endF t n f j else partF t n f j)) := (R2.out.set k _).congr fun j hj => by
        by_cases e : j = k
        · subst e; rw [if_pos rfl, if_pos (by omega)]; exact H3.out.symm
        · rw [if_neg e]
          by_cases e2 : j < k
          · rw [if_pos e2, if_pos (by omega)]
          · rw [if_neg e2, if_neg (by omega)]
      have X3 : Hid (Ext w (wr.setCell ⟨b, k, none⟩ (.int .i64 (a + partF t n f k)))) := X2.out.setCell (HB.out) _
      have HB3 : Hid (b < (wr.setCell ⟨b, k, none⟩ (.int .i64 (a + partF t n f k))).heap.size) := by show _ < _; simpa using HB2.out
      generalize partF t n f k = x at *
      clear R2 X2 HB2
      go_wp2_with fail
      go_roundw
      case rel => exact ⟨k + 1, a + x, by omega, by go_num, rfl, H3.out.symm, X3, HB3, R3⟩
      case measure => simp [intOf]; omega
    · obtain rfl : k = n := by omega
      have R3 : Hid (RowF wr b k (endF t k f)) := R2.out.congr fun j hj => by rw [if_pos hj]
      go_wp2_with fail
      go_ret2
      exact ⟨X2.out, b, HB.out, HB2.out, rfl, R3.out⟩
end L04
end Go.Proofs.Ytnkomnmdmbegiaa

