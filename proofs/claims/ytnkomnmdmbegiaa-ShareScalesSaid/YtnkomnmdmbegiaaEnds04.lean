/- The contracts of layer 4's Split, whole, and of Ends; and what all statements of the layer begin with. -/
import Derived.Test.YtnkomnmdmbegiaaSplitB04
namespace Go.Proofs.Ytnkomnmdmbegiaa
open Go.RowKit Go.Sort Go.Lib Go.Shelf
namespace L04

theorem split_yes (t : Int) (A : Option Addr) (n c : Nat) (f : Nat → Int) (w : World) (hs : SeenF w A n f) (h : MayP t n f) :
    Calls Try.prog 9 #[.int .i64 t, .slice A n c] w (Own w n (partF t n f)) := by
  by_cases h0 : t = 0
  · subst h0; exact split_zero A n c f w hs h
  · exact split_some t A n c f w hs h h0

/-- Where the parts end. -/
def endF (t : Int) (n : Nat) (f : Nat → Int) (i : Nat) : Int := sumF (partF t n f) (i + 1)

theorem ends_no (t : Int) (A : Option Addr) (n c : Nat) (f : Nat → Int) (w : World) (hs : SeenF w A n f) (hm : n ≤ 9223372036854775807) (h : ¬ MayP t n f) :
    Calls Try.prog 11 #[.int .i64 t, .slice A n c] w (Ret w (.tuple #[.slice none 0 0, .int .i64 1])) := by
  have hc := split_no t A n c f w hs hm h
  go_enter Try.func11, Try.ntmps11
  go_wp2_with fail
  refine hc.mono ?_; rintro e w1 ⟨rfl, x1⟩
  go_wp2_with fail
  go_ret2
  exact ⟨rfl, x1⟩

/-- A sum of parts is in bounds. -/
theorem parts_small {t : Int} {n k : Nat} {f : Nat → Int} (h : MayP t n f) (hk : k ≤ n) : 0 ≤ sumF (partF t n f) k ∧ sumF (partF t n f) k ≤ 332859965440 :=
  sum_small (f := partF t n f) (n := n) (fun j hj => ⟨part_nonneg h j hj, by have := part_le h j hj; have := h.1.2.1; omega⟩) hk (by have := h.1.2.2; omega)

theorem ends_yes (t : Int) (A : Option Addr) (n c : Nat) (f : Nat → Int) (w : World) (hs : SeenF w A n f) (h : MayP t n f) :
    Calls Try.prog 11 #[.int .i64 t, .slice A n c] w (Own w n (endF t n f)) := by
  have hn := h.1.2.2
  have hc := split_yes t A n c f w hs h
  have PS : Hid (∀ k, k ≤ n → 0 ≤ sumF (partF t n f) k ∧ sumF (partF t n f) k ≤ 332859965440) := fun k hk => parts_small h hk
  obtain ⟨cs, hmk, hrow⟩ := make_ints Try.prog 22 3 n Try.underlying22 int_zero (by omega)
  have HR := Lib.hid hrow
  clear h hrow hs
  go_enter Try.func11, Try.ntmps11
  go_wp2_with fail
  refine hc.mono ?_; rintro e w1 ⟨x1, b, hb1, hb2, rfl, r1⟩
  have X2 : Hid (Ext w (w1.alloc (.cells cs 3))) := x1.alloc _
  have Q2 : Hid (RowF (w1.alloc (.cells cs 3)) b n (partF t n f)) := r1.ext ((Ext.refl _).alloc _)
  have R2 : Hid (RowF (w1.alloc (.cells cs 3)) w1.heap.size n (fun _ => 0)) := HR.out w1
  have HB : Hid (w.heap.size ≤ w1.heap.size ∧ b < w1.heap.size ∧ w1.heap.size < (w1.alloc (.cells cs 3)).heap.size) := ⟨x1.size, hb2, by simp⟩
  clear x1 r1 hc hb2
  go_wp2_with fail
  generalize w1.alloc (.cells cs 3) = w2 at *
  generalize gB : w1.heap.size = B at *
  clear hmk HR gB
  go_loopw [9, 26] (fun s i wr => ∃ (k : Nat) (a : Int), k ≤ n ∧ i = .int .i64 k ∧ s = .int .i64 a ∧ Hid (a = sumF (partF t n f) k) ∧ Hid (Ext w wr) ∧ Hid (B < wr.heap.size) ∧ Hid (RowF wr b n (partF t n f)) ∧
    Hid (RowF wr B n (fun j => if j < k then endF t n f j else 0))) (fun _ i _ => n - (intOf i).toNat)
  case atStart => exact ⟨0, 0, by omega, rfl, rfl, rfl, X2, HB.out.2.2, Q2, by simpa [Hid] using R2⟩
  case round =>
    clear X2 R2 Q2
    obtain ⟨k, a, hk, rfl, rfl, ha, X2, HB2, Q2, R2⟩ := hrel
    by_cases hlt : k < n
    · obtain ⟨c1, f1⟩ := Q2.out k hlt
      obtain ⟨c2, f2⟩ := R2.out k hlt
      have h1 := PS.out k hk
      have h2 := PS.out (k + 1) hlt
      have h3 : sumF (partF t n f) (k + 1) = a + partF t n f k := by rw [ha.out]; rfl
      rw [h3] at h2
      rw [← ha.out] at h1
      have H3 := Lib.hid h3
      clear h3
      have R3 : Hid (RowF (wr.setCell ⟨B, k, none⟩ (.int .i64 (a + partF t n f k))) B n (fun j => if j < k + 1 then endF t n f j else 0)) := (R2.out.set k _).congr fun j hj => by
        by_cases e : j = k
        · subst e; rw [if_pos rfl, if_pos (by omega)]; exact H3.out.symm
        · rw [if_neg e]
          by_cases e2 : j < k
          · rw [if_pos e2, if_pos (by omega)]
          · rw [if_neg e2, if_neg (by omega)]
      have Q3 : Hid (RowF (wr.setCell ⟨B, k, none⟩ (.int .i64 (a + partF t n f k))) b n (partF t n f)) := Q2.out.other (by show B ≠ b; have := HB.out; omega) _
      have X3 : Hid (Ext w (wr.setCell ⟨B, k, none⟩ (.int .i64 (a + partF t n f k)))) := X2.out.setCell (HB.out.1) _
      have HB3 : Hid (B < (wr.setCell ⟨B, k, none⟩ (.int .i64 (a + partF t n f k))).heap.size) := by show _ < _; simpa using HB2.out
      generalize partF t n f k = x at *
      clear R2 Q2 X2
      go_wp2_with fail
      go_roundw
      case rel => exact ⟨k + 1, a + x, by omega, by go_num, rfl, H3.out.symm, X3, HB3, Q3, R3⟩
      case measure => simp [intOf]; omega
    · obtain rfl : k = n := by omega
      have R3 : Hid (RowF wr B k (endF t k f)) := R2.out.congr fun j hj => by rw [if_pos hj]
      go_wp2_with fail
      go_ret2
      exact ⟨X2.out, B, HB.out.1, HB2.out, rfl, R3.out⟩

/-- A row that a call has made in memory of its own, as a list of numbers. -/
theorem seen_lit (w : World) (l : List Int) (t : TypeId) : SeenF (w.alloc (.cells (l.map (Value.int .i64)).toArray t)) (some ⟨w.heap.size, 0, none⟩) l.length (fun j => l.getD j 0) :=
  Seen.fn (seen_new w (l.map (Value.int .i64)) t)
end L04
end Go.Proofs.Ytnkomnmdmbegiaa

