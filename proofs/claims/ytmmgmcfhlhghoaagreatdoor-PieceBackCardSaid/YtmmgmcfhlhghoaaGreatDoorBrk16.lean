/- Breaks in slices; one's own breaks, to which more are put; the same? -/
import Derived.Test.YtmmgmcfhlhghoaaGreatDoorGF16
import Derived.Deep.QuietTactic
import Derived.BigQuiet
namespace Go.Proofs.YtmmgmcfhlhghoaaGreatDoor
open Go.RowKit
namespace L16

/-- A break: its kind, its word, its place. -/
abbrev Brk := Int × Int × Int
def brkV (b : Brk) : Value := .agg #[.int .i64 b.1, .int .i64 b.2.1, .int .i64 b.2.2]
/-- Is one ahead of another one? -/
def befB (a b : Brk) : Bool := if a.1 = 0 ∨ b.1 = 0 then decide (a.1 = 0) && decide (b.1 ≠ 0) else decide (a.2.1 < b.2.1) || (decide (a.2.1 = b.2.1) && decide (a.2.2 < b.2.2))
theorem bef_iff {a b : Brk} : befB a b = true ↔ (a.1 = 0 ∧ b.1 ≠ 0) ∨ (a.1 ≠ 0 ∧ b.1 ≠ 0 ∧ (a.2.1 < b.2.1 ∨ (a.2.1 = b.2.1 ∧ a.2.2 < b.2.2))) := by
  unfold befB
  split
  · rename_i h
    simp only [Bool.and_eq_true, decide_eq_true_eq]
    omega
  · rename_i h
    simp only [Bool.or_eq_true, Bool.and_eq_true, decide_eq_true_eq]
    omega
def flatK (l : List Brk) : List Value := l.flatMap fun b => [.int .i64 b.1, .int .i64 b.2.1, .int .i64 b.2.2]
theorem flatK_append (l m : List Brk) : flatK (l ++ m) = flatK l ++ flatK m := by simp [flatK]
theorem flatK_length (l : List Brk) : (flatK l).length = l.length * 3 := by
  induction l with
  | nil => rfl
  | cons x r ih => simp only [flatK, List.flatMap_cons, List.length_append, List.length_cons, List.length_nil] at *; omega
theorem flatK_get : ∀ (l : List Brk) (i : Nat) (b : Brk), l[i]? = some b → (flatK l)[i * 3]? = some (.int .i64 b.1) ∧ (flatK l)[i * 3 + 1]? = some (.int .i64 b.2.1) ∧ (flatK l)[i * 3 + 2]? = some (.int .i64 b.2.2)
  | [], _, _, h => by simp at h
  | x :: r, 0, b, h => by
    obtain rfl : x = b := by simpa using h
    exact ⟨rfl, rfl, rfl⟩
  | x :: r, i + 1, b, h => by
    have ih := flatK_get r i b (by simpa using h)
    have e : flatK (x :: r) = .int .i64 x.1 :: .int .i64 x.2.1 :: .int .i64 x.2.2 :: flatK r := rfl
    rw [e, show (i + 1) * 3 = i * 3 + 1 + 1 + 1 by omega]
    exact ih
theorem flatK_one (l : List Brk) : ∀ v ∈ flatK l, v.oneCell' = true := by
  intro v hv
  simp only [flatK, List.mem_flatMap] at hv
  obtain ⟨b, _, hb⟩ := hv
  simp only [List.mem_cons, List.not_mem_nil, or_false] at hb
  rcases hb with rfl | rfl | rfl <;> rfl
/-- Breaks that are seen. -/
def SeenK (w : World) (A : Option Addr) (l : List Brk) : Prop := Seen w.heap.size w A (flatK l)
theorem SeenK.ext {w w' : World} {A : Option Addr} {l : List Brk} (h : SeenK w A l) (x : Ext w w') : SeenK w' A l := Seen.ext h x
theorem SeenK.nil {w : World} {A : Option Addr} : SeenK w A [] := Seen.nil
theorem SeenK.get {w : World} {A : Option Addr} {l : List Brk} (h : SeenK w A l) {k : Nat} (hk : k < l.length) :
    ∃ ad, A = some ad ∧ w.cell? (ad.add (k * 3)) = some (.int .i64 l[k].1) ∧ w.cell? ⟨(ad.add (k * 3)).block, (ad.add (k * 3)).off + 1, none⟩ = some (.int .i64 l[k].2.1) ∧ w.cell? ⟨(ad.add (k * 3)).block, (ad.add (k * 3)).off + 2, none⟩ = some (.int .i64 l[k].2.2) := by
  obtain ⟨g0, g1, g2⟩ := flatK_get l k l[k] (List.getElem?_eq_getElem hk)
  obtain ⟨ad, e, _, h0⟩ := h _ _ g0
  obtain ⟨ad1, e1, _, h1⟩ := h _ _ g1
  obtain ⟨ad2, e2, _, h2⟩ := h _ _ g2
  rw [e] at e1 e2
  cases e1
  cases e2
  rw [← addr_add] at h1 h2
  exact ⟨ad, e, h0, by cases ad with | mk b o s => (cases s <;> simpa [Addr.add] using h1), by cases ad with | mk b o s => (cases s <;> simpa [Addr.add] using h2)⟩

/-- One's own breaks, made since w0. -/
def OwnK (w0 w : World) (v : Value) (l : List Brk) : Prop := w.ownsRow w0.heap.size 43 3 v l.length (flatK l) ∧ Ext w0 w
theorem OwnK.nil {w0 w : World} (x : Ext w0 w) : OwnK w0 w (.slice none 0 0) [] := ⟨World.ownsRow_nil _ _ _ _, x⟩
theorem OwnK.over {w0 w w' : World} {v : Value} {l : List Brk} (h : OwnK w0 w v l) (x : Ext w w') : OwnK w0 w' v l := ⟨OwnsRow.ext h.1 x, h.2.trans x⟩
theorem OwnK.down {w0 W w' : World} {v : Value} {l : List Brk} (x : Ext w0 W) (h : OwnK W w' v l) : OwnK w0 w' v l :=
  ⟨⟨h.1.1, h.1.2.imp id fun ⟨g, cap, cur, e, hb, r⟩ => ⟨g, cap, cur, e, Nat.le_trans x.size hb, r⟩⟩, x.trans h.2⟩
theorem OwnK.seen {w0 w : World} {v : Value} {l : List Brk} (h : OwnK w0 w v l) : ∃ A c, v = .slice A l.length c ∧ SeenK w A l ∧ ∀ ad, A = some ad → w0.heap.size ≤ ad.block := by
  obtain ⟨A, c, rfl, hs⟩ := own_seen h.1
  exact ⟨A, c, rfl, hs, fun ad e => (h.1.lt ad.block (by rw [e]; rfl)).1⟩
theorem brk_info16 : (Tryz.prog.info? 43).map (fun i => (i.zero, i.size, i.bytes)) = some (some (.agg #[.int .i64 0, .int .i64 0, .int .i64 0]), 3, 24) := by kernel_rfl
/-- append(own, more...). -/
theorem OwnK.puts {w0 w : World} {v : Value} {l : List Brk} (h : OwnK w0 w v l) (A : Option Addr) (m : List Brk) (n c : Nat) (hs : SeenK w A m) (hn : n = m.length) (hm : l.length + m.length ≤ 1000000) (ty : TypeId) :
    ∃ v' w', (Builtin.append_ #[35, 35] ty #[v, .slice A n c]).run Tryz.prog w = .ok v' w' ∧ OwnK w0 w' v' (l ++ m) := by
  subst hn
  obtain ⟨i, hi, hz0, hsz, hby⟩ := info_parts brk_info16
  rcases A with _ | ad
  · have hl : m = [] := by
      rcases m with _ | ⟨b, m⟩
      · rfl
      · obtain ⟨_, e, _⟩ := hs.get (k := 0) (by simp); cases e
    subst hl
    refine ⟨v, w, ?_, by simpa using h.1, h.2⟩
    rcases h.1.2 with ⟨rfl, _⟩ | ⟨g, cap, cur, rfl, _, _, hnc, _⟩
    · simp [Builtin.append_, run_underlying Tryz.underlying35, Go.sizeOf, typeInfo, hi, Builtin.lenOf, Builtin.firstCells]
    · simp [Builtin.append_, run_underlying Tryz.underlying35, Go.sizeOf, typeInfo, hi, Builtin.lenOf, Builtin.firstCells, hnc, storeCells]
  · obtain ⟨v', w', hr, ho, hg, _, _⟩ := run_append_own_at (P := Tryz.prog) w w0.heap.size 35 ty 43 i (.agg #[.int .i64 0, .int .i64 0, .int .i64 0]) 3 24 Tryz.underlying35 hi hz0 hsz hby rfl (by omega) v l.length (flatK l) h.1 ad m.length c (flatK m) (flatK_length m)
      (fun j u hu => by
        obtain ⟨ad', e, _, hc⟩ := hs j u hu
        cases e
        exact hc) (flatK_one m) (by unfold maxLen; omega) (by omega) h.2.size
    refine ⟨v', w', hr, ?_, Below.grown h.2 hg h.2.size (fun k hk => (h.1.lt k hk).1)⟩
    rw [List.length_append, flatK_append]
    exact ho
theorem seenK_new (w : World) (b : Brk) : SeenK (w.alloc (.cells #[.int .i64 b.1, .int .i64 b.2.1, .int .i64 b.2.2] 43)) (some ⟨w.heap.size, 0, none⟩) [b] := seen_new w (flatK [b]) 43
/-- append(own, b). -/
theorem OwnK.put {w0 w : World} {v : Value} {l : List Brk} (h : OwnK w0 w v l) (b : Brk) (hm : l.length + 1 ≤ 1000000) (ty : TypeId) :
    ∃ v' w', (Builtin.append_ #[35, 35] ty #[v, .slice (some ⟨w.heap.size, 0, none⟩) 1 1]).run Tryz.prog (w.alloc (.cells #[.int .i64 b.1, .int .i64 b.2.1, .int .i64 b.2.2] 43)) = .ok v' w' ∧ OwnK w0 w' v' (l ++ [b]) :=
  (h.over ((Ext.refl w).alloc (.cells #[.int .i64 b.1, .int .i64 b.2.1, .int .i64 b.2.2] 43))).puts _ [b] 1 1 (seenK_new w b) rfl (by simpa using hm) ty
/-- A list of one's own, of one break. -/
theorem OwnK.one (w : World) (b : Brk) : OwnK w (w.alloc (.cells #[.int .i64 b.1, .int .i64 b.2.1, .int .i64 b.2.2] 43)) (.slice (some ⟨w.heap.size, 0, none⟩) 1 1) [b] :=
  ⟨World.ownsRow_lit (base := w.heap.size) (e := 43) (size := 3) w #[.int .i64 b.1, .int .i64 b.2.1, .int .i64 b.2.2] 1 (Nat.le_refl _) (by unfold maxLen; omega) (by simp), (Ext.refl w).alloc _⟩

theorem ret_b {a b : Bool} (h : a = b) : Ending.returned (.bool a) = .returned (.bool b) := by rw [h]
end L16
end Go.Proofs.YtmmgmcfhlhghoaaGreatDoor

