/- append(append([]int{}, x...), y...). -/
import Derived.Test.YtmbkgjmnaembaaaExpand08
import Derived.Test.YtmbkgjmnaembaaaLigMath08
namespace Go.Proofs.Ytmbkgjmnaembaaa
open Go.RowKit Go.Lib Go.Deep
namespace L08
open L07

/-- append(own, x...). -/
theorem run_putI {w w0 : World} {v : Value} {m : List Int} (hown : w.ownsRow w0.heap.size 3 1 v m.length (m.map (.int .i64))) (x0 : Ext w0 w) (A : Option Addr) (l : List Int) (n c : Nat) (hx : SeenF w A l.length (fun j => l.getD j 0)) (hn : n = l.length) (hm : m.length + l.length ≤ 100000000) (ty : TypeId) :
    ∃ v' w', (Builtin.append_ #[23, 23] ty #[v, .slice A n c]).run Try.prog w = .ok v' w' ∧ w'.ownsRow w0.heap.size 3 1 v' (m ++ l).length ((m ++ l).map (.int .i64)) ∧ Ext w0 w' := by
  subst hn
  obtain ⟨i, hi, hz0, hsz, hby⟩ := info_parts int_info
  rcases A with _ | ad
  · have hl : l = [] := by
      rcases l with _ | ⟨b, l⟩
      · rfl
      · obtain ⟨_, e, _⟩ := hx.get (j := 0) (by simp); cases e
    subst hl
    have ht := Try.underlying23
    refine ⟨v, w, ?_, by simpa using hown, x0⟩
    rcases hown.2 with ⟨rfl, _⟩ | ⟨g, cap, cur, rfl, _, _, hnc, _⟩
    · simp [Builtin.append_, run_underlying ht, sizeOf, typeInfo, hi, Builtin.lenOf, Builtin.firstCells]
    · simp [Builtin.append_, run_underlying ht, sizeOf, typeInfo, hi, Builtin.lenOf, Builtin.firstCells, hnc, storeCells]
  · obtain ⟨v', w', hrun, h2, h3, _, _⟩ := run_append_own_at (P := Try.prog) (w := w) w0.heap.size 23 ty 3 i (.int .i64 0) 1 8 Try.underlying23 hi hz0 hsz hby rfl (by omega) v m.length (m.map (.int .i64)) hown ad l.length c (l.map (.int .i64)) (by simp)
      (fun j u hu => by
        have hj : j < l.length := by
          have := (List.getElem?_eq_some_iff.1 hu).1
          simpa using this
        obtain ⟨ad', e, hc⟩ := hx.get hj
        cases e
        rw [hc]
        rw [List.getElem?_map, List.getElem?_eq_getElem hj] at hu
        rw [List.getD, List.getElem?_eq_getElem hj]
        exact hu) (fun u hu => by obtain ⟨z, _, rfl⟩ := List.mem_map.1 hu; rfl) (by unfold maxLen; omega) (by omega) x0.size
    refine ⟨v', w', hrun, ?_, Below.grown x0 h3 x0.size (fun k hk => (hown.lt k hk).1)⟩
    rw [List.length_append, List.map_append]
    exact h2
theorem run_joinI (w : World) (A1 A2 : Option Addr) (n1 n2 c1 c2 : Nat) (l1 l2 : List Int) (h1 : SeenF w A1 l1.length (fun j => l1.getD j 0)) (h2 : SeenF w A2 l2.length (fun j => l2.getD j 0)) (e1 : n1 = l1.length) (e2 : n2 = l2.length) (hl : l1.length + l2.length ≤ 10000000) :
    ∃ v1 w1 A c w2, (Builtin.append_ #[23, 23] 23 #[.slice (some ⟨w.heap.size, 0, none⟩) 0 0, .slice A1 n1 c1]).run Try.prog (w.alloc (.cells #[] 3)) = .ok v1 w1 ∧
      (Builtin.append_ #[23, 23] 23 #[v1, .slice A2 n2 c2]).run Try.prog w1 = .ok (.slice A (l1 ++ l2).length c) w2 ∧ (l1 ++ l2).length ≤ c ∧ SeenF w2 A (l1 ++ l2).length (fun j => (l1 ++ l2).getD j 0) ∧ Ext w w1 ∧ Ext w w2 := by
  have o0 := World.ownsRow_lit (base := w.heap.size) (e := 3) (size := 1) w #[] 0 (Nat.le_refl _) (by unfold maxLen; omega) (by simp)
  have o0 : (w.alloc (.cells #[] 3)).ownsRow w.heap.size 3 1 (.slice (some ⟨w.heap.size, 0, none⟩) 0 0) ([] : List Int).length (([] : List Int).map (.int .i64)) := by simpa using o0
  obtain ⟨v1, w1, r1, o1, x1⟩ := run_putI o0 ((Ext.refl w).alloc _) A1 l1 n1 c1 (h1.ext ((Ext.refl _).alloc _)) e1 (by simp; omega) 23
  rw [List.nil_append] at o1
  obtain ⟨v2, w2, r2, o2, x2⟩ := run_putI o1 x1 A2 l2 n2 c2 (h2.ext x1) e2 (by omega) 23
  obtain ⟨A, c, rfl, hc, _, hs⟩ := own_slice o2
  exact ⟨v1, w1, A, c, w2, r1, r2, hc, hs.fn, x1, x2⟩

theorem exp1_mem {D : FontD} {m : MapN} (F : Fine D m) : ∀ (f : Nat) (c : Int), ∀ y ∈ exp1 m f c, y = c ∨ (0 ≤ y ∧ y < 256)
  | 0, c, y, hy => by simp [exp1] at hy; exact .inl hy
  | f + 1, c, y, hy => by
    rw [exp1] at hy
    cases hm : m c with
    | none => simp [hm] at hy; exact .inl hy
    | some p =>
      have h2 := F.key c p hm
      simp only [hm, List.mem_append, List.mem_singleton] at hy
      rcases hy with hy | rfl
      · rcases exp1_mem F f p.1 y hy with rfl | h
        · exact .inr ⟨h2.2.2.1, by omega⟩
        · exact .inr h
      · exact .inr ⟨h2.2.2.2.2.1, by omega⟩
theorem expL_wide {D : FontD} {m : MapN} (F : Fine D m) {l : List Int} (h : ∀ x ∈ l, -9223372036854775808 ≤ x ∧ x ≤ 9223372036854775807) : ∀ y ∈ expL m l, -9223372036854775808 ≤ y ∧ y ≤ 9223372036854775807 := by
  intro y hy
  obtain ⟨c, hc, hcy⟩ := List.mem_flatMap.1 hy
  rcases exp1_mem F 300 c y hcy with rfl | h'
  · exact h _ hc
  · omega
theorem expL_length (m : MapN) : ∀ l : List Int, (expL m l).length ≤ 301 * l.length
  | [] => by simp [expL]
  | c :: r => by
    have h1 := exp1_length m 300 c
    have h2 := expL_length m r
    rw [expL_cons, List.length_append, List.length_cons]
    show (exp1 m 300 c).length + _ ≤ _
    omega
theorem getD_wide {l : List Int} (h : ∀ x ∈ l, -9223372036854775808 ≤ x ∧ x ≤ 9223372036854775807) (j : Nat) : -9223372036854775808 ≤ l.getD j 0 ∧ l.getD j 0 ≤ 9223372036854775807 := by
  by_cases hj : j < l.length
  · rw [List.getD, List.getElem?_eq_getElem hj]
    exact h _ (List.getElem_mem hj)
  · rw [List.getD, List.getElem?_eq_none (by omega)]; simp
/-- What Expand does, whatever the font. -/
theorem expand_kit (D : FontD) : ∃ (E : List Int → List Int) (er : Int), (∀ l, expandR D l = (E l, er)) ∧ (∀ a b, E (a ++ b) = E a ++ E b) ∧ (∀ a, E (E a) = E a) ∧ ((er = 0 ∧ ligB D = true) ∨ (er = 70 ∧ ligB D = false)) ∧ (∀ l, (E l).length ≤ 301 * l.length) ∧
    ∀ l, (∀ x ∈ l, -9223372036854775808 ≤ x ∧ x ≤ 9223372036854775807) → ∀ y ∈ E l, -9223372036854775808 ≤ y ∧ y ≤ 9223372036854775807 := by
  cases hm : makeD D with
  | none => exact ⟨fun _ => [], 70, fun l => by rw [expandR, hm], fun _ _ => rfl, fun _ => rfl, .inr ⟨rfl, by rw [ligB, hm]; rfl⟩, fun l => by simp, fun l _ y hy => by simp at hy⟩
  | some m =>
    have G := make_good hm
    exact ⟨expL m, 0, fun l => by rw [expandR, hm], expL_append m, expL_twice G.fine, .inl ⟨rfl, by rw [ligB, hm]; rfl⟩, expL_length m, fun l h => expL_wide G.fine h⟩
end L08
end Go.Proofs.Ytmbkgjmnaembaaa

