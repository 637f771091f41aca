/- Layer 13: two texts, one behind the other; words put to one's own. -/
import Derived.Test.YtbiklbomacjihaaDoorAns13
import Derived.Test.YtbiklbomacjihaaDoorMath13
namespace Go.Proofs.YtbiklbomacjihaaDoor
open Go.RowKit
namespace L13
open L10 (gapB wordsGo wordsL)

theorem readA_ok {t : List UInt8} (h : (readA t).2 = 0) : (wordsL t).map ofL = (readA t).1 ∧ ∀ p ∈ (readA t).1, wordB p = true := by
  unfold readA fromL at h ⊢
  split
  · rename_i hc
    simp only [Bool.and_eq_true] at hc
    exact ⟨rfl, List.all_eq_true.1 hc.1⟩
  · rename_i hc
    rw [if_neg hc] at h
    cases h
theorem readA_join {a b : List UInt8} (ha : (readA a).2 = 0) (hb : (readA b).2 = 0) : readA (a ++ 32 :: b) = if checkB ((readA a).1 ++ (readA b).1) = true then ((readA a).1 ++ (readA b).1, 0) else ([], 130) := by
  obtain ⟨a1, a2⟩ := readA_ok ha
  obtain ⟨b1, b2⟩ := readA_ok hb
  have e : (wordsL (a ++ 32 :: b)).map ofL = (readA a).1 ++ (readA b).1 := by
    unfold wordsL
    rw [wordsGo_app, List.map_append]
    unfold wordsL at a1 b1
    rw [a1, b1]
  have hall : ((readA a).1 ++ (readA b).1).all wordB = true := List.all_eq_true.2 fun p hp => (List.mem_append.1 hp).elim (a2 p) (b2 p)
  have e2 : readA (a ++ 32 :: b) = fromL ((wordsL (a ++ 32 :: b)).map ofL) := rfl
  rw [e2, e, fromL, hall, Bool.true_and]
theorem textL_pre : ∀ l1 l2 : List TW, ∃ r, textL (l1 ++ l2) = textL l1 ++ r
  | [], l2 => ⟨_, rfl⟩
  | [p], [] => ⟨[], by simp⟩
  | [p], q :: l2 => ⟨32 :: textL (q :: l2), by simp [textL]⟩
  | p :: q :: r, l2 => by
    obtain ⟨s, hs⟩ := textL_pre (q :: r) l2
    refine ⟨s, ?_⟩
    rw [List.cons_append, List.cons_append, textL, ← List.cons_append, hs, textL]
    simp
theorem textL_take (l : List TW) (k : Nat) : (textL (l.take k)).length ≤ (textL l).length ∧ (textL l).take (textL (l.take k)).length = textL (l.take k) := by
  obtain ⟨r, hr⟩ := textL_pre (l.take k) (l.drop k)
  rw [List.take_append_drop] at hr
  rw [hr]
  simp
theorem sumC_append (l m : List TW) : sumC (l ++ m) = sumC l + sumC m := by simp [sumC]
theorem check_take {l : List TW} (h : checkB l = true) {k : Nat} (h1 : 1 ≤ k) : checkB (l.take k) = true := by
  simp only [checkB, Bool.and_eq_true, decide_eq_true_eq, List.all_eq_true] at h ⊢
  have e : sumC l = sumC (l.take k) + sumC (l.drop k) := by rw [← sumC_append, List.take_append_drop]
  refine ⟨by rw [List.length_take]; omega, fun p hp => h.2.1 p (List.mem_of_mem_take hp), by omega⟩
/-- append(own, words...). -/
def OwnC (w0 w : World) (v : Value) (l : List CW) : Prop := w.ownsRow w0.heap.size 36 2 v l.length (flatC l) ∧ Ext w0 w
theorem OwnC.lit (w : World) : OwnC w (w.alloc (.cells #[] 36)) (.slice (some ⟨w.heap.size, 0, none⟩) 0 0) [] := by
  refine ⟨?_, (Ext.refl w).alloc _⟩
  have := World.ownsRow_lit (base := w.heap.size) (e := 36) (size := 2) w #[] 0 (Nat.le_refl _) (by unfold maxLen; omega) (by simp)
  simpa [flatC] using this
theorem seenC_flat {w : World} {A : Option Addr} {l : List CW} (h : SeenC w A l) : Seen w.heap.size w A (flatC l) := fun k v hv => by
  have hk : k < (flatC l).length := (List.getElem?_eq_some_iff.1 hv).1
  rw [flatC_length] at hk
  have hi : k / 2 < l.length := by omega
  obtain ⟨g0, g1⟩ := flatC_get l (k / 2) l[k / 2] (List.getElem?_eq_getElem hi)
  obtain ⟨⟨ad, e, hb, h0, h1⟩, _, _⟩ := h (k / 2) l[k / 2] (List.getElem?_eq_getElem hi)
  rcases (show k = k / 2 * 2 ∨ k = k / 2 * 2 + 1 by omega) with hk2 | hk2
  · rw [← hk2] at g0 h0
    rw [hv] at g0
    cases g0
    exact ⟨ad, e, hb, h0⟩
  · rw [← hk2] at g1 h1
    rw [hv] at g1
    cases g1
    exact ⟨ad, e, hb, h1⟩
theorem OwnC.put {w0 w : World} {v : Value} {m : List CW} (h : OwnC w0 w v m) (A : Option Addr) (l : List CW) (n c : Nat) (hx : SeenC w A l) (hn : n = l.length) (hm : m.length + l.length ≤ 1000000) (ty : TypeId) :
    ∃ v' w', (Builtin.append_ #[24, 24] ty #[v, .slice A n c]).run Tryd.prog w = .ok v' w' ∧ OwnC w0 w' v' (m ++ l) := by
  subst hn
  obtain ⟨i, hi, hz0, hsz, hby⟩ := info_parts word_info13
  rcases A with _ | ad
  · have hl : l = [] := by
      rcases l with _ | ⟨b, l⟩
      · rfl
      · obtain ⟨⟨_, e, _⟩, _⟩ := hx.get (k := 0) (by simp); cases e
    subst hl
    refine ⟨v, w, ?_, by simpa using h.1, h.2⟩
    rcases h.1.2 with ⟨rfl, _⟩ | ⟨g, cap, cur, rfl, _, _, hnc, _⟩
    · simp [Builtin.append_, run_underlying Tryd.underlying24, sizeOf, typeInfo, hi, Builtin.lenOf, Builtin.firstCells]
    · simp [Builtin.append_, run_underlying Tryd.underlying24, sizeOf, typeInfo, hi, Builtin.lenOf, Builtin.firstCells, hnc, storeCells]
  · obtain ⟨v', w', hrun, h2, h3, _, _⟩ := run_append_own_at (P := Tryd.prog) w w0.heap.size 24 ty 36 i (.agg #[.slice none 0 0, .slice none 0 0]) 2 48 Tryd.underlying24 hi hz0 hsz hby rfl (by omega) v m.length (flatC m) h.1 ad l.length c (flatC l) (flatC_length l)
      (fun j u hu => by
        obtain ⟨ad', e, _, hc⟩ := seenC_flat hx j u hu
        obtain rfl : ad = ad' := by simpa using e
        exact hc) (flatC_one l) (by unfold maxLen; omega) (by omega) h.2.size
    refine ⟨v', w', hrun, ?_, Below.grown h.2 h3 h.2.size (fun k hk => (h.1.lt k hk).1)⟩
    rw [List.length_append, flatC_append]
    exact h2
theorem OwnC.look {w0 w : World} {v : Value} {l : List CW} (h : OwnC w0 w v l) (hi : ∀ x ∈ l, SeenL w0 x.A x.cs ∧ SeenL w0 x.B x.ss) : ∃ A c, v = .slice A l.length c ∧ l.length ≤ c ∧ c ≤ maxLen ∧ SeenC w A l := by
  obtain ⟨A, c, rfl, hs⟩ := own_seen h.1
  have hin : ∀ x ∈ l, SeenL w x.A x.cs ∧ SeenL w x.B x.ss := fun x hx => ⟨(hi x hx).1.ext h.2, (hi x hx).2.ext h.2⟩
  obtain ⟨_, ⟨e1, h1⟩ | ⟨g, cap, cur, e1, _, _, hc, hm, _⟩⟩ := h.1
  · simp only [Value.slice.injEq] at e1
    exact ⟨A, c, rfl, by omega, by unfold maxLen; omega, seenC_of hs hin⟩
  · simp only [Value.slice.injEq] at e1
    exact ⟨A, c, rfl, by omega, by omega, seenC_of hs hin⟩
theorem SeenC.take {w : World} {A : Option Addr} {l : List CW} (h : SeenC w A l) (k : Nat) : SeenC w A (l.take k) := fun i x hx => by
  rw [List.getElem?_take] at hx
  split at hx
  · exact h i x hx
  · cases hx
end L13
end Go.Proofs.YtbiklbomacjihaaDoor

