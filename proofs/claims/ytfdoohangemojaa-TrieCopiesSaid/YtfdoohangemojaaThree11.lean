/- Three tries beside each other; a list of one's own that is in no variable. -/
import Derived.Test.YtfdoohangemojaaMany11
namespace Go.Proofs.Ytfdoohangemojaa
open Go.RowKit
open Go.Lib hiding intOf
namespace L11
open L10 (TN plainB patB tn rd patsB)

/-- Three tries that share nothing. -/
def Three (w : World) (B1 B2 B3 : Nat) (p1 p2 p3 : List TN) : Prop :=
  ∃ F1 F2 F3, TrieAt w B1 F1 p1 ∧ TrieAt w B2 F2 p2 ∧ TrieAt w B3 F3 p3 ∧ Apart B1 F1 B2 F2 ∧ Apart B2 F2 B3 F3 ∧ Apart B3 F3 B1 F1
theorem Three.rot {w : World} {B1 B2 B3 : Nat} {p1 p2 p3 : List TN} (h : Three w B1 B2 B3 p1 p2 p3) : Three w B2 B3 B1 p2 p3 p1 := by
  obtain ⟨F1, F2, F3, h1, h2, h3, a, b, c⟩ := h
  exact ⟨F2, F3, F1, h2, h3, h1, b, c, a⟩
theorem Three.ext {w w' : World} {B1 B2 B3 : Nat} {p1 p2 p3 : List TN} (h : Three w B1 B2 B3 p1 p2 p3) (x : Ext w w') : Three w' B1 B2 B3 p1 p2 p3 := by
  obtain ⟨F1, F2, F3, h1, h2, h3, a, b, c⟩ := h
  exact ⟨F1, F2, F3, h1.ext x, h2.ext x, h3.ext x, a, b, c⟩
theorem three_asked {w w' : World} {B1 B2 B3 : Nat} {F1 F2 F3 F : Nat → Prop} {p1 p2 p3 : List TN} (h2 : TrieAt w B2 F2 p2) (h3 : TrieAt w B3 F3 p3) (a : Apart B1 F1 B2 F2) (b : Apart B2 F2 B3 F3) (c : Apart B3 F3 B1 F1)
    (x : But (Only B1) w w') (T : TrieAt w' B1 F p1) (hF : ∀ k, F k → F1 k ∨ (w.heap.size ≤ k ∧ k < w'.heap.size)) : Three w' B1 B2 B3 p1 p2 p3 :=
  ⟨F, F2, F3, T, h2.beside x a.symm, h3.beside x c, a.asked h2 hF, b, (c.symm.asked h3 hF).symm⟩
def ThreeV (w : World) (B1 B2 B3 : Nat) (p1 p2 p3 : List TN) (l : List UInt8) (e : Ending) (w' : World) : Prop :=
  But (Only B1) w w' ∧ Three w' B1 B2 B3 p1 p2 p3 ∧ ∃ A c, e = .returned (.slice A (valsL p1 l).length c) ∧ SeenL w' A (valsL p1 l) ∧ ∀ ad, A = some ad → B1 < ad.block ∧ B2 < ad.block ∧ B3 < ad.block
theorem Three.vals {w : World} {B1 B2 B3 : Nat} {p1 p2 p3 : List TN} (h : Three w B1 B2 B3 p1 p2 p3) (s : ByteArray) : Calls Try.prog 18 #[.pointer (some ⟨B1, 0, none⟩), .string s] w (ThreeV w B1 B2 B3 p1 p2 p3 s.data.toList) := by
  obtain ⟨F1, F2, F3, h1, h2, h3, a, b, c⟩ := h
  refine (vals_any w B1 F1 p1 h1 s).mono ?_
  rintro e w' ⟨x, F, A, cc, rfl, T, hF, hs, ha⟩
  exact ⟨x, three_asked h2 h3 a b c x T hF, A, cc, rfl, hs, fun ad e => by have := (ha ad e).1; have l1 := h1.lt; have l2 := h2.lt; have l3 := h3.lt; omega⟩
def ThreeN (w : World) (B1 B2 B3 : Nat) (p1 p2 p3 : List TN) (e : Ending) (w' : World) : Prop := e = .returned (.int .i64 (nodesL p1).length) ∧ But (Only B1) w w' ∧ Three w' B1 B2 B3 p1 p2 p3
theorem Three.nodes {w : World} {B1 B2 B3 : Nat} {p1 p2 p3 : List TN} (h : Three w B1 B2 B3 p1 p2 p3) : Calls Try.prog 19 #[.pointer (some ⟨B1, 0, none⟩)] w (ThreeN w B1 B2 B3 p1 p2 p3) := by
  obtain ⟨F1, F2, F3, h1, h2, h3, a, b, c⟩ := h
  refine (nodes_any w B1 F1 p1 h1).mono ?_
  rintro e w' ⟨rfl, x, F, T, hF⟩
  exact ⟨rfl, x, three_asked h2 h3 a b c x T hF⟩
/-- The third one is made. -/
theorem three_new {w w' : World} {B1 B2 B3 : Nat} {F1 F2 F3 : Nat → Prop} {p1 p2 p3 : List TN} (h1 : TrieAt w B1 F1 p1) (h2 : TrieAt w B2 F2 p2) (a : Apart B1 F1 B2 F2) (x : Ext w w') (T : TrieAt w' B3 F3 p3) (hB : w.heap.size ≤ B3) (hF : ∀ k, F3 k → w.heap.size ≤ k) : Three w' B1 B2 B3 p1 p2 p3 :=
  ⟨F1, F2, F3, h1.ext x, h2.ext x, T, a, Apart.new h2 hB hF, (Apart.new h1 hB hF).symm⟩

/-- append(own, more...), of patterns. -/
theorem own_puts {W w : World} {v : Value} {cl : List WP} (hown : w.ownsRow W.heap.size 49 2 v cl.length (flatW cl)) (hx0 : Ext W w) (A : Option Addr) (l : List WP) (n c : Nat) (sl : SeenW w A l) (hn : n = l.length) (hm : cl.length + l.length ≤ 10000) (ty : TypeId) :
    ∃ A' n' c' w', (Builtin.append_ #[34, 34] ty #[v, .slice A n c]).run Try.prog w = .ok (.slice A' n' c') w' ∧ n' = (cl ++ l).length ∧ w'.ownsRow W.heap.size 49 2 (.slice A' n' c') (cl ++ l).length (flatW (cl ++ l)) ∧ Ext W w' := by
  subst hn
  obtain ⟨i, hi, hz0, hsz, hby⟩ := info_parts pats_info
  have fin : ∀ (v' : Value) (w' : World), w'.ownsRow W.heap.size 49 2 v' (cl.length + l.length) (flatW cl ++ flatW l) → w.grownBy w' v.ownBlock →
      ∃ A' n' c', v' = .slice A' n' c' ∧ n' = (cl ++ l).length ∧ w'.ownsRow W.heap.size 49 2 (.slice A' n' c') (cl ++ l).length (flatW (cl ++ l)) ∧ Ext W w' := fun v' w' ho hg => by
    obtain ⟨A', c', rfl, _⟩ := own_seen ho
    rw [flatW_append, List.length_append]
    exact ⟨A', _, c', rfl, rfl, ho, Below.grown hx0 hg hx0.size (fun k hk => (hown.lt k hk).1)⟩
  rcases A with _ | ad
  · have hl : l = [] := by
      rcases l with _ | ⟨b, l⟩
      · rfl
      · obtain ⟨⟨_, e, _⟩, _⟩ := sl.get (k := 0) (by simp); cases e
    subst hl
    obtain ⟨A', n', c', e1, e2, h3⟩ := fin v w (by simpa [flatW] using hown) (World.grownBy.refl w _)
    refine ⟨A', n', c', w, ?_, e2, h3⟩
    rw [← e1]
    rcases hown.2 with ⟨rfl, _⟩ | ⟨g, cap, cur, rfl, _, _, hnc, _⟩
    · simp [Builtin.append_, run_underlying Try.underlying34, Go.sizeOf, typeInfo, hi, Builtin.lenOf, Builtin.firstCells]
    · simp [Builtin.append_, run_underlying Try.underlying34, Go.sizeOf, typeInfo, hi, Builtin.lenOf, Builtin.firstCells, hnc, storeCells]
  · obtain ⟨v', w', hr, ho, hg, _, _⟩ := run_append_own_at (P := Try.prog) w W.heap.size 34 ty 49 i (.agg #[.string ⟨#[]⟩, .slice none 0 0]) 2 40 Try.underlying34 hi hz0 hsz hby rfl (by omega) v cl.length (flatW cl) hown ad l.length c (flatW l) (flatW_length l)
      (fun j u hu => by
        obtain ⟨ad', e, hc⟩ := SeenW.flat' sl j u hu
        cases e
        exact hc) (flatW_one l) (by unfold maxLen; omega) (by omega) hx0.size
    obtain ⟨A', n', c', e1, e2, h3⟩ := fin v' w' ho hg
    subst e1
    exact ⟨A', n', c', w', hr, e2, h3⟩
/-- Tries of a list that is seen. -/
theorem new_list_yes {w : World} {A : Option Addr} {l : List WP} {n : Nat} (c : Nat) (hs : SeenW w A l) (hn : n = l.length) (ok : ∀ y ∈ l, y.Ok) (h3 : l.length ≤ 300) (hp : l.all (fun y => patB (tn y)) = true) :
    Calls Try.prog 16 #[.agg #[.slice A n c, .slice none 0 0]] w (NewQ w (l.map tn)) := by
  subst hn
  exact L11.new_yes ⟨l, []⟩ ⟨A, c, none, 0⟩ ok (fun y hy => by simp at hy) w ⟨hs, SeenW.nil⟩ (by show l.length ≤ _; omega) (by simp) (by rw [rd_list h3]; exact hp)
theorem new_list_no {w : World} {A : Option Addr} {l : List WP} {n : Nat} (c : Nat) (hs : SeenW w A l) (hn : n = l.length) (ok : ∀ y ∈ l, y.Ok) (h3 : l.length ≤ 300) (hp : l.all (fun y => patB (tn y)) = false) :
    Calls Try.prog 16 #[.agg #[.slice A n c, .slice none 0 0]] w (Ret w (.tuple #[.pointer none, .int .i64 100])) := by
  subst hn
  exact L11.new_no ⟨l, []⟩ ⟨A, c, none, 0⟩ ok (fun y hy => by simp at hy) w ⟨hs, SeenW.nil⟩ (by show l.length ≤ _; omega) (by simp) (by rw [rd_list h3]; exact hp)
theorem own_seenP {W w : World} {v : Value} {A : Option Addr} {n c : Nat} {cl : List WP} (hv : v = .slice A n c) (h : w.ownsRow W.heap.size 49 2 v cl.length (flatW cl)) (hs : ∀ y ∈ cl, SeenL w y.A y.ns) : SeenW w A cl := by
  obtain ⟨A', c', e, hs'⟩ := own_seenW h hs
  rw [hv] at e
  cases e
  exact hs'
theorem SeenW.nums {w : World} {A : Option Addr} {l : List WP} (h : SeenW w A l) : ∀ y ∈ l, SeenL w y.A y.ns := fun y hy => by
  obtain ⟨i, hi, rfl⟩ := List.getElem_of_mem hy
  exact (h i _ (List.getElem?_eq_getElem hi)).2
end L11
end Go.Proofs.Ytfdoohangemojaa

