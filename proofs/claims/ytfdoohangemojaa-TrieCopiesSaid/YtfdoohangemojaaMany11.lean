/- Several tries beside each other; lists of patterns of one's own; a pattern as an argument. -/
import Derived.Test.YtfdoohangemojaaAwake11
namespace Go.Proofs.Ytfdoohangemojaa
open Go.ChangeShapes Go.WideShapes Go.ChangeAt Go.RowKit
open Go.Lib hiding intOf
namespace L11
open L10 (TN plainB patB tn rd patsB)

set_option maxRecDepth 100000 in
/-- A pattern by value. -/
theorem arg_pat {H : Type} {enc : TypeId × Value → H} {W : World} {base : Nat} {v : Value} {d : DataW H} {p : List MemPlace}
    (hv : Value.okWide Try.prog W .any base 49 v) (h : DataW.Trod enc Try.prog W 0 (fun _ => true) true 49 v d p) :
    ∃ x : WP, v = wpV x ∧ x.Ok ∧ SeenL W x.A x.ns := by
  obtain ⟨cs, rfl, hsz, hf⟩ := arg_fields Try.underlying49 (by kernel_rfl) (by kernel_rfl) hv h
  obtain ⟨u0, n0, y0, c0, t0⟩ := hf 0 _ rfl
  obtain ⟨u1, n1, y1, c1, t1⟩ := hf 1 _ rfl
  obtain rfl := two_cells hsz c0 c1
  obtain ⟨s, e0, _, hsz'⟩ := DataW.trod_string Try.underlying9 t0
  simp only [List.cons.injEq, and_true] at e0
  obtain ⟨A', l', c', e1, g1, g2, g3, g4⟩ := field_intsL Try.underlying25 Try.underlying3 (by kernel_rfl) t1
  exact ⟨⟨s, l', A', c'⟩, by rw [e0, e1]; rfl, ⟨g1, g2, hsz', g3⟩, g4⟩

/-- Two tries that share nothing. -/
def Apart (B : Nat) (F : Nat → Prop) (B' : Nat) (F' : Nat → Prop) : Prop := B ≠ B' ∧ ¬ F B' ∧ ¬ F' B
theorem Apart.symm {B B' : Nat} {F F' : Nat → Prop} (h : Apart B F B' F') : Apart B' F' B F := ⟨h.1.symm, h.2.2, h.2.1⟩
theorem TrieAt.beside {w w' : World} {B B' : Nat} {F F' : Nat → Prop} {p : List TN} (h : TrieAt w B F p) (x : But (Only B') w w') (a : Apart B F B' F') : TrieAt w' B F p :=
  h.keepB x a.1 (fun k hk e => a.2.1 (by rw [← show k = B' from e]; exact hk))
/-- The one that is asked stays apart from the other one. -/
theorem Apart.asked {w w' : World} {B B' : Nat} {F F' G : Nat → Prop} {p : List TN} (a : Apart B F B' F') (T : TrieAt w B' F' p) (hG : ∀ k, G k → F k ∨ (w.heap.size ≤ k ∧ k < w'.heap.size)) : Apart B G B' F' :=
  ⟨a.1, fun h => (hG _ h).elim a.2.1 (fun h => by have := T.lt; omega), a.2.2⟩
/-- A new one is apart from those that are there. -/
theorem Apart.new {w : World} {B B' : Nat} {F F' : Nat → Prop} {p : List TN} (T : TrieAt w B F p) (hB : w.heap.size ≤ B') (hF : ∀ k, F' k → w.heap.size ≤ k) : Apart B F B' F' :=
  ⟨by have := T.lt; omega, fun h => by have := T.low _ h; omega, fun h => by have := hF _ h; have := T.lt; omega⟩
/-- Numbers that are seen stay, while a trie is asked that is not where they are. -/
theorem seenL_but {S : Nat → Prop} {w w' : World} {A : Option Addr} {vs : List Int} (h : SeenL w A vs) (x : But S w w') (hA : ∀ ad, A = some ad → ¬ S ad.block) : SeenL w' A vs := seenL_keep h x (fun _ => hA)

/-- One's own patterns, in a variable. -/
structure QAt (Q : Nat) (w wr : World) (vl : Value) (cl : List WP) : Prop where
  x : Ext w wr
  box : Blk wr Q 37 [vl, .slice none 0 0]
  bQ : w.heap.size ≤ Q
  row : wr.ownsRow (Q + 1) 49 2 vl cl.length (flatW cl)
  inn : ∀ y ∈ cl, SeenL w y.A y.ns
theorem QAt.bw {Q : Nat} {w wr : World} {vl : Value} {cl : List WP} (h : QAt Q w wr vl cl) : Q + 1 ≤ wr.heap.size := h.box.lt
theorem QAt.ext {Q : Nat} {w wr w' : World} {vl : Value} {cl : List WP} (h : QAt Q w wr vl cl) (x : Ext wr w') : QAt Q w w' vl cl := ⟨h.x.trans x, h.box.ext x, h.bQ, OwnsRow.ext h.row x, h.inn⟩
theorem row_but {S : Nat → Prop} {w w' : World} {base : Nat} {e : TypeId} {size n : Nat} {v : Value} {xs : List Value} (k : But S w w') (h : w.ownsRow base e size v n xs) (hne : ∀ g, v.ownBlock = some g → ¬ S g) : w'.ownsRow base e size v n xs := by
  refine ⟨h.1, ?_⟩
  rcases h.2 with hn | ⟨g, cap, cur, rfl, hb, hgg, rest⟩
  · exact .inl hn
  · exact .inr ⟨g, cap, cur, rfl, hb, (k.block g (Array.getElem?_eq_some_iff.1 hgg).1 (hne g rfl)).trans hgg, rest⟩
/-- While what lies elsewhere turns. -/
theorem QAt.keepB {S : Nat → Prop} {Q : Nat} {w wr w' : World} {vl : Value} {cl : List WP} (h : QAt Q w wr vl cl) (x : But S wr w') (hS : ∀ k, S k → w.heap.size ≤ k ∧ k ≠ Q ∧ vl.ownBlock ≠ some k) : QAt Q w w' vl cl :=
  ⟨x.ext h.x (fun k hk => (hS k hk).1), x.blk h.box (fun hk => (hS _ hk).2.1 rfl), h.bQ, row_but x h.row (fun g e hk => (hS g hk).2.2 e), h.inn⟩
/-- Seen from an elder world. -/
theorem QAt.base {Q : Nat} {w v wr : World} {vl : Value} {cl : List WP} (h : QAt Q v wr vl cl) (x : Ext w v) (hi : ∀ y ∈ cl, SeenL w y.A y.ns) : QAt Q w wr vl cl := ⟨x.trans h.x, h.box, Nat.le_trans x.size h.bQ, h.row, hi⟩
theorem SeenW.flat' {w : World} {A : Option Addr} : ∀ {l : List WP}, SeenW w A l → ∀ (j : Nat) (u : Value), (flatW l)[j]? = some u → ∃ ad, A = some ad ∧ w.cell? (ad.add j) = some u := by
  intro l h j u hu
  have hj := (List.getElem?_eq_some_iff.1 hu).1
  rw [flatW_length] at hj
  have hk : j / 2 < l.length := by omega
  obtain ⟨⟨ad, e, _, h0, h1⟩, _⟩ := h (j / 2) l[j / 2] (List.getElem?_eq_getElem hk)
  obtain ⟨f0, f1⟩ := flatW_get l (j / 2) l[j / 2] (List.getElem?_eq_getElem hk)
  refine ⟨ad, e, ?_⟩
  rcases Nat.mod_two_eq_zero_or_one j with hm | hm
  · have e1 : j / 2 * 2 = j := by omega
    rw [e1] at f0 h0
    rw [hu] at f0
    cases f0
    exact h0
  · have e1 : j / 2 * 2 + 1 = j := by omega
    rw [e1] at f1 h1
    rw [hu] at f1
    cases f1
    exact h1
theorem pats_info : (Try.prog.info? 49).map (fun i => (i.zero, i.size, i.bytes)) = some (some (.agg #[.string ⟨#[]⟩, .slice none 0 0]), 2, 40) := pat_info
/-- More patterns. -/
theorem QAt.puts {Q : Nat} {w wr : World} {vl : Value} {cl : List WP} (h : QAt Q w wr vl cl) (A : Option Addr) (l : List WP) (n c : Nat) (sl : SeenW wr A l) (hnl : n = l.length) (si : ∀ y ∈ l, SeenL w y.A y.ns) (hn : cl.length + l.length ≤ 10000) (ty : TypeId) :
    ∃ A' n' c' w', (Builtin.append_ #[34, 34] ty #[vl, .slice A n c]).run Try.prog wr = .ok (.slice A' n' c') w' ∧ n' = cl.length + l.length ∧ QAt Q w (w'.setCell ⟨Q, 0, none⟩ (.slice A' n' c')) (.slice A' n' c') (cl ++ l) ∧
      w'.cell? ⟨Q, 0, none⟩ = some vl ∧ w'.frozen? ⟨Q, 0, none⟩ = false ∧ But (fun k => vl.ownBlock = some k) wr w' ∧ But (fun k => k = Q ∨ vl.ownBlock = some k) wr (w'.setCell ⟨Q, 0, none⟩ (.slice A' n' c')) := by
  subst hnl
  obtain ⟨i, hi, hz0, hsz, hby⟩ := info_parts pats_info
  have fin : ∀ (v' : Value) (w' : World), w'.ownsRow (Q + 1) 49 2 v' (cl.length + l.length) (flatW cl ++ flatW l) → wr.grownBy w' vl.ownBlock →
      ∃ A' n' c', v' = .slice A' n' c' ∧ n' = cl.length + l.length ∧ QAt Q w (w'.setCell ⟨Q, 0, none⟩ (.slice A' n' c')) (.slice A' n' c') (cl ++ l) ∧
      w'.cell? ⟨Q, 0, none⟩ = some vl ∧ w'.frozen? ⟨Q, 0, none⟩ = false ∧ But (fun k => vl.ownBlock = some k) wr w' ∧ But (fun k => k = Q ∨ vl.ownBlock = some k) wr (w'.setCell ⟨Q, 0, none⟩ (.slice A' n' c')) := fun v' w' ho hg => by
    obtain ⟨A', c', rfl, _⟩ := own_seen ho
    have BG : But (fun k => vl.ownBlock = some k) wr w' := But.of_grown hg (fun g hg => hg)
    have oQ : vl.ownBlock ≠ some Q := fun e => by have := (h.row.lt _ e).1; omega
    have kb := BG.blk h.box oQ
    have BS : But (Only Q) w' (w'.setCell ⟨Q, 0, none⟩ (.slice A' (cl.length + l.length) c')) := But.set (S := Only Q) w' ⟨Q, 0, none⟩ _ rfl
    have BA : But (fun k => k = Q ∨ vl.ownBlock = some k) wr (w'.setCell ⟨Q, 0, none⟩ (.slice A' (cl.length + l.length) c')) := (BG.mono (T := fun k => k = Q ∨ vl.ownBlock = some k) (fun _ _ h => .inr h)).trans BS (fun i hi => .inl (.inl hi))
    have hb := h.bQ
    refine ⟨A', _, c', rfl, rfl, ⟨BA.ext h.x (fun k hk => hk.elim (fun e => by omega) (fun e => by have := (h.row.lt _ e).1; omega)), kb.set 0 _, h.bQ, ?_, fun y hy => ?_⟩, kb.cell 0, kb.free 0, BG, BA⟩
    · rw [flatW_append, List.length_append]
      exact ownsRow_setCell_below ho (by show Q < Q + 1; omega) _
    · exact (List.mem_append.1 hy).elim (h.inn y) (si y)
  rcases A with _ | ad
  · have hl : l = [] := by
      rcases l with _ | ⟨b, l⟩
      · rfl
      · obtain ⟨⟨_, e, _⟩, _⟩ := sl.get (k := 0) (by simp); cases e
    subst hl
    obtain ⟨A', n', c', e1, e2, h3⟩ := fin vl wr (by simpa [flatW] using h.row) (World.grownBy.refl wr _)
    refine ⟨A', n', c', wr, ?_, e2, h3⟩
    rw [← e1]
    rcases h.row.2 with ⟨rfl, _⟩ | ⟨g, cap, cur, rfl, _, _, hnc, _⟩
    · simp [Builtin.append_, run_underlying Try.underlying34, Go.sizeOf, typeInfo, hi, Builtin.lenOf, Builtin.firstCells]
    · simp [Builtin.append_, run_underlying Try.underlying34, Go.sizeOf, typeInfo, hi, Builtin.lenOf, Builtin.firstCells, hnc, storeCells]
  · obtain ⟨v', w', hr, ho, hg, _, _⟩ := run_append_own_at (P := Try.prog) wr (Q + 1) 34 ty 49 i (.agg #[.string ⟨#[]⟩, .slice none 0 0]) 2 40 Try.underlying34 hi hz0 hsz hby rfl (by omega) vl cl.length (flatW cl) h.row ad l.length c (flatW l) (flatW_length l)
      (fun j u hu => by
        obtain ⟨ad', e, hc⟩ := SeenW.flat' sl j u hu
        cases e
        exact hc) (flatW_one l) (by unfold maxLen; omega) (by omega) h.bw
    obtain ⟨A', n', c', e1, e2, h3⟩ := fin v' w' ho hg
    subst e1
    exact ⟨A', n', c', w', hr, e2, h3⟩
/-- It is seen. -/
theorem QAt.seen {Q : Nat} {w wr : World} {vl : Value} {cl : List WP} (h : QAt Q w wr vl cl) : ∃ A c, vl = .slice A cl.length c ∧ SeenPats wr ⟨cl, []⟩ ⟨A, c, none, 0⟩ := by
  obtain ⟨A, c, e, hs⟩ := own_seenW h.row (fun y hy => (h.inn y hy).ext h.x)
  exact ⟨A, c, e, ⟨hs, SeenW.nil⟩⟩
theorem rd_list {cl : List WP} (h : cl.length ≤ 300) : patsB (rd ⟨cl, []⟩) = cl.all (fun y => patB (tn y)) := by
  rw [L10.patsB_rd]
  simp [h]
/-- Its trie. -/
theorem QAt.new_yes {Q : Nat} {w wr : World} {vl : Value} {cl : List WP} (h : QAt Q w wr vl cl) (ok : ∀ y ∈ cl, y.Ok) (hn : cl.length ≤ 300) (hp : cl.all (fun y => patB (tn y)) = true) :
    Calls Try.prog 16 #[.agg #[vl, .slice none 0 0]] wr (NewQ wr (cl.map tn)) := by
  obtain ⟨A, c, rfl, hs⟩ := h.seen
  exact L11.new_yes ⟨cl, []⟩ ⟨A, c, none, 0⟩ ok (fun y hy => by simp at hy) wr hs (by show cl.length ≤ _; omega) (by simp) (by rw [rd_list hn]; exact hp)
theorem QAt.new_no {Q : Nat} {w wr : World} {vl : Value} {cl : List WP} (h : QAt Q w wr vl cl) (ok : ∀ y ∈ cl, y.Ok) (hn : cl.length ≤ 300) (hp : cl.all (fun y => patB (tn y)) = false) :
    Calls Try.prog 16 #[.agg #[vl, .slice none 0 0]] wr (Ret wr (.tuple #[.pointer none, .int .i64 100])) := by
  obtain ⟨A, c, rfl, hs⟩ := h.seen
  exact L11.new_no ⟨cl, []⟩ ⟨A, c, none, 0⟩ ok (fun y hy => by simp at hy) wr hs (by show cl.length ≤ _; omega) (by simp) (by rw [rd_list hn]; exact hp)
end L11
end Go.Proofs.Ytfdoohangemojaa

