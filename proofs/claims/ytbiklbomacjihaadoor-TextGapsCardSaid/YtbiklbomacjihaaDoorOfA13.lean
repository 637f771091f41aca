/- The document's words of bytes, layer 13: what `of` keeps. -/
import Derived.Test.YtbiklbomacjihaaDoorDocB13
import Derived.Test.YtbiklbomacjihaaDoorRoom12
import Derived.Test.YtbiklbomacjihaaDoorBut11
import Derived.Test.YtbiklbomacjihaaDoorResults
namespace Go.Proofs.YtbiklbomacjihaaDoor
open Go.RowKit
namespace L13

theorem seen_row13 {w : World} {base : Nat} {v : Value} {l : List Int} (h : w.ownsRow base 3 1 v l.length (l.map (.int .i64))) : ∃ A c, v = .slice A l.length c ∧ l.length ≤ c ∧ c ≤ maxLen ∧ SeenL w A l := by
  obtain ⟨A, c, rfl, hs⟩ := own_seen h
  obtain ⟨_, ⟨e1, h1⟩ | ⟨g, cap, cur, e1, _, _, hc, hm, _⟩⟩ := h
  · simp only [Value.slice.injEq] at e1
    exact ⟨A, c, rfl, by omega, by unfold maxLen; omega, hs⟩
  · simp only [Value.slice.injEq] at e1
    exact ⟨A, c, rfl, by omega, by omega, hs⟩
/-- One number more behind one of two lists. -/
theorem row_put {w : World} {base : Nat} {va vb : Value} {la lb : List Int} (ha : w.ownsRow base 3 1 va la.length (la.map (.int .i64))) (hb : w.ownsRow base 3 1 vb lb.length (lb.map (.int .i64))) (ne : ∀ g, va.ownBlock = some g → vb.ownBlock ≠ some g)
    (hw : base ≤ w.heap.size) (x : Int) (hm : la.length + 1 ≤ 1000000) (ty : TypeId) :
    ∃ v' w', (Builtin.append_ #[34, 34] ty #[va, .slice (some ⟨w.heap.size, 0, none⟩) 1 1]).run Tryd.prog (w.alloc (.cells #[.int .i64 x] 3)) = .ok v' w' ∧
      But (fun k => va.ownBlock = some k) (w.alloc (.cells #[.int .i64 x] 3)) w' ∧ w'.ownsRow base 3 1 v' (la ++ [x]).length ((la ++ [x]).map (.int .i64)) ∧ w'.ownsRow base 3 1 vb lb.length (lb.map (.int .i64)) ∧ ∀ g, v'.ownBlock = some g → vb.ownBlock ≠ some g := by
  obtain ⟨i, hi, hz0, hsz, hby⟩ := info_parts int_info12
  have xa : Ext w (w.alloc (.cells #[.int .i64 x] 3)) := (Ext.refl w).alloc _
  have ha := OwnsRow.ext ha xa
  have hb := OwnsRow.ext hb xa
  obtain ⟨v', w', hr, ho, hg, _, hat⟩ := run_append_own_at (P := Tryd.prog) (w.alloc (.cells #[.int .i64 x] 3)) base 34 ty 3 i (.int .i64 0) 1 8 Tryd.underlying34 hi hz0 hsz hby rfl (by omega) va la.length (la.map (.int .i64)) ha ⟨w.heap.size, 0, none⟩ 1 1 [.int .i64 x] rfl
    (fun j u hu => by
      cases j with
      | zero => simp at hu; subst hu; simp [Addr.add]
      | succ j => simp at hu) (by simp [Value.oneCell']) (by unfold maxLen; omega) (by omega) (Nat.le_trans hw xa.size)
  have BG : But (fun k => va.ownBlock = some k) (w.alloc (.cells #[.int .i64 x] 3)) w' := But.of_grown hg (fun g hg => hg)
  refine ⟨v', w', hr, BG, ?_, ⟨hb.1, ?_⟩, fun g e f => ?_⟩
  · rw [List.length_append, List.map_append]
    exact ho
  · rcases hb.2 with hn | ⟨g, cap, cur, rfl, hbb, hgg, rest⟩
    · exact .inl hn
    · exact .inr ⟨g, cap, cur, rfl, hbb, (BG.block g (Array.getElem?_eq_some_iff.1 hgg).1 (fun e => ne g e rfl)).trans hgg, rest⟩
  · rcases hat with h1 | h1
    · rw [h1] at e
      exact ne g e f
    · rw [h1] at e
      cases e
      have := (hb.lt _ f).2
      omega
/-- What `of` keeps: the result's box, the variable's, two lists of one's own in it. -/
structure Of (w wr : World) (va vb : Value) (cs ss : List Int) : Prop where
  x : Ext w wr
  b0 : Blk wr w.heap.size 36 [.slice none 0 0, .slice none 0 0]
  b1 : Blk wr (w.heap.size + 1) 36 [va, vb]
  a : wr.ownsRow (w.heap.size + 2) 3 1 va cs.length (cs.map (.int .i64))
  b : wr.ownsRow (w.heap.size + 2) 3 1 vb ss.length (ss.map (.int .i64))
  ne : ∀ g, va.ownBlock = some g → vb.ownBlock ≠ some g
  two : w.heap.size + 2 ≤ wr.heap.size
theorem Of.kept {w wr w' : World} {va vb : Value} {cs ss : List Int} (h : Of w wr va vb cs ss) (x : Ext wr w') : Of w w' va vb cs ss :=
  ⟨h.x.trans x, h.b0.ext x, h.b1.ext x, OwnsRow.ext h.a x, OwnsRow.ext h.b x, h.ne, Nat.le_trans h.two x.size⟩
theorem Of.start (w W : World) (hW : W = (w.alloc (.cells #[.slice none 0 0, .slice none 0 0] 36)).alloc (.cells #[.slice none 0 0, .slice none 0 0] 36)) : Of w W (.slice none 0 0) (.slice none 0 0) [] [] := by
  subst hW
  exact ⟨((Ext.refl w).alloc _).alloc _, (Blk.lit _ _ _ _ rfl).ext ((Ext.refl _).alloc _), Blk.lit _ _ _ _ (by simp), World.ownsRow_nil _ _ _ _, World.ownsRow_nil _ _ _ _, fun g e => (by cases e), by simp⟩
/-- One code more. -/
theorem Of.code {w wr : World} {va vb : Value} {cs ss : List Int} (h : Of w wr va vb cs ss) (x : Int) (hn : cs.length ≤ 900000) (ty : TypeId) :
    ∃ v' w', (Builtin.append_ #[34, 34] ty #[va, .slice (some ⟨wr.heap.size, 0, none⟩) 1 1]).run Tryd.prog (wr.alloc (.cells #[.int .i64 x] 3)) = .ok v' w' ∧
      Blk w' (w.heap.size + 1) 36 [va, vb] ∧ Of w (w'.setCell ⟨w.heap.size + 1, 0, none⟩ v') v' vb (cs ++ [x]) ss ∧ But (fun k => va.ownBlock = some k) (wr.alloc (.cells #[.int .i64 x] 3)) w' := by
  obtain ⟨v', w', hr, BG, ho, hb, hne⟩ := row_put h.a h.b h.ne h.two x (by omega) ty
  have h := h.kept ((Ext.refl wr).alloc (.cells #[.int .i64 x] 3))
  have ne0 : ¬ va.ownBlock = some w.heap.size := fun e => by have := (h.a.lt _ e).1; omega
  have ne1 : ¬ va.ownBlock = some (w.heap.size + 1) := fun e => by have := (h.a.lt _ e).1; omega
  exact ⟨v', w', hr, BG.blk h.b1 ne1, ⟨(BG.ext h.x (fun k e => by have := (h.a.lt k e).1; omega)).setCell (by show _ ≤ w.heap.size + 1; omega) _, (BG.blk h.b0 ne0).far (by show w.heap.size + 1 ≠ _; omega) _, (BG.blk h.b1 ne1).set 0 v',
    ownsRow_setCell_below ho (by show w.heap.size + 1 < _; omega) _, ownsRow_setCell_below hb (by show w.heap.size + 1 < _; omega) _, hne, by have := h.two; have := BG.size; simp only [World.setCell, Array.size_modify]; omega⟩, BG⟩
/-- One place more. -/
theorem Of.place {w wr : World} {va vb : Value} {cs ss : List Int} (h : Of w wr va vb cs ss) (x : Int) (hn : ss.length ≤ 900000) (ty : TypeId) :
    ∃ v' w', (Builtin.append_ #[34, 34] ty #[vb, .slice (some ⟨wr.heap.size, 0, none⟩) 1 1]).run Tryd.prog (wr.alloc (.cells #[.int .i64 x] 3)) = .ok v' w' ∧
      Blk w' (w.heap.size + 1) 36 [va, vb] ∧ Of w (w'.setCell ⟨w.heap.size + 1, 1, none⟩ v') va v' cs (ss ++ [x]) ∧ But (fun k => vb.ownBlock = some k) (wr.alloc (.cells #[.int .i64 x] 3)) w' := by
  obtain ⟨v', w', hr, BG, ho, hb, hne⟩ := row_put h.b h.a (fun g e f => h.ne g f e) h.two x (by omega) ty
  have h := h.kept ((Ext.refl wr).alloc (.cells #[.int .i64 x] 3))
  have ne0 : ¬ vb.ownBlock = some w.heap.size := fun e => by have := (h.b.lt _ e).1; omega
  have ne1 : ¬ vb.ownBlock = some (w.heap.size + 1) := fun e => by have := (h.b.lt _ e).1; omega
  exact ⟨v', w', hr, BG.blk h.b1 ne1, ⟨(BG.ext h.x (fun k e => by have := (h.b.lt k e).1; omega)).setCell (by show _ ≤ w.heap.size + 1; omega) _, (BG.blk h.b0 ne0).far (by show w.heap.size + 1 ≠ _; omega) _, (BG.blk h.b1 ne1).set 1 v',
    ownsRow_setCell_below hb (by show w.heap.size + 1 < _; omega) _, ownsRow_setCell_below ho (by show w.heap.size + 1 < _; omega) _, fun g e f => hne g f e, by have := h.two; have := BG.size; simp only [World.setCell, Array.size_modify]; omega⟩, BG⟩
/-- What `of` answers: a word of one's own. -/
def OfQ (w : World) (p : TW) (e : Ending) (w' : World) : Prop :=
  Ext w w' ∧ ∃ x : CW, e = .returned (.tuple #[cwV x, .bool (wordB p)]) ∧ tw x = p ∧ SeenL w' x.A x.cs ∧ SeenL w' x.B x.ss ∧ x.cs.length ≤ x.c ∧ x.c ≤ maxLen ∧ x.ss.length ≤ x.d ∧ x.d ≤ maxLen ∧ (∀ ad, x.A = some ad → w.heap.size ≤ ad.block ∧ ad.block < w'.heap.size) ∧ ∀ ad, x.B = some ad → w.heap.size ≤ ad.block ∧ ad.block < w'.heap.size
theorem Of.look {w wr : World} {va vb : Value} {cs ss : List Int} (h : Of w wr va vb cs ss) : ∃ A c B d, va = .slice A cs.length c ∧ vb = .slice B ss.length d ∧ cs.length ≤ c ∧ c ≤ maxLen ∧ ss.length ≤ d ∧ d ≤ maxLen ∧ SeenL wr A cs ∧ SeenL wr B ss := by
  obtain ⟨A, c, rfl, h1, h2, h3⟩ := seen_row13 h.a
  obtain ⟨B, d, rfl, h4, h5, h6⟩ := seen_row13 h.b
  exact ⟨A, c, B, d, rfl, rfl, h1, h2, h4, h5, h3, h6⟩
/-- The end: the variable is put into the result's box. -/
theorem Of.fin {w wr w2 : World} {cs ss : List Int} {A B : Option Addr} {c d : Nat} (h : Of w wr (.slice A cs.length c) (.slice B ss.length d) cs ss) (x : Ext wr w2) (p : TW) (hp : (cs, ss) = p) (W : World)
    (hW : W = (w2.setCell ⟨w.heap.size, 0, none⟩ (.slice A cs.length c)).setCell ⟨w.heap.size, 1, none⟩ (.slice B ss.length d)) :
    OfQ w p (.returned (.tuple #[.agg #[.slice A cs.length c, .slice B ss.length d], .bool (wordB p)])) W ∧ Blk W w.heap.size 36 [.slice A cs.length c, .slice B ss.length d] := by
  have hb := ((h.kept x).b0.set 0 (.slice A cs.length c)).set 1 (.slice B ss.length d)
  have hx := h.x
  have ra := ownsRow_setCell_below (ownsRow_setCell_below (h.kept x).a (a := ⟨w.heap.size, 0, none⟩) (by show w.heap.size < _; omega) (.slice A cs.length c)) (a := ⟨w.heap.size, 1, none⟩) (by show w.heap.size < _; omega) (.slice B ss.length d)
  have rb := ownsRow_setCell_below (ownsRow_setCell_below (h.kept x).b (a := ⟨w.heap.size, 0, none⟩) (by show w.heap.size < _; omega) (.slice A cs.length c)) (a := ⟨w.heap.size, 1, none⟩) (by show w.heap.size < _; omega) (.slice B ss.length d)
  rw [hW]
  obtain ⟨A1, c1, e1, k1, k2, k3⟩ := seen_row13 ra
  obtain ⟨B1, d1, e2, k4, k5, k6⟩ := seen_row13 rb
  cases e1
  cases e2
  refine ⟨⟨((hx.trans x).setCell (p := ⟨w.heap.size, 0, none⟩) (Nat.le_refl _) _).setCell (p := ⟨w.heap.size, 1, none⟩) (Nat.le_refl _) _, ⟨cs, A, c, ss, B, d⟩, rfl, hp, k3, k6, k1, k2, k4, k5, fun ad e => ?_, fun ad e => ?_⟩, hb⟩
  · have := ra.lt ad.block (by rw [show A = some ad from e]; rfl); exact ⟨by omega, by omega⟩
  · have := rb.lt ad.block (by rw [show B = some ad from e]; rfl); exact ⟨by omega, by omega⟩

/-- How far it is: so many bytes are read. -/
def OfR (l : List UInt8) (k : Nat) (cs ss : List Int) : Prop :=
  ofGo l 0 = (cs ++ (ofGo (l.drop k) cs.length).1, ss ++ (ofGo (l.drop k) cs.length).2) ∧ (∀ c ∈ cs, 0 ≤ c ∧ c ≤ 255) ∧ (∀ c ∈ ss, 0 ≤ c ∧ c ≤ k) ∧ cs.length ≤ k ∧ ss.length ≤ k
theorem OfR.start (l : List UInt8) : OfR l 0 [] [] := ⟨by simp, by simp, by simp, by simp, by simp⟩
theorem ofGo_soft {l : List UInt8} {k : Nat} (n : Nat) (h1 : k + 1 < l.length) (e1 : l[k] = 194) (e2 : l[k + 1] = 173) : ofGo (l.drop k) n = ((ofGo (l.drop (k + 2)) n).1, (n : Int) :: (ofGo (l.drop (k + 2)) n).2) := by
  rw [List.drop_eq_getElem_cons (show k < l.length by omega), List.drop_eq_getElem_cons h1, ofGo, if_pos ⟨e1, e2⟩]
theorem ofGo_code {l : List UInt8} {k : Nat} (n : Nat) (h : k < l.length) (hno : ∀ h1 : k + 1 < l.length, ¬ (l[k] = 194 ∧ l[k + 1] = 173)) : ofGo (l.drop k) n = ((l[k].toNat : Int) :: (ofGo (l.drop (k + 1)) (n + 1)).1, (ofGo (l.drop (k + 1)) (n + 1)).2) := by
  by_cases h1 : k + 1 < l.length
  · rw [List.drop_eq_getElem_cons h, List.drop_eq_getElem_cons h1, ofGo, if_neg (hno h1)]
  · rw [List.drop_eq_getElem_cons h, List.drop_eq_nil_of_le (show l.length ≤ k + 1 by omega)]
    rfl
theorem OfR.soft {l : List UInt8} {k : Nat} {cs ss : List Int} (h : OfR l k cs ss) (h1 : k + 1 < l.length) (e1 : l[k] = 194) (e2 : l[k + 1] = 173) : OfR l (k + 2) cs (ss ++ [(cs.length : Int)]) := by
  obtain ⟨q, q1, q2, q3, q4⟩ := h
  refine ⟨by rw [q, ofGo_soft _ h1 e1 e2]; simp, q1, fun c hc => ?_, by omega, by simp; omega⟩
  rcases List.mem_append.1 hc with hc | hc
  · have := q2 c hc; omega
  · obtain rfl : c = (cs.length : Int) := by simpa using hc
    omega
theorem OfR.code {l : List UInt8} {k : Nat} {cs ss : List Int} (h : OfR l k cs ss) (h1 : k < l.length) (hno : ∀ h1 : k + 1 < l.length, ¬ (l[k] = 194 ∧ l[k + 1] = 173)) : OfR l (k + 1) (cs ++ [(l[k].toNat : Int)]) ss := by
  obtain ⟨q, q1, q2, q3, q4⟩ := h
  refine ⟨by rw [q, ofGo_code _ h1 hno]; simp, fun c hc => ?_, fun c hc => by have := q2 c hc; omega, by simp; omega, by omega⟩
  rcases List.mem_append.1 hc with hc | hc
  · exact q1 c hc
  · obtain rfl : c = (l[k].toNat : Int) := by simpa using hc
    have := l[k].toNat_lt
    omega
theorem OfR.fin {l : List UInt8} {k : Nat} {cs ss : List Int} (h : OfR l k cs ss) (hk : k = l.length) : (cs, ss) = ofL l := by
  rw [ofL, h.1, hk, List.drop_length]
  simp [ofGo]
end L13
end Go.Proofs.YtbiklbomacjihaaDoor

