/- The document's Parse of layer 10. -/
import Derived.Test.YtijhabhnhglhgaaDoorDocI10
import Derived.Test.YtijhabhnhglhgaaDoorDocC10
import Derived.Test.YtijhabhnhglhgaaDoorAns10
namespace Go.Proofs.YtijhabhnhglhgaaDoor
open Go.RowKit
namespace L10

/-- What Parse keeps: the variable with its rows; all else is as it was behind the words. -/
structure Pa (w W1 wr : World) (g : Nat) (vl vm : Value) (l m : List WP) : Prop where
  pb : PB W1.heap.size g wr vl vm l m
  x : Ext w wr
  keep : ∀ b, b < W1.heap.size → b ≠ g → wr.heap[b]? = W1.heap[b]?
theorem Pa.kept {w W1 wr w' : World} {g : Nat} {vl vm : Value} {l m : List WP} (h : Pa w W1 wr g vl vm l m) (x : Ext wr w') : Pa w W1 w' g vl vm l m :=
  ⟨h.pb.ext x, h.x.trans x, fun b hb hg => by rw [x.block b (Nat.lt_of_lt_of_le hb h.pb.bw)]; exact h.keep b hb hg⟩
theorem Pa.blk {w W1 wr : World} {g : Nat} {vl vm : Value} {l m : List WP} (h : Pa w W1 wr g vl vm l m) {b : Nat} {t : TypeId} {cs : List Value} (k : Blk W1 b t cs) (hg : b ≠ g) : Blk wr b t cs := (h.keep b k.lt hg).trans k
theorem Pa.words {w W1 wr : World} {g : Nat} {vl vm : Value} {l m : List WP} (h : Pa w W1 wr g vl vm l m) {A : Option Addr} {ws : List (List UInt8)} (s : SeenS W1 A ws) (hg : ∀ ad, A = some ad → ad.block ≠ g) {k : Nat} (hk : k < ws.length) :
    ∃ ad, A = some ad ∧ wr.cell? (ad.add k) = some (.string ⟨ws[k].toArray⟩) := by
  obtain ⟨ad, e, hb, hc⟩ := s k (strV ws[k]) (by simp [hk])
  refine ⟨ad, e, ?_⟩
  have e1 := World.cell?_of_block (w := W1) (w' := wr) (a := ad.add k) (h.keep _ (by rw [addr_block]; exact hb) (by rw [addr_block]; exact hg ad e))
  rw [e1]
  exact hc
theorem Pa.putL {w W1 wr : World} {g : Nat} {vl vm : Value} {l m : List WP} (h : Pa w W1 wr g vl vm l m) (hw : w.heap.size ≤ g) (x : WP) (hx : Inn W1.heap.size wr vl vm x) (hn : l.length ≤ 10000) (ty : TypeId) :
    ∃ v' w', (Builtin.append_ #[24, 24] ty #[vl, .slice (some ⟨wr.heap.size, 0, none⟩) 1 1]).run Tryd.prog (wr.alloc (.cells #[.string x.s, .slice x.A x.ns.length x.c] 42)) = .ok v' w' ∧
      Blk w' g 27 [vl, vm] ∧ Pa w W1 (w'.setCell ⟨g, 0, none⟩ v') g v' vm (l ++ [x]) m := by
  have xa := (Ext.refl wr).alloc (.cells #[.string x.s, .slice x.A x.ns.length x.c] 42)
  have h := h.kept xa
  have kN : Blk (wr.alloc (.cells #[.string x.s, .slice x.A x.ns.length x.c] 42)) wr.heap.size 42 [.string x.s, .slice x.A x.ns.length x.c] := Blk.lit _ _ _ _ rfl
  obtain ⟨v', w', hr, hg, hat, hp⟩ := h.pb.putL x ⟨wr.heap.size, 0, none⟩ (kN.cell 0) (kN.cell 1) (hx.ext xa) hn ty
  have K := Kp.of_grown hg
  have ne : ∀ b, b < W1.heap.size → some b ≠ vl.ownBlock := fun b hb e => by have := (h.pb.rl.lt _ e.symm).1; omega
  refine ⟨v', w', hr, K.blk h.pb.box (ne g h.pb.gB), hp, (Below.grown h.x hg h.x.size (fun k e => by have := (h.pb.rl.lt k e).1; have := h.pb.gB; omega)).setCell (by show _ ≤ g; omega) _, fun b hb hbg => ?_⟩
  rw [(Kp.set w' ⟨g, 0, none⟩ v').same b (Nat.lt_of_lt_of_le (Nat.lt_of_lt_of_le hb h.pb.bw) K.size) (by simpa using hbg), K.same b (Nat.lt_of_lt_of_le hb h.pb.bw) (ne b hb)]
  exact h.keep b hb hbg
theorem Pa.putM {w W1 wr : World} {g : Nat} {vl vm : Value} {l m : List WP} (h : Pa w W1 wr g vl vm l m) (hw : w.heap.size ≤ g) (x : WP) (hx : Inn W1.heap.size wr vl vm x) (hn : m.length ≤ 10000) (ty : TypeId) :
    ∃ v' w', (Builtin.append_ #[25, 25] ty #[vm, .slice (some ⟨wr.heap.size, 0, none⟩) 1 1]).run Tryd.prog (wr.alloc (.cells #[.string x.s, .slice x.A x.ns.length x.c] 45)) = .ok v' w' ∧
      Blk w' g 27 [vl, vm] ∧ Pa w W1 (w'.setCell ⟨g, 1, none⟩ v') g vl v' l (m ++ [x]) := by
  have xa := (Ext.refl wr).alloc (.cells #[.string x.s, .slice x.A x.ns.length x.c] 45)
  have h := h.kept xa
  have kN : Blk (wr.alloc (.cells #[.string x.s, .slice x.A x.ns.length x.c] 45)) wr.heap.size 45 [.string x.s, .slice x.A x.ns.length x.c] := Blk.lit _ _ _ _ rfl
  obtain ⟨v', w', hr, hg, hat, hp⟩ := h.pb.putM x ⟨wr.heap.size, 0, none⟩ (kN.cell 0) (kN.cell 1) (hx.ext xa) hn ty
  have K := Kp.of_grown hg
  have ne : ∀ b, b < W1.heap.size → some b ≠ vm.ownBlock := fun b hb e => by have := (h.pb.rm.lt _ e.symm).1; omega
  refine ⟨v', w', hr, K.blk h.pb.box (ne g h.pb.gB), hp, (Below.grown h.x hg h.x.size (fun k e => by have := (h.pb.rm.lt k e).1; have := h.pb.gB; omega)).setCell (by show _ ≤ g; omega) _, fun b hb hbg => ?_⟩
  rw [(Kp.set w' ⟨g, 1, none⟩ v').same b (Nat.lt_of_lt_of_le (Nat.lt_of_lt_of_le hb h.pb.bw) K.size) (by simpa using hbg), K.same b (Nat.lt_of_lt_of_le hb h.pb.bw) (ne b hb)]
  exact h.keep b hb hbg
/-- What a call answers lies apart from the rows. -/
theorem Pa.inn {w W1 wr w1 : World} {g : Nat} {vl vm : Value} {l m : List WP} (h : Pa w W1 wr g vl vm l m) (x : WP) (s : SeenL w1 x.A x.ns) (h1 : x.ns.length ≤ x.c) (h2 : x.c ≤ maxLen) (hat : ∀ ad, x.A = some ad → wr.heap.size ≤ ad.block ∧ ad.block < w1.heap.size) : Inn W1.heap.size w1 vl vm x :=
  ⟨h1, h2, s, fun ad e => by
    obtain ⟨a, b⟩ := hat ad e
    have := h.pb.bw
    exact ⟨by omega, b, fun e2 => by have := (h.pb.rl.lt _ e2).2; omega, fun e2 => by have := (h.pb.rm.lt _ e2).2; omega⟩⟩
/-- How far Parse is. -/
def PsR (ws : List (List UInt8)) (k : Nat) (l m : List WP) : Prop := parseS ([], []) ws = parseS (l.map tn, m.map tn) (ws.drop k) ∧ (l.map tn).all patB = true ∧ (m.map tn).all excB = true
theorem PsR.start (ws : List (List UInt8)) : PsR ws 0 [] [] := ⟨rfl, rfl, rfl⟩
theorem PsR.pat {ws : List (List UInt8)} {k : Nat} {l m : List WP} (h : PsR ws k l m) (hk : k < ws.length) {x : WP} (ha : asPat ws[k] = some (tn x)) : PsR ws (k + 1) (l ++ [x]) m := by
  have e : addW (l.map tn, m.map tn) ws[k] = some ((l ++ [x]).map tn, m.map tn) := by rw [addW, ha]; simp
  refine ⟨?_, by rw [List.map_append, List.all_append, h.2.1]; simp [(word_asPat ha).2], h.2.2⟩
  rw [h.1, List.drop_eq_getElem_cons hk, parseS, e]
theorem PsR.exc {ws : List (List UInt8)} {k : Nat} {l m : List WP} (h : PsR ws k l m) (hk : k < ws.length) {x : WP} (hp : asPat ws[k] = none) (ha : asExc ws[k] = some (tn x)) : PsR ws (k + 1) l (m ++ [x]) := by
  have e : addW (l.map tn, m.map tn) ws[k] = some (l.map tn, (m ++ [x]).map tn) := by rw [addW, hp, ha]; simp
  refine ⟨?_, h.2.1, by rw [List.map_append, List.all_append, h.2.2]; simp [(part_asExc ha).2]⟩
  rw [h.1, List.drop_eq_getElem_cons hk, parseS, e]
theorem PsR.no {ws : List (List UInt8)} {k : Nat} {l m : List WP} (h : PsR ws k l m) (hk : k < ws.length) (hp : asPat ws[k] = none) (ha : asExc ws[k] = none) : parseS ([], []) ws = none := by
  have e : addW (l.map tn, m.map tn) ws[k] = none := by rw [addW, hp, ha]
  rw [h.1, List.drop_eq_getElem_cons hk, parseS, e]
theorem PsR.fin {t : List UInt8} {k : Nat} {l m : List WP} (h : PsR (wordsL t) k l m) (hk : k = (wordsL t).length) (hc : l.length + m.length = k) : parseV t = if patsB (rd ⟨l, m⟩) = true then some (l.map tn, m.map tn) else none := by
  have e : parseS ([], []) (wordsL t) = some (l.map tn, m.map tn) := by
    rw [h.1, List.drop_of_length_le (by omega)]; rfl
  have hb : patsB (rd ⟨l, m⟩) = decide ((wordsL t).length ≤ 300) := by
    show (decide ((l.map tn).length + (m.map tn).length ≤ 300) && ((l.map tn).all patB && (m.map tn).all excB)) = _
    rw [h.2.1, h.2.2, List.length_map, List.length_map, hc, hk]
    simp
  rw [parseV, hb, e]
  by_cases h3 : (wordsL t).length ≤ 300
  · rw [if_pos h3, decide_eq_true h3]; rfl
  · rw [if_neg h3, decide_eq_false h3]; rfl
theorem parseV_none {t : List UInt8} (h : parseS ([], []) (wordsL t) = none) : parseV t = none := by
  rw [parseV, h]; simp
end L10
end Go.Proofs.YtijhabhnhglhgaaDoor

