/- Taking a layout's lines from a text: the plain functions, and what the landed one holds in memory. -/
import Derived.Test.YteflkagilhmeiaaDoorChk14
import Derived.Test.YteflkagilhmeiaaDoorDec14
import Derived.Test.YteflkagilhmeiaaDoorChg
import Derived.Lib.SplitLaws
import Derived.Lib.Split
namespace Go.Proofs.YteflkagilhmeiaaDoor
open Go.RowKit
namespace L14
open L11

/-- A line's number is put where it belongs. -/
def putL (L : LayD) (j t i : Nat) (x : Int) : LayD := if j = 2 then { L with sh := fun q => if q = t then (if i = 0 then (x, (L.sh q).2) else ((L.sh q).1, x)) else L.sh q } else { L with v := fun q => if q = baseK j + i then x else L.v q }
/-- So are a line's numbers, from place i on. -/
def putAll (L : LayD) (j t i : Nat) : List (List UInt8) → Option LayD
  | [] => some L
  | d :: r => match decB d with
    | none => none
    | some x => putAll (putL L j t i x) j t (i + 1) r
/-- How many lines of a kind there may be. -/
def mostK (j : Nat) : Nat := if j = 2 then 40 else 1
def wordsOf (l : List UInt8) : List (List UInt8) := (Lib.splitK [32] 0 (Lib.countByte l 32) l).drop 1
/-- One line. -/
def stepT (L : LayD) (tk : Nat → Nat) (l : List UInt8) : Option (LayD × (Nat → Nat)) := match nameJ ⟨(Lib.cut l [32]).1.toArray⟩ with
  | none => none
  | some j => if tk j = mostK j then none else if Lib.countByte l 32 = cntK j then
      match putAll L j (tk j) 0 (wordsOf l) with
      | none => none
      | some L' => some (L', fun q => if q = j then tk j + 1 else tk q)
    else none
/-- All lines of a text, in so many steps at most. -/
def takeT : Nat → LayD → (Nat → Nat) → List UInt8 → Option (LayD × (Nat → Nat))
  | 0, _, _, _ => none
  | f + 1, L, tk, l => if l = [] then some (L, tk) else if (Lib.cut l [10]).2.2 = true then
      match stepT L tk (Lib.cut l [10]).1 with
      | none => none
      | some (L', tk') => takeT f L' tk' (Lib.cut l [10]).2.1
    else none
def L0 : LayD := ⟨fun _ => 0, 40, fun _ => (0, 0)⟩

theorem putL_n (L : LayD) (j t i : Nat) (x : Int) : (putL L j t i x).n = L.n := by unfold putL; split <;> rfl
theorem cut_len {l : List UInt8} {c : UInt8} (h : (Lib.cut l [c]).2.2 = true) : (Lib.cut l [c]).2.1.length < l.length ∧ (Lib.cut l [c]).1.length ≤ l.length := by
  unfold Lib.cut at h ⊢
  split at h
  · rename_i hi
    rw [if_pos hi]
    have hne : l ≠ [] := by rintro rfl; rw [Lib.index_one] at hi; simp [Lib.indexByte] at hi
    have : 0 < l.length := List.length_pos_iff.2 hne
    simp only [List.length_drop, List.length_take, List.length_cons, List.length_nil]
    omega
  · cases h
theorem cut_first (l : List UInt8) (c : UInt8) : (Lib.cut l [c]).1.length ≤ l.length := by
  unfold Lib.cut
  split
  · simp only [List.length_take]; omega
  · exact Nat.le_refl _

/-- How many lines of each kind were taken. -/
def TookAt (W : World) (b n : Nat) (tk : Nat → Nat) : Prop := ∃ m, MapG Tryd.prog 9 (plainElem Tryd.prog 3) W b n m ∧ ∀ j, j < 10 → (m (.string (nameB j))).getD (.lit (.int .i64 0)) = .lit (.int .i64 (tk j))
theorem TookAt.ext {W W' : World} {b n : Nat} {tk : Nat → Nat} (h : TookAt W b n tk) (x : Ext W W') : TookAt W' b n tk := by
  obtain ⟨m, h1, h2⟩ := h
  exact ⟨m, h1.block (x.block b h1.lt), h2⟩
theorem TookAt.set {W : World} {b n : Nat} {tk : Nat → Nat} (h : TookAt W b n tk) {p : Addr} (hp : p.block ≠ b) (u : Value) : TookAt (W.setCell p u) b n tk := by
  obtain ⟨m, h1, h2⟩ := h
  refine ⟨m, h1.block ?_, h2⟩
  show (W.heap.modify p.block _)[b]? = _
  rw [Array.getElem?_modify, if_neg hp]
theorem zero_int (w : World) : (zeroValue 3).run Tryd.prog w = .ok (.int .i64 0) w := by kernel_rfl
theorem tk_wf {n : Nat} (h : n ≤ 1000000) : (Lit.int .i64 (n : Int)).wf = true := by
  simp only [Lit.wf, IntKind.min, IntKind.max, IntKind.signed, IntKind.bits, Bool.and_eq_true, decide_eq_true_eq, if_true]; omega
theorem TookAt.look {W : World} {b n : Nat} {tk : Nat → Nat} (h : TookAt W b n tk) {j : Nat} (hj : j < 10) :
    (Instr.lookup 65 (.map (some b)) (.string (nameB j)) false).run Tryd.prog W = .ok (.int .i64 (tk j)) W := by
  obtain ⟨m, h1, h2⟩ := h
  obtain ⟨v, ps, hr, hv⟩ := h1.look1 skeyed Tryd.underlying65 (zero_int W) (plainElem_int (P := Tryd.prog) (e := 3) Tryd.underlying3 (a := 0) (by decide)) (WideMaps.keyOf_string_mk Tryd.underlying9 (nameB_size j))
  rw [h2 j hj] at hv
  obtain ⟨a, rfl, he, _⟩ := plainElem_int_inv Tryd.underlying3 hv
  simp only [Prod.mk.injEq, DataW.lit.injEq, Lit.int.injEq, true_and] at he
  rw [hr, ← he.1]
theorem TookAt.store {W : World} {b n : Nat} {tk : Nat → Nat} (h : TookAt W b n tk) {j : Nat} (hj : j < 10) (hn : n ≤ 1000000) {k : Nat} (hk : k ≤ 1000000) :
    ∃ W', (Instr.mapUpdate 65 (.map (some b)) (.string (nameB j)) (.int .i64 (k : Int))).run Tryd.prog W = .ok () W' ∧ TookAt W' b (n + 1) (fun q => if q = j then k else tk q) ∧ W.grownBy W' (some b) := by
  obtain ⟨m, h1, h2⟩ := h
  obtain ⟨W', hr, hm, hg, _⟩ := store_sized h1 skeyed Tryd.underlying65 (Nat.lt_of_le_of_lt hn (by decide)) (WideMaps.keyOf_string_mk Tryd.underlying9 (nameB_size j)) (plainElem_int (P := Tryd.prog) (e := 3) Tryd.underlying3 (tk_wf hk))
  refine ⟨W', hr, ⟨_, hm, fun q hq => ?_⟩, hg⟩
  by_cases e : q = j
  · subst e; simp
  · have hne : ¬ Value.string (nameB q) = Value.string (nameB j) := fun h => by
      injection h with h
      have := congrArg nameJ h
      rw [nameJ_B q hq, nameJ_B j hj] at this
      exact e (Option.some.inj this)
    simp only [hne, e, if_false]
    exact h2 q hq
theorem TookAt.made (W : World) : TookAt (W.alloc (.map #[] 0)) W.heap.size 0 (fun _ => 0) := ⟨_, MapG.made W, fun _ _ => rfl⟩
theorem TookAt.lt {W : World} {b n : Nat} {tk : Nat → Nat} (h : TookAt W b n tk) : b < W.heap.size := by obtain ⟨m, h1, _⟩ := h; exact h1.lt

/-- What is held between the lines. -/
structure Tk (w W : World) (b4 bs km tm : Nat) (L : LayD) (tk : Nat → Nat) (n : Nat) : Prop where
  old : Ext w W
  box : Blk W b4 24 (layC L (some ⟨bs, 0, none⟩) 40)
  row : RowP W bs 40 L.sh
  kinds : KindsAt W km
  took : TookAt W tm n tk
  l40 : L.n = 40
  wide : (∀ k, Wide (L.v k)) ∧ ∀ k, Wide (L.sh k).1 ∧ Wide (L.sh k).2
  few : ∀ j, j < 10 → tk j ≤ mostK j
theorem Tk.ext {w W W' : World} {b4 bs km tm : Nat} {L : LayD} {tk : Nat → Nat} {n : Nat} (h : Tk w W b4 bs km tm L tk n) (x : Ext W W') : Tk w W' b4 bs km tm L tk n :=
  ⟨h.old.trans x, h.box.ext x, h.row.ext x, h.kinds.ext x, h.took.ext x, h.l40, h.wide, h.few⟩
theorem lay_at (L : LayD) (A : Option Addr) (c : Nat) {k : Nat} (hk : k < 21) (h4 : k ≠ 4) : (layC L A c)[k]? = some (.int .i64 (L.v k)) := by
  have hk' : k = 0 ∨ k = 1 ∨ k = 2 ∨ k = 3 ∨ k = 4 ∨ k = 5 ∨ k = 6 ∨ k = 7 ∨ k = 8 ∨ k = 9 ∨ k = 10 ∨ k = 11 ∨ k = 12 ∨ k = 13 ∨ k = 14 ∨ k = 15 ∨ k = 16 ∨ k = 17 ∨ k = 18 ∨ k = 19 ∨ k = 20 := by omega
  rcases hk' with rfl | rfl | rfl | rfl | rfl | rfl | rfl | rfl | rfl | rfl | rfl | rfl | rfl | rfl | rfl | rfl | rfl | rfl | rfl | rfl | rfl
  all_goals first | rfl | exact absurd rfl h4
theorem lay_set (L : LayD) (A : Option Addr) (c : Nat) {k : Nat} (hk : k < 21) (h4 : k ≠ 4) (x : Int) : (layC L A c).set k (.int .i64 x) = layC { L with v := fun q => if q = k then x else L.v q } A c := by
  have hk' : k = 0 ∨ k = 1 ∨ k = 2 ∨ k = 3 ∨ k = 4 ∨ k = 5 ∨ k = 6 ∨ k = 7 ∨ k = 8 ∨ k = 9 ∨ k = 10 ∨ k = 11 ∨ k = 12 ∨ k = 13 ∨ k = 14 ∨ k = 15 ∨ k = 16 ∨ k = 17 ∨ k = 18 ∨ k = 19 ∨ k = 20 := by omega
  rcases hk' with rfl | rfl | rfl | rfl | rfl | rfl | rfl | rfl | rfl | rfl | rfl | rfl | rfl | rfl | rfl | rfl | rfl | rfl | rfl | rfl | rfl
  all_goals first | rfl | exact absurd rfl h4
theorem base_ok {j i : Nat} (hj : j < 10) (h2 : j ≠ 2) (hi : i < cntK j) : baseK j + i < 21 ∧ baseK j + i ≠ 4 := by
  have hj' : j = 0 ∨ j = 1 ∨ j = 3 ∨ j = 4 ∨ j = 5 ∨ j = 6 ∨ j = 7 ∨ j = 8 ∨ j = 9 := by omega
  rcases hj' with rfl | rfl | rfl | rfl | rfl | rfl | rfl | rfl | rfl <;> simp only [baseK, cntK] at * <;> omega
theorem adrK_two {B bs t i : Nat} (_ : i < 2) : adrK B ⟨bs, 0, none⟩ 2 t i = ⟨bs, t * 2 + i, none⟩ := by
  unfold adrK
  rw [if_pos rfl, add_zero_addr]
  by_cases h : i = 0
  · rw [if_pos h, h]; rfl
  · rw [if_neg h]
theorem row_one {w : World} {b n : Nat} {d : Nat → Int × Int} (h : RowP w b n d) (t i : Nat) (hi : i < 2) (x : Int) :
    RowP (w.setCell ⟨b, t * 2 + i, none⟩ (.int .i64 x)) b n (fun q => if q = t then (if i = 0 then (x, (d q).2) else ((d q).1, x)) else d q) := fun j hj => by
  obtain ⟨⟨h1, h2⟩, h3, h4⟩ := h j hj
  refine ⟨?_, by rw [World.frozen?_setCell]; exact h3, by rw [World.frozen?_setCell]; exact h4⟩
  have hi' : i = 0 ∨ i = 1 := by omega
  by_cases e : j = t
  · subst e
    rcases hi' with rfl | rfl
    · simp only [if_true, Nat.add_zero]
      exact ⟨World.cell?_setCell_same _ _ _ h1, (World.cell?_setCell_other _ _ _ _ (by simp)).trans h2⟩
    · simp only [if_true, if_neg (show ¬ (1 : Nat) = 0 by decide)]
      exact ⟨(World.cell?_setCell_other _ _ _ _ (by simp)).trans h1, World.cell?_setCell_same _ _ _ h2⟩
  · simp only [if_neg e]
    refine ⟨?_, ?_⟩
    · rw [World.cell?_setCell_other _ _ _ _ (by intro h; injection h with _ h; omega)]; exact h1
    · rw [World.cell?_setCell_other _ _ _ _ (by intro h; injection h with _ h; omega)]; exact h2
/-- Where a line's number is, and that it may be written. -/
theorem put_there {w W : World} {b4 bs km tm : Nat} {L : LayD} {tk : Nat → Nat} {n : Nat} (h : Tk w W b4 bs km tm L tk n) {j t i : Nat} (hj : j < 10) (ht : t < mostK j) (hi : i < cntK j) :
    (∃ v, W.cell? (adrK b4 ⟨bs, 0, none⟩ j t i) = some v) ∧ W.frozen? (adrK b4 ⟨bs, 0, none⟩ j t i) = false := by
  by_cases h2 : j = 2
  · subst h2
    have ht : t < 40 := ht
    rw [adrK_two hi]
    obtain ⟨⟨h1, h2⟩, h3, h4⟩ := h.row t ht
    have hi' : i = 0 ∨ i = 1 := by have : cntK 2 = 2 := rfl; omega
    rcases hi' with rfl | rfl
    · exact ⟨⟨_, h1⟩, h3⟩
    · exact ⟨⟨_, h2⟩, h4⟩
  · have e : adrK b4 ⟨bs, 0, none⟩ j t i = ⟨b4, baseK j + i, none⟩ := if_neg h2
    rw [e]
    obtain ⟨o1, o2⟩ := base_ok hj h2 hi
    exact ⟨⟨_, by rw [h.box.cell]; exact lay_at L _ _ o1 o2⟩, h.box.free _⟩
/-- A line's number is put there. -/
theorem Tk.put {w W : World} {b4 bs km tm : Nat} {L : LayD} {tk : Nat → Nat} {n : Nat} (h : Tk w W b4 bs km tm L tk n) {j t i : Nat} (hj : j < 10) (hi : i < cntK j) (h4 : w.heap.size ≤ b4) (hs : w.heap.size ≤ bs) (hd : b4 ≠ bs) (hk : b4 < km ∧ bs < km) (hm : b4 ≠ tm ∧ bs ≠ tm) {x : Int} (hx : Wide x) :
    Tk w (W.setCell (adrK b4 ⟨bs, 0, none⟩ j t i) (.int .i64 x)) b4 bs km tm (putL L j t i x) tk n := by
  have far : ∀ p : Addr, p.block ≠ km → (∀ k, km < k → p.block ≠ k) → KindsAt (W.setCell p (.int .i64 x)) km := fun p h1 h2 => by
    refine ⟨?_, fun j hj h2' => (h.kinds.fn j hj h2').far (h2 _ (by unfold nbK; omega)) _⟩
    refine h.kinds.map.block ?_
    show (W.heap.modify p.block _)[km]? = _
    rw [Array.getElem?_modify, if_neg h1]
  by_cases h2 : j = 2
  · subst h2
    rw [adrK_two hi]
    have e : putL L 2 t i x = { L with sh := fun q => if q = t then (if i = 0 then (x, (L.sh q).2) else ((L.sh q).1, x)) else L.sh q } := if_pos rfl
    rw [e]
    exact ⟨h.old.setCell hs _, h.box.far (fun e => hd e.symm) _, row_one h.row t i hi x, far _ (by show bs ≠ km; omega) (fun k hk' => by show bs ≠ k; omega), h.took.set hm.2 _, h.l40, ⟨h.wide.1, fun q => by
      show Wide (if q = t then (if i = 0 then (x, (L.sh q).2) else ((L.sh q).1, x)) else L.sh q).1 ∧ Wide (if q = t then (if i = 0 then (x, (L.sh q).2) else ((L.sh q).1, x)) else L.sh q).2
      split
      · split
        · exact ⟨hx, (h.wide.2 q).2⟩
        · exact ⟨(h.wide.2 q).1, hx⟩
      · exact h.wide.2 q⟩, h.few⟩
  · have e : adrK b4 ⟨bs, 0, none⟩ j t i = ⟨b4, baseK j + i, none⟩ := if_neg h2
    have e2 : putL L j t i x = { L with v := fun q => if q = baseK j + i then x else L.v q } := if_neg h2
    obtain ⟨o1, o2⟩ := base_ok hj h2 hi
    rw [e, e2]
    have hb := h.box.set (baseK j + i) (.int .i64 x)
    rw [lay_set L _ _ o1 o2] at hb
    exact ⟨h.old.setCell h4 _, hb, h.row.other hd _, far _ (by show b4 ≠ km; omega) (fun k hk' => by show b4 ≠ k; omega), h.took.set hm.1 _, h.l40, ⟨fun q => by
      show Wide (if q = baseK j + i then x else L.v q)
      split
      · exact hx
      · exact h.wide.1 q, h.wide.2⟩, h.few⟩
theorem line_info : (Tryd.prog.info? 41).map (fun i => (i.zero, i.size, i.bytes)) = some (some (.agg #[.int .i64 0, .int .i64 0]), 2, 16) := by kernel_rfl
def pairsV (d : Nat → Int × Int) (k : Nat) : List Value := (List.range k).flatMap fun j => [.int .i64 (d j).1, .int .i64 (d j).2]
theorem pairsV_len (d : Nat → Int × Int) : ∀ k, (pairsV d k).length = k * 2
  | 0 => rfl
  | k + 1 => by simp only [pairsV, List.range_succ, List.flatMap_append, List.length_append]; rw [show ((List.range k).flatMap fun j => [(.int .i64 (d j).1 : Value), .int .i64 (d j).2]).length = k * 2 from pairsV_len d k]; simp; omega
theorem pairsV_at (d : Nat → Int × Int) : ∀ {k j : Nat}, j < k → (pairsV d k)[j * 2]? = some (.int .i64 (d j).1) ∧ (pairsV d k)[j * 2 + 1]? = some (.int .i64 (d j).2)
  | 0, _, h => absurd h (by omega)
  | k + 1, j, h => by
    have e : pairsV d (k + 1) = pairsV d k ++ [.int .i64 (d k).1, .int .i64 (d k).2] := by simp [pairsV, List.range_succ]
    have hl := pairsV_len d k
    rw [e]
    rcases Nat.lt_or_ge j k with h1 | h1
    · rw [List.getElem?_append_left (by omega), List.getElem?_append_left (by omega)]
      exact pairsV_at d h1
    · obtain rfl : j = k := by omega
      rw [List.getElem?_append_right (by omega), List.getElem?_append_right (by omega), hl, Nat.sub_self, show j * 2 + 1 - j * 2 = 1 by omega]
      exact ⟨rfl, rfl⟩
/-- append([]api.Line(nil), l[:k]...). -/
theorem run_lines {W : World} {bs k : Nat} {d : Nat → Int × Int} (h : RowP W bs 40 d) (hk : k ≤ 40) (ty : TypeId) :
    ∃ A' c' W', (Builtin.append_ #[22, 22] ty #[.slice none 0 0, .slice (some ⟨bs, 0, none⟩) k 40]).run Tryd.prog W = .ok (.slice A' k c') W' ∧ SeenP W' A' k d ∧ k ≤ c' ∧ c' ≤ maxLen ∧ Ext W W' ∧ ∀ ad, A' = some ad → W.heap.size ≤ ad.block := by
  obtain ⟨i, h1, h2, h3, h4⟩ := info_parts line_info
  obtain ⟨v', w', hrun, ho, hg, _, _⟩ := run_append_own_at (P := Tryd.prog) W W.heap.size 22 ty 41 i _ 2 16 Tryd.underlying22 h1 h2 h3 h4 rfl (by omega) (.slice none 0 0) 0 [] (World.ownsRow_nil _ _ _ _) ⟨bs, 0, none⟩ k 40 (pairsV d k) (pairsV_len d k)
    (fun j u hu => by
      have hj : j < k * 2 := by have := (List.getElem?_eq_some_iff.1 hu).1; rwa [pairsV_len] at this
      rw [add_zero_addr]
      obtain ⟨⟨r0, r1⟩, _⟩ := h (j / 2) (by omega)
      obtain ⟨p0, p1⟩ := pairsV_at d (k := k) (j := j / 2) (by omega)
      rcases Nat.mod_two_eq_zero_or_one j with e | e
      · have e1 : j / 2 * 2 = j := by omega
        rw [e1] at r0 p0
        rw [hu] at p0
        rw [r0, Option.some.inj p0]
      · have e1 : j / 2 * 2 + 1 = j := by omega
        rw [e1] at r1 p1
        rw [hu] at p1
        rw [r1, Option.some.inj p1])
    (fun u hu => by
      obtain ⟨j, _, hj⟩ := List.mem_flatMap.1 hu
      simp only [List.mem_cons, List.not_mem_nil, or_false] at hj
      rcases hj with rfl | rfl <;> rfl)
    (by unfold maxLen; omega) (by omega) (Nat.le_refl _)
  rw [Nat.zero_add, List.nil_append] at ho
  have hx : Ext W w' := Below.grown (Ext.refl W) hg (Nat.le_refl _) (fun g e => by simp [Value.ownBlock] at e)
  obtain ⟨A', c', rfl, hs⟩ := own_seen ho
  have hc : k ≤ c' ∧ c' ≤ maxLen := by
    rcases ho.2 with ⟨e, h0⟩ | ⟨g, cap, cur, e, _, _, hnc, hcap, _⟩
    · injection e with _ _ e3; subst e3; exact ⟨by omega, Nat.zero_le _⟩
    · injection e with _ _ e3; subst e3; exact ⟨hnc, hcap⟩
  refine ⟨A', c', w', hrun, fun j hj => ?_, hc.1, hc.2, hx, fun ad e => by subst e; exact (ho.lt ad.block rfl).1⟩
  obtain ⟨p0, p1⟩ := pairsV_at d hj
  obtain ⟨ad, e0, hb, q0⟩ := hs _ _ p0
  obtain ⟨ad', e1, _, q1⟩ := hs _ _ p1
  rw [e0] at e1
  cases e1
  exact ⟨ad, e0, hb, q0, q1⟩
theorem wide0 : Wide 0 := ⟨by decide, by decide⟩
theorem layC_one (L : LayD) (A : Option Addr) (c : Nat) : ∀ v ∈ layC L A c, v.oneCell' = true := by
  intro v hv
  simp only [layC, List.mem_cons, List.not_mem_nil, or_false] at hv
  rcases hv with rfl | rfl | rfl | rfl | rfl | rfl | rfl | rfl | rfl | rfl | rfl | rfl | rfl | rfl | rfl | rfl | rfl | rfl | rfl | rfl | rfl <;> rfl
/-- A line more was taken. -/
theorem Tk.more {w W W' : World} {b4 bs km tm : Nat} {L : LayD} {tk tk' : Nat → Nat} {n : Nat} (h : Tk w W b4 bs km tm L tk n) (ht : TookAt W' tm (n + 1) tk') (hg : W.grownBy W' (some tm)) (hm : b4 ≠ tm ∧ bs ≠ tm) (hk : km ≠ tm) (hw : w.heap.size ≤ tm) (hf : ∀ j, j < 10 → tk' j ≤ mostK j) :
    Tk w W' b4 bs km tm L tk' (n + 1) ∧ (∀ b t cs, Blk W b t cs → Blk W' b t cs) := by
  have keep : ∀ b t cs, Blk W b t cs → Blk W' b t cs := fun b t cs hb => by
    refine (hg.block b hb.lt fun e => ?_).trans hb
    obtain ⟨m, hm1, _⟩ := h.took
    exact hm1.not_block (show W.heap[b]? = some _ from hb) (Option.some.inj e)
  refine ⟨⟨Below.grown h.old hg h.old.size (fun k e => by cases e; exact hw), keep _ _ _ h.box, fun q hq => ?_, ⟨?_, fun j hj h2 => keep _ _ _ (h.kinds.fn j hj h2)⟩, ht, h.l40, h.wide, hf⟩, keep⟩
  · obtain ⟨⟨r0, r1⟩, r2, r3⟩ := h.row q hq
    have hc : ∀ o v, W.cell? ⟨bs, o, none⟩ = some v → W'.cell? ⟨bs, o, none⟩ = some v := fun o v hv => by
      rw [(cell_of_block (hg.block bs (World.block_lt_of_cell? W _ hv) (fun e => hm.2 (Option.some.inj e)))).1]; exact hv
    have hf' : ∀ o v, W.cell? ⟨bs, o, none⟩ = some v → W.frozen? ⟨bs, o, none⟩ = false → W'.frozen? ⟨bs, o, none⟩ = false := fun o v hv hz => by
      rw [(cell_of_block (hg.block bs (World.block_lt_of_cell? W _ hv) (fun e => hm.2 (Option.some.inj e)))).2]; exact hz
    exact ⟨⟨hc _ _ r0, hc _ _ r1⟩, hf' _ _ r0 r2, hf' _ _ r1 r3⟩
  · exact h.kinds.map.block (hg.block km h.kinds.map.lt (fun e => hk (Option.some.inj e)))
theorem takeT_end (f : Nat) (L : LayD) (tk : Nat → Nat) : takeT (f + 1) L tk [] = some (L, tk) := by simp [takeT]
theorem takeT_bad {f : Nat} {L : LayD} {tk : Nat → Nat} {l : List UInt8} (h : l ≠ []) (hc : (Lib.cut l [10]).2.2 = false) : takeT (f + 1) L tk l = none := by simp [takeT, h, hc]
theorem takeT_none {f : Nat} {L : LayD} {tk : Nat → Nat} {l : List UInt8} (h : l ≠ []) (hc : stepT L tk (Lib.cut l [10]).1 = none) : takeT (f + 1) L tk l = none := by
  simp only [takeT, h, if_false, hc]
  split <;> rfl
theorem takeT_some {f : Nat} {L L' : LayD} {tk tk' : Nat → Nat} {l : List UInt8} (h : l ≠ []) (hw : (Lib.cut l [10]).2.2 = true) (hc : stepT L tk (Lib.cut l [10]).1 = some (L', tk')) : takeT (f + 1) L tk l = takeT f L' tk' (Lib.cut l [10]).2.1 := by
  simp only [takeT, h, if_false, hw, if_true, hc]
theorem stepT_name {L : LayD} {tk : Nat → Nat} {l : List UInt8} (h : nameJ ⟨(Lib.cut l [32]).1.toArray⟩ = none) : stepT L tk l = none := by simp [stepT, h]
theorem stepT_full {L : LayD} {tk : Nat → Nat} {l : List UInt8} {j : Nat} (h : nameJ ⟨(Lib.cut l [32]).1.toArray⟩ = some j) (hf : tk j = mostK j) : stepT L tk l = none := by simp [stepT, h, hf]
theorem stepT_count {L : LayD} {tk : Nat → Nat} {l : List UInt8} {j : Nat} (h : nameJ ⟨(Lib.cut l [32]).1.toArray⟩ = some j) (hc : Lib.countByte l 32 ≠ cntK j) : stepT L tk l = none := by
  simp only [stepT, h, hc, if_false]
  split <;> rfl
theorem stepT_put {L : LayD} {tk : Nat → Nat} {l : List UInt8} {j : Nat} (h : nameJ ⟨(Lib.cut l [32]).1.toArray⟩ = some j) (hf : tk j ≠ mostK j) (hc : Lib.countByte l 32 = cntK j) : stepT L tk l = match putAll L j (tk j) 0 (wordsOf l) with
    | none => none
    | some L' => some (L', fun q => if q = j then tk j + 1 else tk q) := by
  simp only [stepT, h, hf, hc, if_false, if_true]
theorem indexByte_has (c : UInt8) : ∀ {l : List UInt8}, c ∈ l → ∃ i : Nat, Lib.indexByte l c = (i : Int) ∧ l.count c = (l.drop (i + 1)).count c + 1
  | [], h => absurd h (by simp)
  | b :: r, h => by
    unfold Lib.indexByte
    by_cases e : b = c
    · subst e
      rw [if_pos (by simp)]
      exact ⟨0, rfl, by simp⟩
    · have hr : c ∈ r := by rcases List.mem_cons.1 h with h | h; exact absurd h.symm e; exact h
      obtain ⟨i, hi, hc⟩ := indexByte_has c hr
      rw [if_neg (by simpa using e), hi, if_neg (by simp)]
      refine ⟨i + 1, by omega, ?_⟩
      rw [List.count_cons_of_ne e]
      simpa using hc
theorem splitK_len (c : UInt8) : ∀ (n : Nat) (l : List UInt8), l.count c = n → (Lib.splitK [c] 0 n l).length = n + 1
  | 0, _, _ => rfl
  | n + 1, l, h => by
    have hm : c ∈ l := List.count_pos_iff.1 (by omega)
    obtain ⟨i, hi, hc⟩ := indexByte_has c hm
    unfold Lib.splitK
    rw [Lib.index_one, hi, if_neg (by simp)]
    simp only [List.length_cons, List.length_nil, Int.toNat_natCast, Nat.zero_add]
    rw [splitK_len c n _ (by omega)]
/-- The words of a line, as strings.Split has them. -/
def wordsB (l : List UInt8) (n : Nat) : List ByteArray := Lib.splitB ⟨#[32]⟩ 0 n ⟨l.toArray⟩
theorem wordsB_data (l : List UInt8) (n : Nat) : (wordsB l n).map (·.data.toList) = Lib.splitK [32] 0 n l := Lib.splitB_data ⟨#[32]⟩ 0 n ⟨l.toArray⟩
theorem wordsB_len {l : List UInt8} {n : Nat} (h : Lib.countByte l 32 = n) : (wordsB l n).length = n + 1 := by
  have := congrArg List.length (wordsB_data l n)
  rw [List.length_map, splitK_len 32 n l h] at this
  exact this
theorem wordsOf_drop {l : List UInt8} {n k : Nat} (h : Lib.countByte l 32 = n) (hk : k < n) : ∃ wd, (wordsB l n)[k + 1]? = some wd ∧ (wordsOf l).drop k = wd.data.toList :: (wordsOf l).drop (k + 1) := by
  have hl := wordsB_len h
  obtain ⟨wd, hw⟩ : ∃ wd, (wordsB l n)[k + 1]? = some wd := ⟨_, List.getElem?_eq_getElem (by omega)⟩
  refine ⟨wd, hw, ?_⟩
  have e : wordsOf l = ((wordsB l n).map (·.data.toList)).drop 1 := by rw [wordsB_data, wordsOf, h]
  rw [e, List.drop_drop, List.drop_drop, List.drop_eq_getElem_cons (by simp; omega), show 1 + (k + 1) = 1 + k + 1 by omega]
  have e2 : ((wordsB l n).map (·.data.toList))[1 + k]'(by simp; omega) = wd.data.toList := by
    rw [List.getElem_map]
    have := List.getElem?_eq_some_iff.1 hw
    obtain ⟨h1, h2⟩ := this
    simp only [show 1 + k = k + 1 by omega, h2]
  rw [e2]
theorem splitB_small {l : List UInt8} : ∀ {n : Nat}, ∀ wd ∈ wordsB l n, wd.size ≤ l.length := by
  intro n wd h
  have hm : wd.data.toList ∈ (wordsB l n).map (·.data.toList) := List.mem_map.2 ⟨wd, h, rfl⟩
  rw [wordsB_data] at hm
  have : ∀ (n : Nat) (l : List UInt8), ∀ x ∈ Lib.splitK [32] 0 n l, x.length ≤ l.length := by
    intro n
    induction n with
    | zero => intro l x hx; simp [Lib.splitK] at hx; rw [hx]; exact Nat.le_refl _
    | succ n ih =>
      intro l x hx
      unfold Lib.splitK at hx
      split at hx
      · simp at hx; rw [hx]; exact Nat.le_refl _
      · rcases List.mem_cons.1 hx with hx | hx
        · rw [hx, List.length_take]; omega
        · have := ih _ x hx; rw [List.length_drop] at this; omega
  have h2 := this n l _ hm
  simpa using h2
theorem wordsOf_len {l : List UInt8} {n : Nat} (h : Lib.countByte l 32 = n) : (wordsOf l).length = n := by
  have e : (Lib.splitK [32] 0 (Lib.countByte l 32) l).length = Lib.countByte l 32 + 1 := splitK_len 32 _ l rfl
  rw [wordsOf, List.length_drop, e, h]
  omega
theorem adrK_block (B : Nat) (bs j t i : Nat) : (adrK B ⟨bs, 0, none⟩ j t i).block = B ∨ (adrK B ⟨bs, 0, none⟩ j t i).block = bs := by
  unfold adrK
  split
  · right
    split
    · rw [add_zero_addr]
    · rw [add_zero_addr]
  · exact .inl rfl
theorem seenP_set {w : World} {A : Option Addr} {n : Nat} {d : Nat → Int × Int} (h : SeenP w A n d) {p : Addr} (hp : ∀ ad, A = some ad → p.block ≠ ad.block) (v : Value) : SeenP (w.setCell p v) A n d := fun j hj => by
  obtain ⟨ad, e, hb, h0, h1⟩ := h j hj
  have ne : ∀ k, p ≠ ad.add k := fun k e2 => hp ad e (by rw [e2, addr_block])
  refine ⟨ad, e, by simpa [World.setCell] using hb, ?_, ?_⟩
  · rw [World.cell?_setCell_other _ _ _ _ (ne _)]; exact h0
  · rw [World.cell?_setCell_other _ _ _ _ (ne _)]; exact h1
theorem seenP_sets {b : Nat} {A : Option Addr} {n : Nat} {d : Nat → Int × Int} (hb : ∀ ad, A = some ad → b ≠ ad.block) : ∀ (vs : List Value) (o : Nat) (w : World), SeenP w A n d → SeenP (w.setCells b o vs) A n d
  | [], _, _, h => h
  | v :: r, o, _, h => seenP_sets hb r (o + 1) _ (seenP_set h (p := ⟨b, o, none⟩) hb v)
end L14
end Go.Proofs.YteflkagilhmeiaaDoor

