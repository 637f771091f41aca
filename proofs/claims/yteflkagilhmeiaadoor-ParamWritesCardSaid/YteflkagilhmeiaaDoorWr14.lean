/- The landed Write of layouts. -/
import Derived.Test.YteflkagilhmeiaaDoorChk14
import Derived.Test.YteflkagilhmeiaaDoorMid09
import Derived.Test.YteflkagilhmeiaaDoorShelf
import Derived.Lib.AppendStr
import Derived.Stop.RegionWithIn
import Derived.Lib.ItoaLen
namespace Go.Proofs.YteflkagilhmeiaaDoor
open Go.RowKit
namespace L14

attribute [local go_sem] Oper.semAt_some

/-- What Write answers. -/
def writeL (L : LayD) : Option (List UInt8) := if mayL L = true then some (textL L) else none
def WriteQ (w : World) (r : Option (List UInt8)) (e : Ending) (w' : World) : Prop := Ext w w' ∧ match r with
  | none => e = .returned (.tuple #[.slice none 0 0, .int .i64 140])
  | some t => ∃ A n c, e = .returned (.tuple #[.slice A n c, .int .i64 0]) ∧ n = t.length ∧ n ≤ c ∧ c ≤ maxLen ∧ SeenB w' A t

theorem Kb.grown {g N size k : Nat} {w w' : World} {v : Value} {xs : List Value} (h : w.ownsRow N 5 size v k xs) (x : w.grownBy w' v.ownBlock) : Kb g N w w' := by
  refine ⟨Keep.grown h x, fun b es c hm => (x.block b (lt_of_block hm) fun e' => ?_).trans hm⟩
  rcases h.2 with ⟨rfl, _⟩ | ⟨b', cap, cur, rfl, _, hgb, _⟩
  · simp [Value.ownBlock] at e'
  · obtain rfl : b = b' := by simpa [Value.ownBlock] using e'
    rw [hgb] at hm; cases hm
theorem Kb.set {g N : Nat} (hg : N ≤ g) (w : World) (o : Nat) (u : Value) : Kb g N w (w.setCell ⟨g, o, none⟩ u) := by
  refine ⟨Keep.set hg w o u, fun b es c hm => ?_⟩
  show (w.heap.modify g _)[b]? = _
  rw [Array.getElem?_modify]
  by_cases e : g = b
  · subst e
    rw [if_pos rfl, hm]; rfl
  · rw [if_neg e, hm]
theorem others_row {size k N : Nat} {w w' : World} {v : Value} {xs : List Value} (h : w.ownsRow N 5 size v k xs) (x : w.grownBy w' v.ownBlock) : KeepsOthers w w' := by
  refine KeepsOthers.of_grownBy x fun j o e ho => ?_
  rcases h.2 with ⟨rfl, _⟩ | ⟨b', cap, cur, rfl, _, hgb, _⟩
  · simp [Value.ownBlock] at e
  · obtain rfl : b' = j := by simpa [Value.ownBlock] using e
    rw [hgb] at ho; cases ho; rfl
abbrev Txt (w W : World) (g : Nat) (l : List UInt8) : Prop := BoxB 5 26 w W g l

theorem byte_info : (Tryd.prog.info? 5).map (fun i => (i.zero, i.size, i.bytes)) = some (some (.int .u8 0), 1, 1) := by kernel_rfl
/-- b = append(b, text...), and stored. -/
theorem put_str {w W : World} {v : Value} {m : List UInt8} {g : Nat} (hb : Boxed W g 26 v) (h : OwnB 5 w W v m) (hg : w.heap.size ≤ g) (s : ByteArray) (hm : m.length + s.size ≤ 900000) (ty : TypeId) :
    ∃ A' k' c' w', (Builtin.append_ #[26, 9] ty #[v, .string s]).run Tryd.prog W = .ok (.slice A' k' c') w' ∧ w'.cell? ⟨g, 0, none⟩ = some v ∧ w'.frozen? ⟨g, 0, none⟩ = false ∧
      Txt w (w'.setCell ⟨g, 0, none⟩ (.slice A' k' c')) g (m ++ s.data.toList) ∧ Kb g w.heap.size W (w'.setCell ⟨g, 0, none⟩ (.slice A' k' c')) ∧ KeepsOthers W (w'.setCell ⟨g, 0, none⟩ (.slice A' k' c')) := by
  obtain ⟨i, h1, h2, h3, h4⟩ := info_parts byte_info
  obtain ⟨v', w', hr, ho, hgr, _⟩ := Lib.run_append_own_string (P := Tryd.prog) (w := W) w.heap.size 26 9 ty 5 i Tryd.underlying26 Tryd.underlying9 h1 h2 h3 h4 v m.length (bv m) h.1 s (by unfold maxLen; omega) (by omega) h.2.size
  have e : Lib.strCells s = bv s.data.toList := by simp [Lib.strCells, bv]
  rw [e, ← bv_append] at ho
  have hl : m.length + s.size = (m ++ s.data.toList).length := by rw [List.length_append]; rfl
  rw [hl] at ho
  have hx : Ext w w' := Below.grown h.2 hgr h.2.size (fun n e => (h.1.lt n e).1)
  have ho' : OwnB 5 w w' v' (m ++ s.data.toList) := ⟨ho, hx⟩
  have hb' : Boxed w' g 26 v := hb.kept hgr (hb.not_row (by decide) h.1)
  obtain ⟨A', c', rfl, _, _⟩ := ho'.seen
  exact ⟨A', _, c', w', hr, hb'.cell, hb'.frozen, ⟨_, hb'.set _, ho.kept (grownBy_setCell' w' g _) (.inr (hb'.not_row (by decide) ho).symm), hx.setCell hg _⟩, (Kb.grown h.1 hgr).trans (Kb.set hg w' 0 _), (others_row h.1 hgr).trans (KeepsOthers.setCell _ _ _)⟩
/-- strconv.AppendInt to one's own. -/
theorem append_any {w W : World} {v : Value} {m : List UInt8} {g : Nat} (hb : Boxed W g 26 v) (h : OwnB 5 w W v m) (hH : Home w) (i : Int) (hi : Wide i) (hm : m.length ≤ 900000) :
    Calls Tryd.prog 15 #[v, .int .i64 i, .int .i64 10] W fun e w' => ∃ A' k' c', e = .returned (.slice A' k' c') ∧ Boxed w' g 26 v ∧ OwnB 5 w w' (.slice A' k' c') (m ++ Lib.itoa i) ∧ Kb g w.heap.size W w' ∧ KeepsOthers W w' := by
  refine (Tryd.strconv_AppendInt_10 w.heap.size m.length i hi.1 hi.2 v (bv m) W h.1 h.2.size (by omega) (fun w' hx => tab_ext hH.tab (Below.trans (show Below w.heap.size w W from h.2) hx))).mono ?_
  rintro e w' ⟨v', rfl, ho, hx, hk⟩
  have e1 : Lib.byteCells (Lib.itoa i) = bv (Lib.itoa i) := rfl
  rw [e1, ← bv_append, ← List.length_append] at ho
  have ho' : OwnB 5 w w' v' (m ++ Lib.itoa i) := ⟨ho, Below.trans (show Below w.heap.size w W from h.2) hx⟩
  obtain ⟨A', c', rfl, _, _⟩ := ho'.seen
  have hb' : Boxed w' g 26 v := hk g _ hb (by simp) (by intro c fz h; cases h)
  refine ⟨A', _, c', rfl, hb', ho', ⟨⟨hx.size, fun b cs t f _ ht hc => hk b _ hc (by simp) (by intro c fz h; cases h; exact ht rfl), fun w0 l x => ?_⟩, fun b es c hmm => hk b _ hmm (by simp) (by intro c fz h; cases h)⟩, ⟨hx.size, fun k o hc hno => ?_⟩⟩
  · exact Below.trans x (Below.mono hx l)
  · exact hk k o hc (by simp) (by intro c fz e; subst e; cases hno)
-- WALK
theorem valD_wide {L : LayD} {c : Nat} (ok : LayOk L c) {j t i : Nat} (h : (j, t) ∈ seqN L.n) : Wide (valD L j t i) := by
  unfold valD
  by_cases h2 : j = 2
  · subst h2
    have ht : t < L.n := by simp [seqN] at h; exact h
    rw [if_pos rfl]
    split
    · exact (ok.sh t ht).1
    · exact (ok.sh t ht).2
  · rw [if_neg h2]; exact ok.v _
/-- The bytes of a line's numbers so far. -/
def numT (L : LayD) (j t k : Nat) : List UInt8 := (List.range k).flatMap fun i => 32 :: Lib.itoa (valD L j t i)
theorem numT_succ (L : LayD) (j t k : Nat) : numT L j t (k + 1) = numT L j t k ++ [32] ++ Lib.itoa (valD L j t k) := by
  simp [numT, List.range_succ]
theorem numT_len {L : LayD} {c : Nat} (ok : LayOk L c) {j t : Nat} (h : (j, t) ∈ seqN L.n) : ∀ k, (numT L j t k).length ≤ 22 * k
  | 0 => by simp [numT]
  | k + 1 => by
    have h1 := numT_len ok h k
    have h2 := Lib.itoa_length_le _ (valD_wide (i := k) ok h).1 (valD_wide (i := k) ok h).2
    rw [numT_succ]
    simp only [List.length_append, List.length_cons, List.length_nil]
    omega
theorem lineL_num (L : LayD) (x : NB) : lineL L (keyN x) = nameL x.1 ++ numT L x.1 x.2.1 (cntK x.1) ++ [10] := rfl
theorem nameL_len (j : Nat) : (nameL j).length ≤ 9 := by unfold nameL; split <;> decide
theorem lineL_len {L : LayD} {c : Nat} (ok : LayOk L c) (x : NB) (h : keyN x ∈ seqN L.n) : (lineL L (keyN x)).length ≤ 120 := by
  rw [lineL_num]
  have h1 := numT_len ok (show (x.1, x.2.1) ∈ seqN L.n from h) (cntK x.1)
  have h2 := (cntK_small x.1).2
  have h3 := nameL_len x.1
  simp only [List.length_append, List.length_cons, List.length_nil]
  omega
/-- The bytes of the lines so far. -/
def preT (L : LayD) (pre : List NB) : List UInt8 := pre.flatMap fun x => lineL L (keyN x)
theorem preT_len {L : LayD} {c : Nat} (ok : LayOk L c) : ∀ (pre : List NB), (∀ x ∈ pre, keyN x ∈ seqN L.n) → (preT L pre).length ≤ 120 * pre.length
  | [], _ => by simp [preT]
  | x :: r, h => by
    have h1 := preT_len ok r (fun y hy => h y (List.mem_cons_of_mem _ hy))
    have h2 := lineL_len ok x (h x (List.mem_cons_self ..))
    have e : preT L (x :: r) = lineL L (keyN x) ++ preT L r := rfl
    rw [e, List.length_append, List.length_cons]
    omega
theorem seqN_length (n : Nat) : (seqN n).length = n + 9 := by simp [seqN]

theorem Kb.others {W W' : World} (x : Ext W W') : KeepsOthers W W' := ⟨x.size, fun k _ hc _ => (x.block k (lt_of_block hc)).trans hc⟩
theorem res_two {fn : Func} {p q : Nat} (h : fn.results = #[.tmp p, .tmp q]) (tmps : Array Value) (W : World) : (results fn tmps).run Tryd.prog W = .ok (.tuple #[tmps.getD p undef, tmps.getD q undef]) W := by
  simp only [results, h]
  simp [go_sem]
theorem seen_put {W : World} {l : Nat} {A : Option Addr} {t : List UInt8} {o : Obj} (o' : Obj) (h : SeenB W A t) (hl : W.heap[l]? = some o) (ho : o.isCells = false) : SeenB (W.putObj l o') A t := fun k u hu => by
  obtain ⟨ad, e, hb, hc⟩ := h k u hu
  refine ⟨ad, e, by simpa using hb, ?_⟩
  exact cell_kept hc (grownBy_putObj' W l o') fun r e => by cases e; exact ⟨o, hl, ho⟩
/-- What holds between the rounds. -/
def WI (w : World) (L : LayD) (A : Option Addr) (c b0 b1 : Nat) (pre : List NB) (W : World) : Prop := Txt w W b1 (preT L pre) ∧ Blk W b0 24 (layC L A c) ∧ ∀ x ∈ pre, keyN x ∈ seqN L.n
theorem txt_store {w W : World} {u v : Value} {m : List UInt8} {g : Nat} (hb : Boxed W g 26 u) (h : OwnB 5 w W v m) (hg : w.heap.size ≤ g) : Txt w (W.setCell ⟨g, 0, none⟩ v) g m ∧ Kb g w.heap.size W (W.setCell ⟨g, 0, none⟩ v) ∧ KeepsOthers W (W.setCell ⟨g, 0, none⟩ v) :=
  ⟨⟨v, hb.set _, h.1.kept (grownBy_setCell' W g _) (.inr (hb.not_row (by decide) h.1).symm), h.2.setCell hg _⟩, Kb.set hg W 0 _, KeepsOthers.setCell _ _ _⟩
theorem Txt.row {w W W' : World} {g : Nat} {l : List UInt8} {row : Option Nat} (h : Txt w W g l) (hg : W.grownBy W' row) (hr : ∀ r, row = some r → w.heap.size ≤ r ∧ ∃ o : Obj, W.heap[r]? = some o ∧ o.isCells = false) : Txt w W' g l := by
  obtain ⟨v, hb, ho⟩ := h
  refine ⟨v, blk_row (show Blk W g _ [v] from hb) hg (fun r e => (hr r e).2), ho.1.kept hg ?_, ext_row ho.2 hg (fun r e => (hr r e).1)⟩
  rcases ho.1.2 with ⟨rfl, _⟩ | ⟨b, cap, cur, rfl, _, hgb, _⟩
  · exact .inl rfl
  · refine .inr fun e => ?_
    obtain ⟨o, h1, h2⟩ := (hr b (by rw [← e]; rfl)).2
    rw [hgb] at h1; cases h1; cases h2
theorem WI.own {w : World} {L : LayD} {A : Option Addr} {c b0 b1 B : Nat} (hB : w.heap.size ≤ B) : OwnFrom B (WI w L A c b0 b1) := fun _ _ _ _ h hg hr =>
  ⟨Txt.row h.1 hg (fun r e => ⟨Nat.le_trans hB (hr r e).1, (hr r e).2⟩), blk_row h.2.1 hg (fun r e => (hr r e).2), h.2.2⟩
/-- An append of a text whose run is known, inside a fence. -/
theorem wpListIn_ranS {F : Fence} {n : Nat} {P : Program} {w w' : World} {ops : Array Oper} {rest : List Oper} {o : Oper} {a : Act} {Q : Exit → Act → World → Prop} {t u : TypeId} {v : Value} (hgd : o.guard = none) (s x : Operand)
    (ho : o.op = .call { callee := .builtin .append, args := #[s, x], argTypes := #[t, u] }) (hrun : (Builtin.append_ #[t, u] o.type #[a.eval s, a.eval x]).run P w = .ok v w')
    (h : wpListIn F n P ops Q rest (a.put o.dst v) w') : wpListIn F n P ops Q (o :: rest) a w := by
  refine wpListIn_plain hgd fun K hK => ?_
  unfold Oper.wpIn
  refine ⟨by simp [Oper.about, ho, resolve, Target.leads, Sem.run_pure], ?_⟩
  rw [Oper.semAt_plain F _ _ (by rw [ho]; intro c hc; cases hc)]
  simp only [execOp, ho, resolve, invoke, builtin, Sem.run_bind, Sem.run_pure, Result.andThen_ok, List.map_toArray, List.map_cons, List.map_nil, hrun]
  exact hK _ _ h

set_option maxRecDepth 100000 in
set_option maxHeartbeats 8000000 in
theorem write_any (L : LayD) (A : Option Addr) (c : Nat) (w : World) (ok : LayOk L c) (sn : SeenP w A L.n L.sh) (hH : Home w) : Calls Tryd.prog 8 #[layV L A c] w (WriteQ w (writeL L)) := by
  obtain ⟨S, hS⟩ : ∃ S, A = some S ∨ L.n = 0 := by
    rcases Nat.eq_zero_or_pos L.n with h | h
    · exact ⟨⟨0, 0, none⟩, .inr h⟩
    · obtain ⟨ad, e, _⟩ := sn 0 h; exact ⟨ad, .inl e⟩
  obtain ⟨WA, hWA⟩ : ∃ WA, WA = w.alloc (.cells #[.int .i64 (L.v 0), .int .i64 (L.v 1), .int .i64 (L.v 2), .int .i64 (L.v 3), .slice A L.n c, .int .i64 (L.v 5), .int .i64 (L.v 6), .int .i64 (L.v 7), .int .i64 (L.v 8), .int .i64 (L.v 9), .int .i64 (L.v 10), .int .i64 (L.v 11), .int .i64 (L.v 12), .int .i64 (L.v 13), .int .i64 (L.v 14), .int .i64 (L.v 15), .int .i64 (L.v 16), .int .i64 (L.v 17), .int .i64 (L.v 18), .int .i64 (L.v 19), .int .i64 (L.v 20)] 24) := ⟨_, rfl⟩
  have XA : Ext w WA := by rw [hWA]; exact (Ext.refl w).alloc _
  have kL : Blk WA w.heap.size 24 (layC L A c) := by rw [hWA]; exact Blk.lit _ _ _ _ rfl
  have CK := Lib.hid (check_any L A c WA ok (sn.ext XA) (hH.ext XA))
  have HG := Lib.hid kL
  have OK := Lib.hid ok
  cases hm : mayL L with
  | false =>
    have NO := Lib.hid (show writeL L = none by rw [writeL, hm]; rfl)
    rw [hm] at CK
    clear sn hH ok hm
    rw [NO.out]
    unfold layV at *
    go_enter Tryd.func8, Tryd.ntmps8
    go_wp2_with (first | (refine wpList_load_mid rfl 24 _ rfl w.heap.size 0 rfl (layC L A c) _ (hWA ▸ HG.out.range) Tryd.underlying24 rfl (by kernel_rfl) ?_))
    rw [← hWA]
    refine CK.out.mono ?_
    rintro e w1 ⟨rfl, x1⟩
    have X1 := XA.trans x1
    clear hWA
    go_wp2_with fail
    go_ret2
    exact ⟨X1, rfl⟩
  | true =>
    have YES := Lib.hid (show writeL L = some (textL L) by rw [writeL, hm]; rfl)
    have h40 : L.n ≤ 40 := by simp only [mayL, Bool.and_eq_true, decide_eq_true_eq] at hm; exact hm.1
    rw [hm] at CK
    have SN := Lib.hid sn
    have HH := Lib.hid hH
    clear sn hH ok hm
    rw [YES.out]
    refine (callsIn_wide (n := 9)).1 (callsIn_of_wp_marks Tryd.func8 rfl trivial ?_ rfl)
    refine wpIn_wide.2 ?_
    simp only [layV, Tryd.ntmps8, List.size_toArray, List.length_cons, List.length_nil, Nat.reduceAdd, Nat.reduceSub, Array.replicate_succ, Array.replicate_zero, List.push_toArray, List.append_toArray, List.nil_append, List.cons_append]
    go_wp2_with (first | (refine wpList_load_mid rfl 24 _ rfl w.heap.size 0 rfl (layC L A c) _ (hWA ▸ HG.out.range) Tryd.underlying24 rfl (by kernel_rfl) ?_))
    rw [← hWA]
    refine CK.out.mono ?_
    rintro e w1 ⟨rfl, x1⟩
    have X1 := XA.trans x1
    have kL := kL.ext x1
    have hz0 : w.heap.size < w1.heap.size := kL.lt
    clear hWA CK HG x1 XA
    go_wp2_with fail
    obtain ⟨WB, hWB⟩ : ∃ WB, WB = w1.alloc (.cells #[.slice none 0 0] 26) := ⟨_, rfl⟩
    have xb : Ext w1 WB := by rw [hWB]; exact (Ext.refl _).alloc _
    have kb : Boxed WB w1.heap.size 26 (.slice none 0 0) := by rw [hWB]; exact Boxed.new _ _ _
    have hzB : WB.heap.size = w1.heap.size + 1 := by rw [hWB]; simp
    rw [← hWB]
    refine (lines_any _ WB).mono ?_
    rintro e w2 ⟨rfl, hw2⟩
    have x2 : Ext WB w2 := by rw [hw2]; exact (Ext.refl _).alloc _
    have hz2 : w2.heap.size = w1.heap.size + 1 + 1 := by rw [hw2]; simp; omega
    have kT : Blk w2 (w1.heap.size + 1) 45 [.pointer (some ⟨w.heap.size, 0, none⟩)] := by rw [hw2]; exact Blk.lit _ _ _ _ hzB.symm
    rw [hzB]
    have kL := kL.ext (xb.trans x2)
    have kb : Boxed w2 w1.heap.size 26 (.slice none 0 0) := Boxed.ext kb x2
    have X2 := X1.trans (xb.trans x2)
    clear xb x2 hw2 hWB hzB X1
    generalize hb1 : w1.heap.size = b1 at *
    generalize hb2 : b1 + 1 = b2 at *
    generalize hb0 : w.heap.size = b0 at *
    go_wp2_with fail
    obtain ⟨V, hV⟩ : ∃ V, V = Value.agg #[.int .i64 (L.v 0), .int .i64 (L.v 1), .int .i64 (L.v 2), .int .i64 (L.v 3), .slice A L.n c, .int .i64 (L.v 5), .int .i64 (L.v 6), .int .i64 (L.v 7), .int .i64 (L.v 8), .int .i64 (L.v 9), .int .i64 (L.v 10), .int .i64 (L.v 11), .int .i64 (L.v 12), .int .i64 (L.v 13), .int .i64 (L.v 14), .int .i64 (L.v 15), .int .i64 (L.v 16), .int .i64 (L.v 17), .int .i64 (L.v 18), .int .i64 (L.v 19), .int .i64 (L.v 20)] := ⟨_, rfl⟩
    obtain ⟨U, hU⟩ : ∃ U, U = Value.agg (layC L A c).toArray := ⟨_, rfl⟩
    rw [← hV, ← hU]
    clear hV hU
    refine wpIn_wide.1 (range_over (n := 9) (F := Fence.wide) rfl (by omega) (gf := 19) (lb := #[.pointer (some ⟨b2, 0, none⟩)]) rfl trivial (enters_of Tryd.func19 (by kernel_rfl) rfl)
      (encs := encN) (fun _ => rfl) (V := fun x W => VN b0 S (L.v 0) x W ∧ keyN x ∈ seqN L.n) (Kp := Kb b1 b0) (S := fun xs => xs.map keyN = seqN L.n) (Sp := fun pre => pre.map keyN <+: seqN L.n) (N := (seqN L.n).length)
      (WI w L A c b0 b1) (fun _ _ _ => False)
      (fun x a' W' => ∃ ad : Addr, ad = ⟨x.2.2, 0, none⟩ ∧ VN b0 S (L.v 0) x W' ∧ keyN x ∈ seqN L.n ∧ a' = { tmps := #[V, .pointer (some ⟨b0, 0, none⟩), .slice none 0 0, .int .i64 0, .pointer (some ⟨b1, 0, none⟩), .string (nameB x.1), .slice (some ad) (cntK x.1) (cntK x.1), undef, undef, U, .bool true, .bool false, .func (.func 19) #[] #[.pointer (some ⟨b2, 0, none⟩)], .string (nameB x.1), .slice (some ad) (cntK x.1) (cntK x.1), undef, undef, undef, undef, undef, undef, undef, undef, undef, undef, undef, undef, undef, undef, undef, undef, undef, undef, undef, undef, undef], defers := [] })
      (WI.own (by omega)) (fun cd s X Y row h _ _ => h.elim)
      (fun x a' u X Y row h hg hr => by
        obtain ⟨ad, h1, h2, h3, h4⟩ := h
        exact ⟨ad, h1, blk_row h2 hg (fun r e => (hr r e).2), h3, h4⟩)
      (fun h k => Kb.trans h k) (fun W' r r' h => Kb.loop W' r r' (by omega) h)
      ⟨⟨_, kb, OwnB.nil _ _ _ X2⟩, kL, fun x h => by simp at h⟩ ?call ?assign ?body ?done ?stop)
    case call =>
      intro W' J' Jx' x' hz' hJ' hJx' hY' h0'
      exact lines_in 8 (w2.heap.size + 1) b2 b0 b1 b0 (w2.heap.size + 2) (by omega) L A S c hS (by omega) W' J' Jx' (HH.out.ext (X2.trans x')) (kT.ext x') (kL.ext x') (by omega) (by omega) (by omega) (by omega) hJ'
        (fun pre x W2 h1 h2 h3 h4 => hY' pre x W2 h1 ⟨h2, h3⟩ h4) h0'
    case assign =>
      rintro pre x W' K hi ⟨hv, hm⟩ hK
      obtain ⟨ad, had⟩ : ∃ ad : Addr, ad = ⟨x.2.2, 0, none⟩ := ⟨_, rfl⟩
      have GO := Lib.hid (hK { tmps := #[V, .pointer (some ⟨b0, 0, none⟩), .slice none 0 0, .int .i64 0, .pointer (some ⟨b1, 0, none⟩), .string (nameB x.1), .slice (some ad) (cntK x.1) (cntK x.1), undef, undef, U, .bool true, .bool false, .func (.func 19) #[] #[.pointer (some ⟨b2, 0, none⟩)], .string (nameB x.1), .slice (some ad) (cntK x.1) (cntK x.1), undef, undef, undef, undef, undef, undef, undef, undef, undef, undef, undef, undef, undef, undef, undef, undef, undef, undef, undef, undef, undef], defers := [] } W' (KeepsFrom.refl _ _) (Kb.refl _ _ _) hi ⟨ad, had, hv, hm, rfl⟩)
      clear hi hK hv
      rw [had] at GO
      simp only [encN]
      gi_wp2
      exact GO.out
    case body =>
      rintro pre ⟨j, t, bk⟩ a' W' ⟨⟨v, hbx, hown⟩, kL', hmem⟩ ⟨ad, had, hv, hm, rfl⟩ hlt
      have hm : (j, t) ∈ seqN L.n := hm
      have hn5 := (cntK_small j).2
      have hbk : bk ≠ b1 := blk_not hv hbx (by decide)
      have hlen := preT_len OK.out pre hmem
      rw [seqN_length] at hlt
      have hnl := nameL_len j
      obtain ⟨A0, c0, rfl, _, _⟩ := hown.seen
      obtain ⟨A1, k1, c1, w4, r1, g1, f1, t1, kb1, ko1⟩ := put_str hbx hown (by omega) (nameB j) (by show _ + (nameL j).toArray.size ≤ _; rw [List.size_toArray]; omega) 26
      have q1 : W'.cell? ⟨b1, 0, none⟩ = some (.slice A0 (preT L pre).length c0) := hbx.cell
      rw [hb0] at kb1
      have enm : (nameB j).data.toList = nameL j := rfl
      rw [enm] at t1
      have T1 := Lib.hid t1
      have KB1 := Lib.hid kb1
      have KO1 := Lib.hid ko1
      have HV := Lib.hid hv
      have HMEM := Lib.hid hmem
      have HM := Lib.hid hm
      have KL := Lib.hid kL'
      have HAD := Lib.hid had
      clear t1 kb1 ko1 hv hmem hm kL' had hbx hown
      have hcnt : (cntK j : Int) ≤ 5 := by omega
      dsimp only
      generalize hgl : (preT L pre).length = pl at *
      gi_wp2_with (gi_at_builtin; refine wpListIn_ranS rfl _ _ rfl r1 ?_)
      clear q1 r1 g1 f1
      gi_loopw [20] (fun i wr => ∃ k : Nat, k ≤ cntK j ∧ i = .int .i64 k ∧ Hid (Txt w wr b1 (preT L pre ++ nameL j ++ numT L j t k)) ∧ Hid (Kb b1 b0 W' wr) ∧ Hid (KeepsOthers W' wr)) (fun i _ => 10 - (intOf i).toNat)
      case atStart => exact ⟨0, by omega, rfl, Lib.hid (by simpa [numT] using T1.out), KB1, KO1⟩
      case round =>
        obtain ⟨k, hk, rfl, hT, hKb, hKo⟩ := hrel
        by_cases hlt : k < cntK j
        · have hk64 : (k : Int) < (cntK j : Int) := by omega
          obtain ⟨vr, hbr, hor⟩ := hT.out
          obtain ⟨Ar, nr, cr, rfl⟩ : ∃ A n c, vr = .slice A n c := by obtain ⟨A, c, e, _⟩ := hor.seen; exact ⟨A, _, c, e⟩
          have klr := hKb.out.blk KL.out (by omega) (by decide)
          obtain ⟨e0, e1, e2⟩ := num_cells (hKb.out.blk HV.out hbk (by decide)) hlt
          simp only [← HAD.out] at e0 e1 e2
          have VAL := Lib.hid (fun (W9 : World) (x : Ext w W9) (kl : Blk W9 b0 24 (layC L A c)) => val_at hS kl (SN.out.ext x) HM.out hlt)
          have WID := Lib.hid (valD_wide (i := k) OK.out HM.out)
          have NT := Lib.hid (numT_succ L j t k)
          have hnum := numT_len OK.out HM.out k
          generalize adrK b0 S j t k = ap at e0 VAL
          generalize loK (L.v 0) j k = lo at e1
          generalize hiK (L.v 0) j k = hi at e2
          generalize valD L j t k = va at VAL WID NT
          obtain ⟨ab, ao, rfl⟩ : ∃ ab ao, ap = ⟨ab, ao, none⟩ := ⟨_, _, plain_addr (VAL.out wr hor.2 klr).1⟩
          obtain ⟨WR, hWR⟩ : ∃ WR, WR = wr.alloc (.cells #[.pointer (some ⟨ab, ao, none⟩), .int .i64 lo, .int .i64 hi] 49) := ⟨_, rfl⟩
          have xr : Ext wr WR := by rw [hWR]; exact (Ext.refl _).alloc _
          have kN : Blk WR wr.heap.size 49 [.pointer (some ⟨ab, ao, none⟩), .int .i64 lo, .int .i64 hi] := by rw [hWR]; exact Blk.lit _ _ _ _ rfl
          have hbx := Boxed.ext hbr xr
          have hown := hor.over xr
          have hb1r : b1 < wr.heap.size := hbr.lt
          have q1 : wr.cell? ⟨b1, 0, none⟩ = some (.slice Ar nr cr) := hbr.cell
          obtain ⟨A5, k5, c5, w5, r5, g5, f5, t5, kb5, ko5⟩ := put_str hbx hown (by omega) ⟨#[32]⟩ (by
            show _ + 1 ≤ _
            simp only [List.length_append]; omega) 26
          rw [hb0] at kb5
          obtain ⟨W3, hW3⟩ : ∃ W3, W3 = w5.setCell ⟨b1, 0, none⟩ (.slice A5 k5 c5) := ⟨_, rfl⟩
          rw [← hW3] at t5 kb5 ko5
          have n3 := kb5.blk kN (by omega) (by decide)
          have kl3 := kb5.blk (klr.ext xr) (by omega) (by decide)
          obtain ⟨v3, hb3, ho3⟩ := t5
          obtain ⟨A3, n3', c3', rfl⟩ : ∃ A n c, v3 = .slice A n c := by obtain ⟨A, c, e, _⟩ := ho3.seen; exact ⟨A, _, c, e⟩
          have n0 : W3.cell? ⟨wr.heap.size, 0, none⟩ = some (.pointer (some ⟨ab, ao, none⟩)) := n3.cell 0
          have c3 : W3.cell? ⟨ab, ao, none⟩ = some (.int .i64 va) := (VAL.out W3 ho3.2 kl3).1
          have q3 : W3.cell? ⟨b1, 0, none⟩ = some (.slice A3 n3' c3') := hb3.cell
          have AP := Lib.hid (append_any (Boxed.ext hb3 (Ext.refl W3).drew) (ho3.over (Ext.refl W3).drew) HH.out va WID.out (by
            simp only [List.length_append, List.length_cons, List.length_nil]; omega))
          have KB3 := Lib.hid (hKb.out.trans ((Kb.of_ext (g := b1) (N := b0) xr).trans kb5))
          have KO3 := Lib.hid (hKo.out.trans (((Kb.others xr)).trans ko5))
          clear hbx hown hor hbr xr kN hb3 ho3 n3 kl3 klr kb5 ko5 VAL hT hKb hKo WID
          gi_wp2_with (gi_at_builtin; refine wpListIn_ranS rfl _ _ rfl (hWR ▸ r5) ?_)
          rw [← hW3]
          clear r5 g5 f5 hW3 hWR q1 e0 e1 e2
          gi_region_with (refine ⟨trivial, (CallsIn.inRound _ (callsIn_wide.2 AP.out)).mono ?_⟩; rintro e w6 ⟨A6, k6, c6, rfl, hb6, ho6, kb6, ko6⟩; have q6 := hb6.cell; have f6 := hb6.frozen)
          all_goals
            rw [hb0] at kb6
            obtain ⟨t7, kb7, ko7⟩ := txt_store hb6 ho6 (by omega)
            rw [hb0] at kb7
            have HT7 := Lib.hid (show Txt w (w6.setCell ⟨b1, 0, none⟩ (.slice A6 k6 c6)) b1 (preT L pre ++ nameL j ++ numT L j t (k + 1)) from by rw [NT.out]; simpa [List.append_assoc] using t7)
            have KB7 := Lib.hid (KB3.out.trans ((Kb.of_ext (Ext.refl W3).drew).trans (kb6.trans kb7)))
            have KO7 := Lib.hid (KO3.out.trans ((Kb.others (Ext.refl W3).drew).trans (ko6.trans ko7)))
            clear t7 kb7 ko7 hb6 ho6 kb6 ko6 q6 f6 AP KB3 KO3 n0 c3 q3
            gi_wp2
            go_roundw
            case rel => exact ⟨k + 1, by omega, by go_num, HT7, KB7, KO7⟩
            case measure => simp [intOf]; omega
        · have hk64 : ¬ (k : Int) < (cntK j : Int) := by omega
          obtain rfl : k = cntK j := by omega
          obtain ⟨vr, hbr, hor⟩ := hT.out
          obtain ⟨Ar, nr, cr, rfl⟩ : ∃ A n c, vr = .slice A n c := by obtain ⟨A, c, e, _⟩ := hor.seen; exact ⟨A, _, c, e⟩
          have hnum := numT_len OK.out HM.out (cntK j)
          have q1 : wr.cell? ⟨b1, 0, none⟩ = some (.slice Ar nr cr) := hbr.cell
          obtain ⟨A5, k5, c5, w5, r5, g5, f5, t5, kb5, ko5⟩ := put_str hbr hor (by omega) ⟨#[10]⟩ (by
            show _ + 1 ≤ _
            simp only [List.length_append]; omega) 26
          rw [hb0] at kb5
          have GO := Lib.hid (show ownPostG (b2 + 1) (Kb b1 b0) (WI w L A c b0 b1) (fun _ _ _ => False) (pre ++ [(j, t, bk)]) W' .normal { tmps := #[], defers := [] } (w5.setCell ⟨b1, 0, none⟩ (.slice A5 k5 c5)) from
            ⟨(hKo.out.trans ko5).from _, hKb.out.trans kb5, ⟨by
              have e : preT L (pre ++ [(j, t, bk)]) = preT L pre ++ nameL j ++ numT L j t (cntK j) ++ [10] := by simp [preT, lineL_num]
              rw [e]; exact t5, (hKb.out.trans kb5).blk KL.out (by omega) (by decide), fun x hx => by
                rcases List.mem_append.1 hx with h | h
                · exact HMEM.out x h
                · rw [List.mem_singleton.1 h]; exact HM.out⟩⟩)
          clear t5 kb5 ko5 hbr hor hT hKb hKo
          gi_wp2_with (gi_at_builtin; refine wpListIn_ranS rfl _ _ rfl r5 ?_)
          exact GO.out
    case done =>
      rintro xs W' hSx ⟨⟨v, hbx, hown⟩, kL', hmem⟩ hK
      obtain ⟨A9, c9, rfl, h1, h2⟩ := hown.seen
      have etx : preT L xs = textL L := by
        have e : preT L xs = (xs.map keyN).flatMap (lineL L) := by simp [preT, List.flatMap_map]
        rw [e, hSx, textL]
      rw [etx] at hbx hown h1 h2
      have hcm : c9 ≤ maxLen := by
        rcases hown.1.2 with ⟨e, _⟩ | ⟨g, cap, cur, e, _, _, _, hcap, _⟩
        · injection e with _ _ e3; subst e3; exact Nat.zero_le _
        · injection e with _ _ e3; rw [e3]; exact hcap
      have q1 : W'.cell? ⟨b1, 0, none⟩ = some (.slice A9 (textL L).length c9) := hbx.cell
      have HK := Lib.hid hK
      have HS := Lib.hid h2
      have H1 := Lib.hid h1
      have HX := Lib.hid hown.2
      clear hbx hown kL' hmem hK hSx etx h1 h2
      generalize hnl : (textL L).length = nl at *
      have HNL := Lib.hid hnl
      clear hnl
      go_wp2_with fail
      refine ⟨by simp, .inl ⟨_, _, rfl, run_takeDeferred HK.out, ⟨_, res_two rfl _ _, ?_⟩⟩⟩
      exact ⟨ext_put _ HX.out (by omega), A9, nl, c9, rfl, HNL.out.symm, H1.out, hcm, seen_put _ HS.out HK.out rfl⟩
    case stop =>
      rintro cd pre W' hSp h hK
      exact h.elim
end L14
end Go.Proofs.YteflkagilhmeiaaDoor

