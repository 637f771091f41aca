/- The landed Parse of layer 10. -/
import Derived.Test.YtijhabhnhglhgaaDoorLandH10
import Derived.Test.YtijhabhnhglhgaaDoorSeq10
namespace Go.Proofs.YtijhabhnhglhgaaDoor
open Go.RowKit Go.Lib
namespace L10

attribute [local go_sem] Oper.semAt_some

/-- What Parse answers. -/
def ParseQ (w : World) (r : Option LL) (e : Ending) (w' : World) : Prop :=
  Ext w w' ∧ ((∃ D P, e = .returned (.tuple #[patsV D P, .int .i64 0]) ∧ SeenPats w' D P ∧ D.l.length ≤ P.c ∧ P.c ≤ maxLen ∧ D.m.length ≤ P.d ∧ P.d ≤ maxLen ∧ (∀ x ∈ D.l ++ D.m, x.ns.length ≤ x.c ∧ x.c ≤ maxLen) ∧ r = some (D.l.map tn, D.m.map tn)) ∨
    (e = .returned (.tuple #[.agg #[.slice none 0 0, .slice none 0 0], .int .i64 100]) ∧ r = none))

theorem chg_putObj {T : Addr → Prop} {N l : Nat} (W : World) (o o' : Obj) (hl : N ≤ l) (h : W.heap[l]? = some o) (hc : o.isCells = false) : Chg T N W (W.putObj l o') := by
  have hg := grownBy_putObj' W l o'
  have hr : ∀ r, some l = some r → ∃ o : Obj, W.heap[r]? = some o ∧ o.isCells = false := fun r e => by cases e; exact ⟨o, h, hc⟩
  refine ⟨hg.size, fun p v _ hv => cell_kept hv hg hr, fun p v _ hv hf => (frozen_kept hv hg hr).trans hf, fun b cs t f _ hb => ?_, fun w0 hle x => Below.grown x hg x.size fun k e => by cases e; omega⟩
  refine (hg.block b (Array.getElem?_eq_some_iff.1 hb).1 fun e => ?_).trans hb
  cases e
  rw [h] at hb
  cases hb
  cases hc
theorem blk_kept10 {W W' : World} {row : Option Nat} {B : Nat} {t : TypeId} {cs : List Value} (h : Blk W B t cs) (hg : W.grownBy W' row) (hr : ∀ r, row = some r → ∃ o : Obj, W.heap[r]? = some o ∧ o.isCells = false) : Blk W' B t cs := by
  refine (hg.block B h.lt fun e => ?_).trans h
  obtain ⟨o, ho, hc⟩ := hr B e.symm
  rw [show W.heap[B]? = _ from h] at ho
  cases ho
  cases hc
theorem blk_put10 {W : World} {B l : Nat} {t : TypeId} {cs : List Value} {o : Obj} (o' : Obj) (h : Blk W B t cs) (hl : W.heap[l]? = some o) (ho : o.isCells = false) : Blk (W.putObj l o') B t cs :=
  blk_kept10 h (grownBy_putObj' W l o') fun r e => by cases e; exact ⟨o, hl, ho⟩
theorem ext_put10 {w W : World} {l : Nat} (o' : Obj) (x : Ext w W) (hl : w.heap.size ≤ l) : Ext w (W.putObj l o') :=
  Below.grown x (grownBy_putObj' W l o') x.size fun k e => by cases e; exact hl
theorem row_kept10 {W W' : World} {row : Option Nat} {base : Nat} {e : TypeId} {size n : Nat} {v : Value} {xs : List Value} (h : W.ownsRow base e size v n xs) (hg : W.grownBy W' row) (hr : ∀ r, row = some r → ∃ o : Obj, W.heap[r]? = some o ∧ o.isCells = false) : W'.ownsRow base e size v n xs :=
  (Kp.of_grown hg).row h fun g e1 e2 => by
    obtain ⟨o, ho, hc⟩ := hr g e2.symm
    rw [row_cells h g o e1 ho] at hc
    cases hc
theorem PB.kept {B g : Nat} {W W' : World} {vl vm : Value} {l m : List WP} {row : Option Nat} (h : PB B g W vl vm l m) (hg : W.grownBy W' row) (hr : ∀ r, row = some r → ∃ o : Obj, W.heap[r]? = some o ∧ o.isCells = false) : PB B g W' vl vm l m :=
  ⟨blk_kept10 h.box hg hr, h.gB, Nat.le_trans h.bw hg.size, row_kept10 h.rl hg hr, row_kept10 h.rm hg hr, h.lm, fun x hx => by
    have y := h.inn x hx
    refine ⟨y.room, y.most, fun k v hv => ?_, fun ad e => ?_⟩
    · obtain ⟨ad, e, hb, hc⟩ := y.seen k v hv
      exact ⟨ad, e, Nat.lt_of_lt_of_le hb hg.size, cell_kept hc hg hr⟩
    · obtain ⟨a, b, c⟩ := y.at' ad e
      exact ⟨a, Nat.lt_of_lt_of_le b hg.size, c⟩⟩
theorem PB.far {B g : Nat} {W : World} {vl vm : Value} {l m : List WP} (h : PB B g W vl vm l m) (p : Addr) (hb : p.block < B) (hg : p.block ≠ g) (u : Value) : PB B g (W.setCell p u) vl vm l m := by
  have K := Kp.set W p u
  refine ⟨h.box.far hg u, h.gB, Nat.le_trans h.bw K.size, ownsRow_setCell_below h.rl hb u, ownsRow_setCell_below h.rm hb u, h.lm, fun x hx => ?_⟩
  have y := h.inn x hx
  refine ⟨y.room, y.most, fun k v hv => ?_, fun ad e => ?_⟩
  · obtain ⟨ad, e, hlt, hc⟩ := y.seen k v hv
    obtain ⟨a, _⟩ := y.at' ad e
    refine ⟨ad, e, Nat.lt_of_lt_of_le hlt K.size, ?_⟩
    rw [World.cell?_setCell_other _ _ _ _ (fun e => by
      have e' : p.block = (ad.add k).block := by rw [← e]
      rw [addr_block] at e'
      omega)]
    exact hc
  · obtain ⟨a, b, c⟩ := y.at' ad e
    exact ⟨a, Nat.lt_of_lt_of_le b K.size, c⟩
theorem PB.look {B g : Nat} {W : World} {Al Am : Option Addr} {cl cm : Nat} {l m : List WP} (h : PB B g W (.slice Al l.length cl) (.slice Am m.length cm) l m) : SeenPats W ⟨l, m⟩ ⟨Al, cl, Am, cm⟩ := by
  obtain ⟨A1, c1, e1, _, _, s1⟩ := row_slice h.rl
  cases e1
  obtain ⟨A2, c2, e2, _, _, s2⟩ := row_slice h.rm
  cases e2
  exact ⟨seenW_of s1 fun x hx => (h.inn x (List.mem_append.2 (.inl hx))).seen, seenW_of s2 fun x hx => (h.inn x (List.mem_append.2 (.inr hx))).seen⟩
theorem parseS_append (b : List (List UInt8)) : ∀ (a : List (List UInt8)) (st : LL), parseS st (a ++ b) = (parseS st a).bind fun st' => parseS st' b
  | [], st => by simp [parseS]
  | w :: r, st => by
    simp only [List.cons_append, parseS]
    cases addW st w with
    | none => rfl
    | some st' => exact parseS_append b r st'
theorem parseS_snoc {pre : List (List UInt8)} {st st' : LL} {x : List UInt8} (h : parseS st pre = some st') : parseS st (pre ++ [x]) = addW st' x := by
  rw [parseS_append, h]
  simp only [Option.bind_some, parseS]
  cases addW st' x <;> rfl
theorem addW_length {st st' : LL} {x : List UInt8} (h : addW st x = some st') : st'.1.length + st'.2.length = st.1.length + st.2.length + 1 := by
  unfold addW at h
  split at h
  · cases h; simp; omega
  · split at h
    · cases h; simp; omega
    · cases h
theorem parseV_no {t : List UInt8} {pre post : List (List UInt8)} (h : pre ++ post = wordsL t) (hno : parseS ([], []) pre = none ∨ 300 < pre.length) : parseV t = none := by
  unfold parseV
  split
  · rename_i h3
    rcases hno with h1 | h1
    · rw [← h, parseS_append, h1]; rfl
    · rw [← h, List.length_append] at h3; omega
  · rfl

set_option maxRecDepth 100000 in
set_option maxHeartbeats 8000000 in
theorem parse_any (A : Option Addr) (t : List UInt8) (c : Nat) (w : World) (ht : SeenB w A t) (hn : t.length ≤ 1000000) (hT : Tabs w) (h2 : 2 ≤ w.heap.size) :
    Calls Tryd.prog 10 #[.slice A t.length c] w (ParseQ w (parseV t)) := by
  obtain ⟨WA, hWA⟩ : ∃ WA, WA = (((w.alloc (.cells #[.slice none 0 0, .slice none 0 0] 27)).alloc (.cells #[.int .i64 0] 28)).alloc (.cells #[.slice none 0 0, .slice none 0 0] 27)) := ⟨_, rfl⟩
  have X0 : Ext w WA := by rw [hWA]; exact (((Ext.refl w).alloc _).alloc _).alloc _
  have kR : Blk WA w.heap.size 27 [.slice none 0 0, .slice none 0 0] := by rw [hWA]; exact ((Blk.lit _ _ _ _ rfl).ext ((Ext.refl _).alloc _)).ext ((Ext.refl _).alloc _)
  have kE : Blk WA (w.heap.size + 1) 28 [.int .i64 0] := by rw [hWA]; exact (Blk.lit _ _ _ _ (by simp)).ext ((Ext.refl _).alloc _)
  have kP : Blk WA (w.heap.size + 1 + 1) 27 [.slice none 0 0, .slice none 0 0] := by rw [hWA]; exact Blk.lit _ _ _ _ (by simp)
  have hz : WA.heap.size = w.heap.size + 1 + 1 + 1 := by rw [hWA]; simp
  have hstr := SeenB.str (P := Tryd.prog) (ht.ext X0) 22 9 5 c t.length Tryd.underlying22 Tryd.underlying5 Tryd.underlying9 rfl
  obtain ⟨s, hs⟩ : ∃ s : ByteArray, s = ⟨t.toArray⟩ := ⟨_, rfl⟩
  have hst : s.data.toList = t := by rw [hs]
  have hss : s.size ≤ 1000000 := by rw [← list_len, hst]; exact hn
  rw [← hs] at hstr
  clear hs
  obtain ⟨n, hnn⟩ : ∃ n, n = t.length := ⟨_, rfl⟩
  rw [← hnn] at hstr ⊢
  clear hnn hn ht
  have HST := Lib.hid hst
  clear hst
  refine (callsIn_wide (n := 9)).1 (callsIn_of_wp_marks Tryd.func10 rfl trivial ?_ rfl)
  refine wpIn_wide.2 ?_
  simp only [Tryd.ntmps10, List.size_toArray, List.length_cons, List.length_nil, Nat.reduceAdd, Nat.reduceSub, Array.replicate_succ, Array.replicate_zero, List.push_toArray, List.append_toArray, List.nil_append, List.cons_append]
  rw [hWA] at hstr
  go_wp2_with fail
  rw [← hWA]
  refine (seq_any s WA).mono ?_
  rintro e w1 ⟨rfl, hw1⟩
  have x1 : Ext WA w1 := by rw [hw1]; exact ((Ext.refl _).alloc _).alloc _
  have hz1 : w1.heap.size = w.heap.size + 1 + 1 + 1 + 1 + 1 := by rw [hw1]; simp; omega
  rw [hz]
  have kS : Blk w1 (w.heap.size + 1 + 1 + 1) 9 [.string s] := by rw [hw1]; exact (Blk.lit _ _ _ _ hz.symm).ext ((Ext.refl _).alloc _)
  have kG : Blk w1 (w.heap.size + 1 + 1 + 1 + 1) 49 [.func (.func 20) #[] #[]] := by rw [hw1]; exact Blk.lit _ _ _ _ (by simp; omega)
  clear hw1 hWA
  have kR := kR.ext x1
  have kE := kE.ext x1
  have kP := kP.ext x1
  have X1 := X0.trans x1
  have HT1 := hT.ext X1
  clear x1 X0 hstr
  generalize hb1 : w.heap.size + 1 = b1 at *
  generalize hb2 : b1 + 1 = b2 at *
  generalize hb3 : b2 + 1 = b3 at *
  generalize hb4 : b3 + 1 = b4 at *
  generalize hb0 : w.heap.size = b0 at *
  go_wp2_with fail
  have FS := fields_stops (9 - 1) b3 s hss (TG b2 (b4 + 1)) b0 (fun p h => by
    rcases h with h | h
    · omega
    · omega) w1 (kS.cell 0) (by rw [hb4]; exact kG.cell 0) HT1
  rw [hb4] at FS
  refine wpIn_wide.1 (wpIn_rangeFunc_ownH (n := 9) (F := Fence.wide) rfl (by omega) (gf := 33) (lb := #[.pointer (some ⟨b3, 0, none⟩), .pointer (some ⟨b4, 0, none⟩)]) rfl trivial (enters_of Tryd.func33 (by kernel_rfl) rfl)
    FS (fun h k => Chg.trans h k) (fun W l' o o' hl h1 h2 _ => chg_putObj W o o' (by omega) h1 h2) (Below.refl _ _) (fun _ => rfl)
    (fun pre W => ((∃ vl vm l m, PB (b4 + 1) b2 W vl vm l m ∧ parseS ([], []) pre = some (l.map tn, m.map tn) ∧ l.length + m.length = pre.length ∧ pre.length ≤ 300) ∧ Blk W b0 27 [.slice none 0 0, .slice none 0 0] ∧ Blk W b1 28 [.int .i64 0]) ∧ Ext w W)
    (fun cd pre W => (cd = .ret ∧ (parseS ([], []) pre = none ∨ 300 < pre.length) ∧ Blk W b0 27 [.slice none 0 0, .slice none 0 0] ∧ Blk W b1 28 [.int .i64 100]) ∧ Ext w W)
    (fun pre X Y row hs hg hr => by
      have hr2 : ∀ r, row = some r → ∃ o : Obj, X.heap[r]? = some o ∧ o.isCells = false := fun r e => (hr r e).2
      obtain ⟨⟨⟨vl, vm, l, m, h1, h2, h3, h4⟩, h5, h6⟩, h8⟩ := hs
      exact ⟨⟨⟨vl, vm, l, m, h1.kept hg hr2, h2, h3, h4⟩, blk_kept10 h5 hg hr2, blk_kept10 h6 hg hr2⟩, Below.grown h8 hg h8.size (fun k e => by have := (hr k e).1; omega)⟩)
    (fun cd pre X Y row hs hg hr => by
      have hr2 : ∀ r, row = some r → ∃ o : Obj, X.heap[r]? = some o ∧ o.isCells = false := fun r e => (hr r e).2
      obtain ⟨⟨h1, h2, h3, h4⟩, h8⟩ := hs
      exact ⟨⟨h1, h2, blk_kept10 h3 hg hr2, blk_kept10 h4 hg hr2⟩, Below.grown h8 hg h8.size (fun k e => by have := (hr k e).1; omega)⟩)
    ⟨⟨⟨.slice none 0 0, .slice none 0 0, [], [], ⟨kP, by omega, by omega, World.ownsRow_nil _ _ _ _, World.ownsRow_nil _ _ _ _, fun n e => (by cases e), fun x hx => (by simp at hx)⟩, rfl, rfl, by simp⟩, kR, kE⟩, X1⟩
    (fun x a' _ => a' = { tmps := #[.slice A n c, undef, .pointer (some ⟨b0, 0, none⟩), .pointer (some ⟨b1, 0, none⟩), .pointer (some ⟨b2, 0, none⟩), .string ⟨x.toArray⟩, .slice A n c, .string s, .func (.func 33) #[] #[.pointer (some ⟨b3, 0, none⟩), .pointer (some ⟨b4, 0, none⟩)], .string ⟨x.toArray⟩, undef, undef, undef, undef, undef, undef, undef, undef, undef, undef, undef, undef, undef, undef, undef], defers := [] })
    (fun x a' _ X Y row hs _ _ => hs)
    ?assign ?body ?done ?stop)
  case assign =>
    rintro l' pre x W K ⟨⟨⟨vl, vm, l, m, h1, h2, h3, h4⟩, h5, h6⟩, h8⟩ hK
    gi_wp2
    exact hK _ _ ((KeepsOthers.refl _).from _) (Chg.refl _ _ _) ⟨⟨⟨vl, vm, l, m, h1, h2, h3, h4⟩, h5, h6⟩, h8⟩ rfl
  case body =>
    rintro l' pre x a' W hl _ ⟨⟨⟨vl, vm, l, m, h1, h2, h3, h4⟩, h5, h6⟩, h8⟩ rfl hlt
    obtain ⟨Al, cl, rfl, _, _, _⟩ := row_slice h1.rl
    obtain ⟨Am, cm, rfl, _, _, _⟩ := row_slice h1.rm
    have p0 : W.cell? ⟨b2, 0, none⟩ = some (.slice Al l.length cl) := h1.box.cell 0
    have p1 : W.cell? ⟨b2, 1, none⟩ = some (.slice Am m.length cm) := h1.box.cell 1
    have q0 : W.cell? ⟨b0, 0, none⟩ = some (.slice none 0 0) := h5.cell 0
    have q1 : W.cell? ⟨b0, 1, none⟩ = some (.slice none 0 0) := h5.cell 1
    have q2 : W.cell? ⟨b1, 0, none⟩ = some (.int .i64 0) := h6.cell 0
    have f0 := h5.free 0
    have f1 := h5.free 1
    have f2 := h6.free 0
    have SN := Lib.hid (parseS_snoc h2 (x := x))
    have FAIL := Lib.hid (fun (w4 : World) (hk4 : KeepsOthers W w4) (hx4 : Ext w w4) (g5 : Blk w4 b0 27 [.slice none 0 0, .slice none 0 0]) (g6 : Blk w4 b1 28 [.int .i64 0]) (hno : parseS ([], []) (pre ++ [x]) = none ∨ 300 < (pre ++ [x]).length) =>
      (show KeepsFrom w1.heap.size W (((w4.setCell ⟨b0, 0, none⟩ (.slice none 0 0)).setCell ⟨b0, 1, none⟩ (.slice none 0 0)).setCell ⟨b1, 0, none⟩ (.int .i64 100)) ∧
        (Code.ret = Code.ret ∧ (parseS ([], []) (pre ++ [x]) = none ∨ 300 < (pre ++ [x]).length) ∧ Blk (((w4.setCell ⟨b0, 0, none⟩ (.slice none 0 0)).setCell ⟨b0, 1, none⟩ (.slice none 0 0)).setCell ⟨b1, 0, none⟩ (.int .i64 100)) b0 27 [.slice none 0 0, .slice none 0 0] ∧ Blk (((w4.setCell ⟨b0, 0, none⟩ (.slice none 0 0)).setCell ⟨b0, 1, none⟩ (.slice none 0 0)).setCell ⟨b1, 0, none⟩ (.int .i64 100)) b1 28 [.int .i64 100]) ∧ Ext w (((w4.setCell ⟨b0, 0, none⟩ (.slice none 0 0)).setCell ⟨b0, 1, none⟩ (.slice none 0 0)).setCell ⟨b1, 0, none⟩ (.int .i64 100)) from
        ⟨(((hk4.trans (KeepsOthers.setCell _ _ _)).trans (KeepsOthers.setCell _ _ _)).trans (KeepsOthers.setCell _ _ _)).from _,
          ⟨rfl, hno, ((g5.set 0 (.slice none 0 0)).set 1 (.slice none 0 0)).far (p := ⟨b1, 0, none⟩) (by show b1 ≠ b0; omega) _, ((g6.far (p := ⟨b0, 0, none⟩) (by show b0 ≠ b1; omega) _).far (p := ⟨b0, 1, none⟩) (by show b0 ≠ b1; omega) _).set 0 (.int .i64 100)⟩,
          ((hx4.setCell (p := ⟨b0, 0, none⟩) (by show _ ≤ b0; omega) _).setCell (p := ⟨b0, 1, none⟩) (by show _ ≤ b0; omega) _).setCell (p := ⟨b1, 0, none⟩) (by show _ ≤ b1; omega) _⟩))
    have HB := Lib.hid h1
    have H5 := Lib.hid h5
    have H6 := Lib.hid h6
    have H8 := Lib.hid h8
    have hb10 : b1 ≠ b0 := by omega
    clear h1 h2 h5 h6 h8
    by_cases h300 : l.length + m.length = 300
    · have e300 : (((l.length : Int) + (m.length : Int)) == 300) = true := by simp; omega
      have hll : (l.length : Int) ≤ 300 := by omega
      have hlm : (m.length : Int) ≤ 300 := by omega
      have F := Lib.hid (FAIL.out W (KeepsOthers.refl _) H8.out H5.out H6.out (.inr (by rw [List.length_append]; simp; omega)))
      clear FAIL h3 h4 h300
      gi_wp2
      refine ⟨trivial, ?_⟩
      gi_wp2
      obtain ⟨g1, ⟨_, g2, g3⟩, g4⟩ := F.out
      exact ⟨g1, ⟨rfl, g2, g3⟩, g4⟩
    · have e300 : (((l.length : Int) + (m.length : Int)) == 300) = false := by simp; omega
      have hll : (l.length : Int) ≤ 300 := by omega
      have hlm : (m.length : Int) ≤ 300 := by omega
      have C := Lib.hid (add_any b0 (b4 + 1) b2 ⟨x.toArray⟩ W _ _ l m HB.out (by omega) (by omega) (by omega))
      have hpl : pre.length + 1 ≤ 300 := by omega
      have H3 := Lib.hid h3
      clear h3 h4 h300
      gi_wp2
      refine ⟨trivial, ?_⟩
      refine (CallsIn.inRound l' (callsIn_wide.2 C.out)).mono ?_
      rintro e w4 ⟨hk4, hc4, (⟨vl', vm', l2, m2, rfl, hPB, hadd⟩ | ⟨rfl, hadd⟩)⟩
      · have G := Lib.hid (show KeepsFrom w1.heap.size W w4 ∧ Chg (TG b2 (b4 + 1)) b0 W w4 ∧ ((∃ vl vm l m, PB (b4 + 1) b2 w4 vl vm l m ∧ parseS ([], []) (pre ++ [x]) = some (l.map tn, m.map tn) ∧ l.length + m.length = (pre ++ [x]).length ∧ (pre ++ [x]).length ≤ 300) ∧ Blk w4 b0 27 [.slice none 0 0, .slice none 0 0] ∧ Blk w4 b1 28 [.int .i64 0]) ∧ Ext w w4 from by
          have hlen := addW_length hadd
          simp only [List.length_map] at hlen
          refine ⟨hk4.from _, hc4, ⟨⟨vl', vm', l2, m2, hPB, SN.out.trans hadd, ?_, ?_⟩, hc4.blk _ _ _ _ (fun o h => ?_) H5.out, hc4.blk _ _ _ _ (fun o h => ?_) H6.out⟩, hc4.old w (by omega) H8.out⟩
          · rw [List.length_append, ← H3.out]; simpa using hlen
          · rw [List.length_append]; simpa using hpl
          · rcases h with h | h
            · have h : b0 = b2 := h; omega
            · have h : b4 + 1 ≤ b0 := h; omega
          · rcases h with h | h
            · have h : b1 = b2 := h; omega
            · have h : b4 + 1 ≤ b1 := h; omega)
        clear hk4 hc4 hPB hadd FAIL C
        gi_wp2
        exact G.out
      · have nT0 : ∀ o, ¬ TG b2 (b4 + 1) ⟨b0, o, none⟩ := fun o h => by
          rcases h with h | h
          · have h : b0 = b2 := h; omega
          · have h : b4 + 1 ≤ b0 := h; omega
        have nT1 : ∀ o, ¬ TG b2 (b4 + 1) ⟨b1, o, none⟩ := fun o h => by
          rcases h with h | h
          · have h : b1 = b2 := h; omega
          · have h : b4 + 1 ≤ b1 := h; omega
        have g5 : Blk w4 b0 27 [.slice none 0 0, .slice none 0 0] := hc4.blk _ _ _ _ nT0 H5.out
        have g6 : Blk w4 b1 28 [.int .i64 0] := hc4.blk _ _ _ _ nT1 H6.out
        have F := Lib.hid (FAIL.out w4 hk4 (hc4.old w (by omega) H8.out) g5 g6 (.inl (SN.out.trans hadd)))
        have q0 : w4.cell? ⟨b0, 0, none⟩ = some (.slice none 0 0) := g5.cell 0
        have q1 : w4.cell? ⟨b0, 1, none⟩ = some (.slice none 0 0) := g5.cell 1
        have q2 : w4.cell? ⟨b1, 0, none⟩ = some (.int .i64 0) := g6.cell 0
        have f0 := g5.free 0
        have f1 := g5.free 1
        have f2 := g6.free 0
        clear hk4 hc4 hadd FAIL C g5 g6 nT0 nT1
        gi_wp2
        obtain ⟨g1, ⟨_, g2, g3⟩, g4⟩ := F.out
        exact ⟨g1, ⟨rfl, g2, g3⟩, g4⟩
  case done =>
    rintro D0 ys W hD0 rfl ⟨⟨⟨vl, vm, l, m, h1, h2, h3, h4⟩, h5, h6⟩, h8⟩ hK
    obtain ⟨Al, cl, rfl, hl1, hl2, sl⟩ := row_slice h1.rl
    obtain ⟨Am, cm, rfl, hm1, hm2, sm⟩ := row_slice h1.rm
    have p0 : W.cell? ⟨b2, 0, none⟩ = some (.slice Al l.length cl) := h1.box.cell 0
    have p1 : W.cell? ⟨b2, 1, none⟩ = some (.slice Am m.length cm) := h1.box.cell 1
    have q0 : W.cell? ⟨b0, 0, none⟩ = some (.slice none 0 0) := h5.cell 0
    have q1 : W.cell? ⟨b0, 1, none⟩ = some (.slice none 0 0) := h5.cell 1
    have q2 : W.cell? ⟨b1, 0, none⟩ = some (.int .i64 0) := h6.cell 0
    have f0 := h5.free 0
    have f1 := h5.free 1
    have f2 := h6.free 0
    have HK := Lib.hid hK
    have HB := Lib.hid h1
    have H5 := Lib.hid h5
    have H6 := Lib.hid h6
    have H8 := Lib.hid h8
    have hb10 : b1 ≠ b0 := by omega
    have HV := Lib.hid (show parseV t = some (l.map tn, m.map tn) by rw [parseV, ← HST.out, if_pos h4, h2])
    clear hK h2 h1 h5 h6 h8 sl sm h3 h4
    go_wp2_with fail
    obtain ⟨WF, hWF⟩ : ∃ WF, WF = ((W.setCell ⟨b0, 0, none⟩ (.slice Al l.length cl)).setCell ⟨b0, 1, none⟩ (.slice Am m.length cm)).setCell ⟨b1, 0, none⟩ (.int .i64 0) := ⟨_, rfl⟩
    rw [← hWF]
    have k0 : Blk WF b0 27 [.slice Al l.length cl, .slice Am m.length cm] := by
      rw [hWF]; exact ((H5.out.set 0 (.slice Al l.length cl)).set 1 (.slice Am m.length cm)).far (p := ⟨b1, 0, none⟩) (by show b1 ≠ b0; omega) _
    have k1 : Blk WF b1 28 [.int .i64 0] := by
      rw [hWF]; exact ((H6.out.far (p := ⟨b0, 0, none⟩) (by show b0 ≠ b1; omega) _).far (p := ⟨b0, 1, none⟩) (by show b0 ≠ b1; omega) _).set 0 (.int .i64 0)
    have x9 : Ext w WF := by
      rw [hWF]; exact ((H8.out.setCell (p := ⟨b0, 0, none⟩) (by show _ ≤ b0; omega) _).setCell (p := ⟨b0, 1, none⟩) (by show _ ≤ b0; omega) _).setCell (p := ⟨b1, 0, none⟩) (by show _ ≤ b1; omega) _
    have hPB : PB (b4 + 1) b2 WF (.slice Al l.length cl) (.slice Am m.length cm) l m := by
      rw [hWF]; exact ((HB.out.far ⟨b0, 0, none⟩ (by show b0 < _; omega) (by show b0 ≠ b2; omega) _).far ⟨b0, 1, none⟩ (by show b0 < _; omega) (by show b0 ≠ b2; omega) _).far ⟨b1, 0, none⟩ (by show b1 < _; omega) (by show b1 ≠ b2; omega) _
    have hK9 : WF.heap[D0]? = some (.deferred (some [])) := by
      rw [hWF]; exact (((KeepsOthers.setCell _ _ _).trans (KeepsOthers.setCell _ _ _)).trans (KeepsOthers.setCell _ _ _)).same D0 _ HK.out rfl
    clear hWF
    have hr : ∀ r, some D0 = some r → ∃ o : Obj, WF.heap[r]? = some o ∧ o.isCells = false := fun r e => by cases e; exact ⟨_, hK9, rfl⟩
    refine ⟨by simp, .inl ⟨_, _, rfl, run_takeDeferred hK9, ⟨_, results_box_one rfl _ _ b0 b1 [.slice Al l.length cl, .slice Am m.length cm] (.int .i64 0) rfl rfl (blk_put10 _ k0 hK9 rfl).range ((blk_put10 _ k1 hK9 rfl).cell 0) (Tryd.isAgg27 _) (Tryd.sizeOf27 _) (Tryd.isAgg28 _), ext_put10 _ x9 (by omega), .inl ⟨⟨l, m⟩, ⟨Al, cl, Am, cm⟩, rfl, (hPB.kept (grownBy_putObj' _ D0 _) hr).look, hl1, hl2, hm1, hm2, fun x hx => ?_, HV.out⟩⟩⟩⟩
    have := hPB.inn x hx
    exact ⟨this.room, this.most⟩
  case stop =>
    rintro D0 cd pre W hD0 ⟨post, hS⟩ ⟨⟨rfl, hL, h5, h6⟩, h8⟩ hK
    have HK := Lib.hid hK
    have HV := Lib.hid (show parseV t = none from parseV_no (by rw [← HST.out]; exact hS) hL)
    clear hK hS hL
    gi_wp2
    refine ⟨by simp, .inl ⟨_, _, rfl, run_takeDeferred HK.out, ⟨_, results_box_one rfl _ _ b0 b1 [.slice none 0 0, .slice none 0 0] (.int .i64 100) rfl rfl (blk_put10 _ h5 HK.out rfl).range ((blk_put10 _ h6 HK.out rfl).cell 0) (Tryd.isAgg27 _) (Tryd.sizeOf27 _) (Tryd.isAgg28 _), ext_put10 _ h8 (by omega), .inr ⟨rfl, HV.out⟩⟩⟩⟩
end L10
end Go.Proofs.YtijhabhnhglhgaaDoor

