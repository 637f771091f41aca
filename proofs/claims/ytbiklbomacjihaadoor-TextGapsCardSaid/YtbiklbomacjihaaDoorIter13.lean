/- The landed words of layer 13: an iterator over an iterator. Written by gen13/iter.py. -/
import Derived.Test.YtbiklbomacjihaaDoorSeq13
import Derived.Test.YtbiklbomacjihaaDoorOver13
import Derived.Test.YtbiklbomacjihaaDoorTextE13
namespace Go.Proofs.YtbiklbomacjihaaDoor
open Go.RowKit
namespace L13
open L10 (gapB wordsGo wordsL)

attribute [local go_sem] Oper.semAt_some

theorem words_any (A : Option Addr) (n c : Nat) (w : World) : Calls Tryd.prog 20 #[.slice A n c] w (fun e w' =>
    e = .returned (.func (.func 28) #[] #[.pointer (some ⟨w.heap.size, 0, none⟩)]) ∧ w' = w.alloc (.cells #[.slice A n c] 22)) := by
  go_enter Tryd.func20, Tryd.ntmps20
  go_wp2_with fail
  go_ret
  exact ⟨rfl, rfl⟩
/-- A word that is handed over, and whether it may be. -/
abbrev WB := CW × Bool
def encW (x : WB) : Array Value := #[cwV x.1, .bool x.2]
def keyW (x : WB) : Option TW := if x.2 = true then some (tw x.1) else none
def okW (t : List UInt8) : Option TW := if wordB (ofL t) = true then some (ofL t) else none
/-- What is known of it where it is handed over. -/
def VW (x : WB) (W : World) : Prop := x.2 = true → SeenL W x.1.A x.1.cs ∧ SeenL W x.1.B x.1.ss ∧ x.1.Ok ∧ Typed W x.1.A ∧ Typed W x.1.B
theorem yield_any {m m' l : Nat} {P : Program} {args : Array Value} {W : World} {R : Ending → World → Prop} (h : YieldAt Fence.wide m P l args W R) : YieldAt Fence.wide m' P l args W R := by
  obtain ⟨fn, tmps, assign, body, hy, hR⟩ := h
  exact ⟨fn, tmps, assign, body, hy, hR.1, fun c cs _ => hR.2 c cs (room_wide _)⟩
theorem own_ext {β : Type} {B : Nat} {I : β → World → Prop} (h : OwnFrom B I) {s : β} {W W' : World} (hs : I s W) (x : Ext W W') : I s W' := h s W W' none hs ⟨x.os, x.tape, x.output, x.size, fun k hk _ => x.block k hk⟩ (fun r e => by cases e)
theorem keeps_ext {B : Nat} {W W' : World} (x : Ext W W') : KeepsFrom B W W' := ⟨x.size, fun k _ _ hk _ => (x.block k (Array.getElem?_eq_some_iff.1 hk).1).trans hk⟩
theorem keeps_mono {B B' : Nat} {W W' : World} (h : KeepsFrom B W W') (hB : B ≤ B') : KeepsFrom B' W W' := ⟨h.size, fun k o hk => h.same k o (Nat.le_trans hB hk)⟩
theorem blk_row {W W' : World} {g : Nat} {t : TypeId} {cs : List Value} {row : Option Nat} (h : Blk W g t cs) (hg : W.grownBy W' row) (hr : ∀ r, row = some r → ∃ o : Obj, W.heap[r]? = some o ∧ o.isCells = false) : Blk W' g t cs := (grownBy_keeps_cells hg hr h rfl).trans h
theorem ext_row {w W W' : World} {row : Option Nat} (h : Ext w W) (hg : W.grownBy W' row) (hr : ∀ r, row = some r → w.heap.size ≤ r) : Ext w W' := Below.grown h hg h.size (fun k e => hr k e)
theorem chg_loop {T : Addr → Prop} {N l : Nat} (W : World) (r r' : Loop) (hl : N ≤ l) (h : W.heap[l]? = some (.loop r)) : Chg T N W (W.putObj l (.loop r')) := by
  have hg := grownBy_putObj' W l (.loop r')
  have hr : ∀ k, some l = some k → ∃ o : Obj, W.heap[k]? = some o ∧ o.isCells = false := fun k e => by cases e; exact ⟨_, h, rfl⟩
  exact ⟨by simp, fun p v _ hc => cell_kept hc hg hr, fun p v _ hc hf => (frozen_kept hc hg hr).trans hf, fun b cs t f _ hc => (grownBy_keeps_cells hg hr hc rfl).trans hc, fun w0 hw x => ext_row x hg (fun k e => by cases e; omega)⟩
theorem span_seen {w : World} {A : Option Addr} {l : List UInt8} (h : SeenB w A l) (p : Span l.length) : ∃ A2 n2, spanV A p = .slice A2 n2 n2 ∧ SeenB w A2 (cutL l p) ∧ n2 = (cutL l p).length := by
  obtain ⟨⟨k, i⟩, h1, h2⟩ := p
  refine ⟨A.map (·.add k), i - k, rfl, ?_, by simp only [cutL, List.length_take, List.length_drop]; omega⟩
  have h3 := h.cut (k := k) (cap := l.length + 1) (by omega) (by omega)
  rw [cutA, if_neg (by omega)] at h3
  exact h3.take (i - k)
set_option maxRecDepth 100000 in
set_option maxHeartbeats 8000000 in
theorem words_in (n l0 tb : Nat) (hn : 4 ≤ n) (A : Option Addr) (l : List UInt8) (m c : Nat) (hm : m = l.length) (hm1 : m ≤ 800000) (hc : m ≤ c) (hc1 : c ≤ maxLen) (w0 : World) (hs : SeenB w0 A l) (ht : Tabs w0) (T : Addr → Prop) (N D : Nat) (hN : w0.heap.size ≤ N)
    (W : World) (J Jx : List WB → World → Prop) (hx : Ext w0 W) (kt : Blk W tb 22 [.slice A m c]) (hD : D ≤ W.heap.size) (hNW : N ≤ W.heap.size) (hT : ∀ p, T p → p.block ≠ tb ∧ p.block ≠ W.heap.size ∧ p.block ≠ W.heap.size + 1 ∧ p.block ≠ W.heap.size + 2)
    (hJ : OwnFrom W.heap.size J) (hJx : OwnFrom W.heap.size Jx)
    (hY : ∀ pre x W1, J pre W1 → VW x W1 → W.heap.size + 3 ≤ W1.heap.size → pre.length < (wordsL l).length → YieldAt Fence.wide (n - 1) Tryd.prog l0 (encW x) W1 fun e W' => (e = .returned (.bool true) ∧ J (pre ++ [x]) W' ∧ Chg T N W1 W' ∧ KeepsFrom D W1 W') ∨ (e = .returned (.bool false) ∧ Jx (pre ++ [x]) W' ∧ KeepsFrom D W1 W'))
    (h0 : J [] W) :
    CallsIn Fence.wide n Tryd.prog 28 #[.func (.yield l0) #[] #[], .pointer (some ⟨tb, 0, none⟩)] W fun e W' => (∃ v, e = .returned v) ∧
      ((∃ xs, xs.map keyW = (wordsL l).map okW ∧ J xs W') ∨ (∃ pre, pre.map keyW <+: (wordsL l).map okW ∧ Jx pre W')) := by
  obtain ⟨WA, hWA⟩ : ∃ WA, WA = W.alloc (.cells #[.func (.yield l0) #[] #[]] 49) := ⟨_, rfl⟩
  have XA : Ext W WA := by rw [hWA]; exact (Ext.refl _).alloc _
  have kY : Blk WA W.heap.size 49 [.func (.yield l0) #[] #[]] := by rw [hWA]; exact Blk.lit _ _ _ _ rfl
  have kT := kt.ext XA
  have hz : WA.heap.size = W.heap.size + 1 := by rw [hWA]; simp
  have J1 := hJ [] W WA none h0 ⟨XA.os, XA.tape, XA.output, XA.size, fun k hk _ => XA.block k hk⟩ (fun r e => by cases e)
  have q0 : WA.cell? ⟨tb, 0, none⟩ = some (.slice A m c) := kT.cell 0
  have HM := Lib.hid hm
  clear hm
  have q1 : W.cell? ⟨tb, 0, none⟩ = some (.slice A m c) := kt.cell 0
  have htb : tb < W.heap.size := kt.lt
  refine callsIn_of_wp_marks Tryd.func28 rfl trivial ?_ rfl
  refine wpIn_wide.2 ?_
  simp only [Tryd.ntmps28, List.size_toArray, List.length_cons, List.length_nil, Nat.reduceAdd, Nat.reduceSub, Array.replicate_succ, Array.replicate_zero, List.push_toArray, List.append_toArray, List.nil_append, List.cons_append]
  go_wp2_with fail
  rw [← hWA]
  refine (seq_any A m c WA).mono ?_
  rintro e w1 ⟨rfl, hw1⟩
  have x1 : Ext WA w1 := by rw [hw1]; exact ((Ext.refl _).alloc _).alloc _
  have hz1 : w1.heap.size = W.heap.size + 1 + 1 + 1 := by rw [hw1]; simp; omega
  have kS : Blk w1 (W.heap.size + 1) 22 [.slice A m c] := by rw [hw1]; exact (Blk.lit _ _ _ _ hz.symm).ext ((Ext.refl _).alloc _)
  have kG : Blk w1 (W.heap.size + 1 + 1) 53 [.func (.func 30) #[] #[]] := by rw [hw1]; exact Blk.lit _ _ _ _ (by simp; omega)
  have kY := kY.ext x1
  have kT := kT.ext x1
  have X1 := XA.trans x1
  have J1 := hJ [] WA w1 none J1 ⟨x1.os, x1.tape, x1.output, x1.size, fun k hk _ => x1.block k hk⟩ (fun r e => by cases e)
  clear hw1 hWA q0 x1 XA
  rw [hz]
  clear hz
  generalize hS : W.heap.size = b0 at *
  go_wp2_with fail
  have HS := Lib.hid hs
  have HT := Lib.hid ht
  refine wpIn_wide.1 (range_over (n := n) (F := Fence.wide) rfl (by omega) (gf := 33) (lb := #[.pointer (some ⟨b0 + 1, 0, none⟩), .pointer (some ⟨b0 + 1 + 1, 0, none⟩)]) rfl trivial (enters_of Tryd.func33 (by kernel_rfl) rfl)
    (encs := fun x : Span l.length => #[spanV A x]) (fun _ => rfl) (V := fun _ _ => True) (Kp := Chg T N) (S := fun xs => xs.map (cutL l) = wordsL l) (Sp := fun pre => pre.map (cutL l) <+: wordsL l) (N := (wordsL l).length)
    (fun pre W' => (∃ ys : List WB, ys.map keyW = (pre.map (cutL l)).map okW ∧ J ys W') ∧ Ext w0 W' ∧ Blk W' b0 49 [.func (.yield l0) #[] #[]] ∧ b0 + 3 ≤ W'.heap.size)
    (fun cd pre W' => cd = .ret ∧ ∃ ys : List WB, ys.map keyW = (pre.map (cutL l)).map okW ∧ Jx ys W')
    (fun x a' _ => a' = { tmps := #[.func (.yield l0) #[] #[], .pointer (some ⟨tb, 0, none⟩), .pointer (some ⟨b0, 0, none⟩), spanV A x, .slice A m c, .func (.func 33) #[] #[.pointer (some ⟨b0 + 1, 0, none⟩), .pointer (some ⟨b0 + 1 + 1, 0, none⟩)], spanV A x, undef, undef, undef, undef, undef, undef, undef], defers := [] })
    (fun pre X Y row h hg hr => by
      have hr2 : ∀ r, row = some r → b0 ≤ r ∧ ∃ o : Obj, X.heap[r]? = some o ∧ o.isCells = false := fun r e => ⟨by have := (hr r e).1; omega, (hr r e).2⟩
      obtain ⟨⟨ys, h1, h2⟩, h3, h4, h5⟩ := h
      exact ⟨⟨ys, h1, hJ ys X Y row h2 hg hr2⟩, ext_row h3 hg (fun r e => by have := (hr2 r e).1; have := hx.size; omega), blk_row h4 hg (fun r e => (hr2 r e).2), Nat.le_trans h5 hg.size⟩)
    (fun cd pre X Y row h hg hr => by
      have hr2 : ∀ r, row = some r → b0 ≤ r ∧ ∃ o : Obj, X.heap[r]? = some o ∧ o.isCells = false := fun r e => ⟨by have := (hr r e).1; omega, (hr r e).2⟩
      obtain ⟨h0, ys, h1, h2⟩ := h
      exact ⟨h0, ys, h1, hJx ys X Y row h2 hg hr2⟩)
    (fun x a' _ X Y row h _ _ => h)
    (fun h k => Chg.trans h k) (fun W' r r' h => chg_loop W' r r' (by omega) h)
    ⟨⟨[], rfl, J1⟩, hx.trans X1, kY, by omega⟩ ?call ?assign ?body ?done ?stop)
  case call =>
    intro W' J' Jx' x' hz' hJ' hJx' hY' h0'
    exact fields_in (n - 1) (w1.heap.size + 1) (b0 + 1) A l m c HM.out (by omega) hc hc1 w0 HS.out HT.out T N hN (Lib.hid (fun p h => ⟨(hT p h).2.2.1, (hT p h).2.2.2⟩)) J' Jx' (fun pre X Y h y => own_ext hJ' h y) (fun pre x W2 h hl => (hY' pre x W2 h trivial hl).mono fun e W3 h => h.elim (fun h => .inl ⟨h.1, h.2.1, h.2.2.1⟩) (fun h => .inr ⟨h.1, h.2.1⟩)) W' ((kS.ext x').cell 0) ((kG.ext x').cell 0) ((hx.trans X1).trans x') h0'
  case assign =>
    intro pre x W' K hi _ hK
    gi_wp2
    exact hK _ _ ((KeepsOthers.refl _).from _) (Chg.refl _ _ _) hi rfl
  case body =>
    rintro pre x a' W' ⟨⟨ys, hys, hj⟩, hx0, kY, hsz⟩ rfl hlt
    obtain ⟨A2, n2, hv, hs2, hn2⟩ := span_seen HS.out x
    have hn2m : n2 ≤ m := by
      have := x.2.2
      simp only [cutL, List.length_take, List.length_drop] at hn2
      rw [HM.out]
      omega
    have HX := Lib.hid (show Ext W' W'.drew from (Ext.refl _).drew)
    have CR := Lib.hid (read_any A2 (cutL l x) n2 n2 W'.drew (hs2.ext (hx0.trans HX.out)) hn2 (by omega))
    have AFTER := Lib.hid (fun (w5 : World) (x5 : Ext W'.drew w5) (y : CW) (hy2 : wordB (ofL (cutL l x)) = true → tw y = ofL (cutL l x) ∧ SeenL w5 y.A y.cs ∧ SeenL w5 y.B y.ss ∧ y.Ok ∧ Typed w5 y.A ∧ Typed w5 y.B) =>
      show YieldAt Fence.wide (n - 1 - 1 - 1) Tryd.prog l0 #[cwV y, .bool (wordB (ofL (cutL l x)))] w5 (fun e W3 => (e = .returned (.bool true) ∧ ownPostG w1.heap.size (Chg T N)
          (fun pre W' => (∃ ys : List WB, ys.map keyW = (pre.map (cutL l)).map okW ∧ J ys W') ∧ Ext w0 W' ∧ Blk W' b0 49 [.func (.yield l0) #[] #[]] ∧ b0 + 3 ≤ W'.heap.size)
          (fun cd pre W' => cd = .ret ∧ ∃ ys : List WB, ys.map keyW = (pre.map (cutL l)).map okW ∧ Jx ys W') (pre ++ [x]) W' .normal { tmps := #[], defers := [] } W3) ∨
        (e = .returned (.bool false) ∧ ownPostG w1.heap.size (Chg T N)
          (fun pre W' => (∃ ys : List WB, ys.map keyW = (pre.map (cutL l)).map okW ∧ J ys W') ∧ Ext w0 W' ∧ Blk W' b0 49 [.func (.yield l0) #[] #[]] ∧ b0 + 3 ≤ W'.heap.size)
          (fun cd pre W' => cd = .ret ∧ ∃ ys : List WB, ys.map keyW = (pre.map (cutL l)).map okW ∧ Jx ys W') (pre ++ [x]) W' .ret { tmps := #[], defers := [] } W3)) from by
      have X5 : Ext W' w5 := HX.out.trans x5
      have key : (ys ++ [(y, wordB (ofL (cutL l x)))]).map keyW = ((pre ++ [x]).map (cutL l)).map okW := by
        rw [List.map_append, List.map_append, List.map_append, hys]
        congr 1
        simp only [List.map_cons, List.map_nil, keyW, okW]
        by_cases hw : wordB (ofL (cutL l x)) = true
        · rw [if_pos hw, if_pos hw, (hy2 hw).1]
        · rw [if_neg hw, if_neg hw]
      have ylen : ys.length = pre.length := by have := congrArg List.length hys; simpa using this
      refine YieldAt.mono (yield_any (hY ys (y, wordB (ofL (cutL l x))) w5 (own_ext hJ hj X5) (fun hw => ?_) (by have := X5.size; omega) (by omega))) fun e W3 h => ?_
      · exact (hy2 hw).2
      · rcases h with ⟨he, h1, h2, h3⟩ | ⟨he, h1, h3⟩
        · exact .inl ⟨he, (keeps_ext X5).trans (keeps_mono h3 (by omega)), (Chg.of_ext X5).trans h2, ⟨_, key, h1⟩, h2.old w0 hN (hx0.trans X5), h2.blk _ _ _ _ (fun o ho => (hT _ ho).2.1 rfl) (kY.ext X5), by have := X5.size; have := h2.size; omega⟩
        · exact .inr ⟨he, (keeps_ext X5).trans (keeps_mono h3 (by omega)), rfl, _, key, h1⟩)
    rw [hv]
    have KY := Lib.hid (fun W2 (x2 : Ext W' W2) => show W2.cell? ⟨b0, 0, none⟩ = some (.func (.yield l0) #[] #[]) from (kY.ext x2).cell 0)
    clear hj hx0 kY hs2 hn2 hys hlt hv hsz
    unfold RdWQ at CR
    generalize wordB (ofL (cutL l x)) = bb at *
    gi_wp2
    refine wpIn_region_any (by kernel_rfl) ?_
    change wpAnyIn _ _ _ _ _ _ _ _ _ (World.drew _)
    have q0 := KY.out _ HX.out
    refine wpAnyIn_ready (rs := [0, 1]) (by kernel_rfl) (by simp) ?_
    refine AllReadyIn.cons rfl (fun K hK => ?_) ?_
    · skip
      go_simp
      refine hK _ _ ?_
      clear hK K
      refine wpAnyIn_ready (rs := [1]) (by kernel_rfl) (by simp) ?_
      refine AllReadyIn.cons rfl (fun K hK => ?_) AllReadyIn.nil
      go_simp
      refine hK _ _ ?_
      clear hK K
      refine wpAnyIn_ready (rs := [2]) (by kernel_rfl) (by simp) ?_
      refine AllReadyIn.cons rfl (fun K hK => ?_) AllReadyIn.nil
      go_simp
      refine ⟨trivial, fun h => (by simp [Fence.wide] at h), (CallsIn.inRound _ (callsIn_wide.2 CR.out)).mono ?_⟩
      rintro e w5 ⟨x5, y, rfl, hy2⟩
      have q5 := KY.out _ (HX.out.trans x5)
      have AF := Lib.hid (AFTER.out w5 x5 y hy2)
      refine hK _ _ ?_
      clear hK K
      refine wpAnyIn_ready (rs := [3, 4]) (by kernel_rfl) (by simp) ?_
      refine AllReadyIn.cons rfl (fun K hK => ?_) ?_
      · skip
        go_simp
        refine hK _ _ ?_
        clear hK K
        refine wpAnyIn_ready (rs := [4]) (by kernel_rfl) (by simp) ?_
        refine AllReadyIn.cons rfl (fun K hK => ?_) AllReadyIn.nil
        go_simp
        refine hK _ _ ?_
        clear hK K
        refine wpAnyIn_ready (rs := [5]) (by kernel_rfl) (by simp) ?_
        refine AllReadyIn.cons rfl (fun K hK => ?_) AllReadyIn.nil
        obtain ⟨fn, tmps, assign, body, hyy, hR⟩ := AF.out
        go_simp
        refine ⟨fun h => (by simp [Fence.wide] at h), RoundIn.mono (F := Fence.wide) hR ?_⟩
        rintro e W3 (⟨rfl, hpost⟩ | ⟨rfl, hpost⟩)
        · refine hK _ _ ?_
          clear hK K hR hyy
          refine wpAnyIn_ready (rs := [6]) (by kernel_rfl) (by simp) ?_
          refine AllReadyIn.cons rfl (fun K hK => ?_) AllReadyIn.nil
          go_simp
          refine hK _ _ ?_
          clear hK K
          refine wpAnyIn_done (by kernel_rfl) ?_ _
          clear q0 q5 AF
          have HPOST := Lib.hid hpost
          clear hpost
          gi_wp2
          exact HPOST.out
        · refine hK _ _ ?_
          clear hK K hR hyy
          refine wpAnyIn_ready (rs := [6]) (by kernel_rfl) (by simp) ?_
          refine AllReadyIn.cons rfl (fun K hK => ?_) AllReadyIn.nil
          go_simp
          refine hK _ _ ?_
          clear hK K
          refine wpAnyIn_done (by kernel_rfl) ?_ _
          clear q0 q5 AF
          have HPOST := Lib.hid hpost
          clear hpost
          gi_wp2
          exact HPOST.out
      refine AllReadyIn.cons rfl (fun K hK => ?_) AllReadyIn.nil
      go_simp
      refine hK _ _ ?_
      clear hK K
      refine wpAnyIn_ready (rs := [3]) (by kernel_rfl) (by simp) ?_
      refine AllReadyIn.cons rfl (fun K hK => ?_) AllReadyIn.nil
      go_simp
      refine hK _ _ ?_
      clear hK K
      refine wpAnyIn_ready (rs := [5]) (by kernel_rfl) (by simp) ?_
      refine AllReadyIn.cons rfl (fun K hK => ?_) AllReadyIn.nil
      obtain ⟨fn, tmps, assign, body, hyy, hR⟩ := AF.out
      go_simp
      refine ⟨fun h => (by simp [Fence.wide] at h), RoundIn.mono (F := Fence.wide) hR ?_⟩
      rintro e W3 (⟨rfl, hpost⟩ | ⟨rfl, hpost⟩)
      · refine hK _ _ ?_
        clear hK K hR hyy
        refine wpAnyIn_ready (rs := [6]) (by kernel_rfl) (by simp) ?_
        refine AllReadyIn.cons rfl (fun K hK => ?_) AllReadyIn.nil
        go_simp
        refine hK _ _ ?_
        clear hK K
        refine wpAnyIn_done (by kernel_rfl) ?_ _
        clear q0 q5 AF
        have HPOST := Lib.hid hpost
        clear hpost
        gi_wp2
        exact HPOST.out
      · refine hK _ _ ?_
        clear hK K hR hyy
        refine wpAnyIn_ready (rs := [6]) (by kernel_rfl) (by simp) ?_
        refine AllReadyIn.cons rfl (fun K hK => ?_) AllReadyIn.nil
        go_simp
        refine hK _ _ ?_
        clear hK K
        refine wpAnyIn_done (by kernel_rfl) ?_ _
        clear q0 q5 AF
        have HPOST := Lib.hid hpost
        clear hpost
        gi_wp2
        exact HPOST.out
    refine AllReadyIn.cons rfl (fun K hK => ?_) AllReadyIn.nil
    go_simp
    refine hK _ _ ?_
    clear hK K
    refine wpAnyIn_ready (rs := [0, 2]) (by kernel_rfl) (by simp) ?_
    refine AllReadyIn.cons rfl (fun K hK => ?_) ?_
    · skip
      go_simp
      refine hK _ _ ?_
      clear hK K
      refine wpAnyIn_ready (rs := [2]) (by kernel_rfl) (by simp) ?_
      refine AllReadyIn.cons rfl (fun K hK => ?_) AllReadyIn.nil
      go_simp
      refine ⟨trivial, fun h => (by simp [Fence.wide] at h), (CallsIn.inRound _ (callsIn_wide.2 CR.out)).mono ?_⟩
      rintro e w5 ⟨x5, y, rfl, hy2⟩
      have q5 := KY.out _ (HX.out.trans x5)
      have AF := Lib.hid (AFTER.out w5 x5 y hy2)
      refine hK _ _ ?_
      clear hK K
      refine wpAnyIn_ready (rs := [3, 4]) (by kernel_rfl) (by simp) ?_
      refine AllReadyIn.cons rfl (fun K hK => ?_) ?_
      · skip
        go_simp
        refine hK _ _ ?_
        clear hK K
        refine wpAnyIn_ready (rs := [4]) (by kernel_rfl) (by simp) ?_
        refine AllReadyIn.cons rfl (fun K hK => ?_) AllReadyIn.nil
        go_simp
        refine hK _ _ ?_
        clear hK K
        refine wpAnyIn_ready (rs := [5]) (by kernel_rfl) (by simp) ?_
        refine AllReadyIn.cons rfl (fun K hK => ?_) AllReadyIn.nil
        obtain ⟨fn, tmps, assign, body, hyy, hR⟩ := AF.out
        go_simp
        refine ⟨fun h => (by simp [Fence.wide] at h), RoundIn.mono (F := Fence.wide) hR ?_⟩
        rintro e W3 (⟨rfl, hpost⟩ | ⟨rfl, hpost⟩)
        · refine hK _ _ ?_
          clear hK K hR hyy
          refine wpAnyIn_ready (rs := [6]) (by kernel_rfl) (by simp) ?_
          refine AllReadyIn.cons rfl (fun K hK => ?_) AllReadyIn.nil
          go_simp
          refine hK _ _ ?_
          clear hK K
          refine wpAnyIn_done (by kernel_rfl) ?_ _
          clear q0 q5 AF
          have HPOST := Lib.hid hpost
          clear hpost
          gi_wp2
          exact HPOST.out
        · refine hK _ _ ?_
          clear hK K hR hyy
          refine wpAnyIn_ready (rs := [6]) (by kernel_rfl) (by simp) ?_
          refine AllReadyIn.cons rfl (fun K hK => ?_) AllReadyIn.nil
          go_simp
          refine hK _ _ ?_
          clear hK K
          refine wpAnyIn_done (by kernel_rfl) ?_ _
          clear q0 q5 AF
          have HPOST := Lib.hid hpost
          clear hpost
          gi_wp2
          exact HPOST.out
      refine AllReadyIn.cons rfl (fun K hK => ?_) AllReadyIn.nil
      go_simp
      refine hK _ _ ?_
      clear hK K
      refine wpAnyIn_ready (rs := [3]) (by kernel_rfl) (by simp) ?_
      refine AllReadyIn.cons rfl (fun K hK => ?_) AllReadyIn.nil
      go_simp
      refine hK _ _ ?_
      clear hK K
      refine wpAnyIn_ready (rs := [5]) (by kernel_rfl) (by simp) ?_
      refine AllReadyIn.cons rfl (fun K hK => ?_) AllReadyIn.nil
      obtain ⟨fn, tmps, assign, body, hyy, hR⟩ := AF.out
      go_simp
      refine ⟨fun h => (by simp [Fence.wide] at h), RoundIn.mono (F := Fence.wide) hR ?_⟩
      rintro e W3 (⟨rfl, hpost⟩ | ⟨rfl, hpost⟩)
      · refine hK _ _ ?_
        clear hK K hR hyy
        refine wpAnyIn_ready (rs := [6]) (by kernel_rfl) (by simp) ?_
        refine AllReadyIn.cons rfl (fun K hK => ?_) AllReadyIn.nil
        go_simp
        refine hK _ _ ?_
        clear hK K
        refine wpAnyIn_done (by kernel_rfl) ?_ _
        clear q0 q5 AF
        have HPOST := Lib.hid hpost
        clear hpost
        gi_wp2
        exact HPOST.out
      · refine hK _ _ ?_
        clear hK K hR hyy
        refine wpAnyIn_ready (rs := [6]) (by kernel_rfl) (by simp) ?_
        refine AllReadyIn.cons rfl (fun K hK => ?_) AllReadyIn.nil
        go_simp
        refine hK _ _ ?_
        clear hK K
        refine wpAnyIn_done (by kernel_rfl) ?_ _
        clear q0 q5 AF
        have HPOST := Lib.hid hpost
        clear hpost
        gi_wp2
        exact HPOST.out
    refine AllReadyIn.cons rfl (fun K hK => ?_) AllReadyIn.nil
    go_simp
    refine ⟨trivial, fun h => (by simp [Fence.wide] at h), (CallsIn.inRound _ (callsIn_wide.2 CR.out)).mono ?_⟩
    rintro e w5 ⟨x5, y, rfl, hy2⟩
    have q5 := KY.out _ (HX.out.trans x5)
    have AF := Lib.hid (AFTER.out w5 x5 y hy2)
    refine hK _ _ ?_
    clear hK K
    refine wpAnyIn_ready (rs := [0, 3, 4]) (by kernel_rfl) (by simp) ?_
    refine AllReadyIn.cons rfl (fun K hK => ?_) ?_
    · skip
      go_simp
      refine hK _ _ ?_
      clear hK K
      refine wpAnyIn_ready (rs := [3, 4]) (by kernel_rfl) (by simp) ?_
      refine AllReadyIn.cons rfl (fun K hK => ?_) ?_
      · skip
        go_simp
        refine hK _ _ ?_
        clear hK K
        refine wpAnyIn_ready (rs := [4]) (by kernel_rfl) (by simp) ?_
        refine AllReadyIn.cons rfl (fun K hK => ?_) AllReadyIn.nil
        go_simp
        refine hK _ _ ?_
        clear hK K
        refine wpAnyIn_ready (rs := [5]) (by kernel_rfl) (by simp) ?_
        refine AllReadyIn.cons rfl (fun K hK => ?_) AllReadyIn.nil
        obtain ⟨fn, tmps, assign, body, hyy, hR⟩ := AF.out
        go_simp
        refine ⟨fun h => (by simp [Fence.wide] at h), RoundIn.mono (F := Fence.wide) hR ?_⟩
        rintro e W3 (⟨rfl, hpost⟩ | ⟨rfl, hpost⟩)
        · refine hK _ _ ?_
          clear hK K hR hyy
          refine wpAnyIn_ready (rs := [6]) (by kernel_rfl) (by simp) ?_
          refine AllReadyIn.cons rfl (fun K hK => ?_) AllReadyIn.nil
          go_simp
          refine hK _ _ ?_
          clear hK K
          refine wpAnyIn_done (by kernel_rfl) ?_ _
          clear q0 q5 AF
          have HPOST := Lib.hid hpost
          clear hpost
          gi_wp2
          exact HPOST.out
        · refine hK _ _ ?_
          clear hK K hR hyy
          refine wpAnyIn_ready (rs := [6]) (by kernel_rfl) (by simp) ?_
          refine AllReadyIn.cons rfl (fun K hK => ?_) AllReadyIn.nil
          go_simp
          refine hK _ _ ?_
          clear hK K
          refine wpAnyIn_done (by kernel_rfl) ?_ _
          clear q0 q5 AF
          have HPOST := Lib.hid hpost
          clear hpost
          gi_wp2
          exact HPOST.out
      refine AllReadyIn.cons rfl (fun K hK => ?_) AllReadyIn.nil
      go_simp
      refine hK _ _ ?_
      clear hK K
      refine wpAnyIn_ready (rs := [3]) (by kernel_rfl) (by simp) ?_
      refine AllReadyIn.cons rfl (fun K hK => ?_) AllReadyIn.nil
      go_simp
      refine hK _ _ ?_
      clear hK K
      refine wpAnyIn_ready (rs := [5]) (by kernel_rfl) (by simp) ?_
      refine AllReadyIn.cons rfl (fun K hK => ?_) AllReadyIn.nil
      obtain ⟨fn, tmps, assign, body, hyy, hR⟩ := AF.out
      go_simp
      refine ⟨fun h => (by simp [Fence.wide] at h), RoundIn.mono (F := Fence.wide) hR ?_⟩
      rintro e W3 (⟨rfl, hpost⟩ | ⟨rfl, hpost⟩)
      · refine hK _ _ ?_
        clear hK K hR hyy
        refine wpAnyIn_ready (rs := [6]) (by kernel_rfl) (by simp) ?_
        refine AllReadyIn.cons rfl (fun K hK => ?_) AllReadyIn.nil
        go_simp
        refine hK _ _ ?_
        clear hK K
        refine wpAnyIn_done (by kernel_rfl) ?_ _
        clear q0 q5 AF
        have HPOST := Lib.hid hpost
        clear hpost
        gi_wp2
        exact HPOST.out
      · refine hK _ _ ?_
        clear hK K hR hyy
        refine wpAnyIn_ready (rs := [6]) (by kernel_rfl) (by simp) ?_
        refine AllReadyIn.cons rfl (fun K hK => ?_) AllReadyIn.nil
        go_simp
        refine hK _ _ ?_
        clear hK K
        refine wpAnyIn_done (by kernel_rfl) ?_ _
        clear q0 q5 AF
        have HPOST := Lib.hid hpost
        clear hpost
        gi_wp2
        exact HPOST.out
    refine AllReadyIn.cons rfl (fun K hK => ?_) ?_
    · skip
      go_simp
      refine hK _ _ ?_
      clear hK K
      refine wpAnyIn_ready (rs := [0, 4]) (by kernel_rfl) (by simp) ?_
      refine AllReadyIn.cons rfl (fun K hK => ?_) ?_
      · skip
        go_simp
        refine hK _ _ ?_
        clear hK K
        refine wpAnyIn_ready (rs := [4]) (by kernel_rfl) (by simp) ?_
        refine AllReadyIn.cons rfl (fun K hK => ?_) AllReadyIn.nil
        go_simp
        refine hK _ _ ?_
        clear hK K
        refine wpAnyIn_ready (rs := [5]) (by kernel_rfl) (by simp) ?_
        refine AllReadyIn.cons rfl (fun K hK => ?_) AllReadyIn.nil
        obtain ⟨fn, tmps, assign, body, hyy, hR⟩ := AF.out
        go_simp
        refine ⟨fun h => (by simp [Fence.wide] at h), RoundIn.mono (F := Fence.wide) hR ?_⟩
        rintro e W3 (⟨rfl, hpost⟩ | ⟨rfl, hpost⟩)
        · refine hK _ _ ?_
          clear hK K hR hyy
          refine wpAnyIn_ready (rs := [6]) (by kernel_rfl) (by simp) ?_
          refine AllReadyIn.cons rfl (fun K hK => ?_) AllReadyIn.nil
          go_simp
          refine hK _ _ ?_
          clear hK K
          refine wpAnyIn_done (by kernel_rfl) ?_ _
          clear q0 q5 AF
          have HPOST := Lib.hid hpost
          clear hpost
          gi_wp2
          exact HPOST.out
        · refine hK _ _ ?_
          clear hK K hR hyy
          refine wpAnyIn_ready (rs := [6]) (by kernel_rfl) (by simp) ?_
          refine AllReadyIn.cons rfl (fun K hK => ?_) AllReadyIn.nil
          go_simp
          refine hK _ _ ?_
          clear hK K
          refine wpAnyIn_done (by kernel_rfl) ?_ _
          clear q0 q5 AF
          have HPOST := Lib.hid hpost
          clear hpost
          gi_wp2
          exact HPOST.out
      refine AllReadyIn.cons rfl (fun K hK => ?_) AllReadyIn.nil
      go_simp
      refine hK _ _ ?_
      clear hK K
      refine wpAnyIn_ready (rs := [0]) (by kernel_rfl) (by simp) ?_
      refine AllReadyIn.cons rfl (fun K hK => ?_) AllReadyIn.nil
      go_simp
      refine hK _ _ ?_
      clear hK K
      refine wpAnyIn_ready (rs := [5]) (by kernel_rfl) (by simp) ?_
      refine AllReadyIn.cons rfl (fun K hK => ?_) AllReadyIn.nil
      obtain ⟨fn, tmps, assign, body, hyy, hR⟩ := AF.out
      go_simp
      refine ⟨fun h => (by simp [Fence.wide] at h), RoundIn.mono (F := Fence.wide) hR ?_⟩
      rintro e W3 (⟨rfl, hpost⟩ | ⟨rfl, hpost⟩)
      · refine hK _ _ ?_
        clear hK K hR hyy
        refine wpAnyIn_ready (rs := [6]) (by kernel_rfl) (by simp) ?_
        refine AllReadyIn.cons rfl (fun K hK => ?_) AllReadyIn.nil
        go_simp
        refine hK _ _ ?_
        clear hK K
        refine wpAnyIn_done (by kernel_rfl) ?_ _
        clear q0 q5 AF
        have HPOST := Lib.hid hpost
        clear hpost
        gi_wp2
        exact HPOST.out
      · refine hK _ _ ?_
        clear hK K hR hyy
        refine wpAnyIn_ready (rs := [6]) (by kernel_rfl) (by simp) ?_
        refine AllReadyIn.cons rfl (fun K hK => ?_) AllReadyIn.nil
        go_simp
        refine hK _ _ ?_
        clear hK K
        refine wpAnyIn_done (by kernel_rfl) ?_ _
        clear q0 q5 AF
        have HPOST := Lib.hid hpost
        clear hpost
        gi_wp2
        exact HPOST.out
    refine AllReadyIn.cons rfl (fun K hK => ?_) AllReadyIn.nil
    go_simp
    refine hK _ _ ?_
    clear hK K
    refine wpAnyIn_ready (rs := [0, 3]) (by kernel_rfl) (by simp) ?_
    refine AllReadyIn.cons rfl (fun K hK => ?_) ?_
    · skip
      go_simp
      refine hK _ _ ?_
      clear hK K
      refine wpAnyIn_ready (rs := [3]) (by kernel_rfl) (by simp) ?_
      refine AllReadyIn.cons rfl (fun K hK => ?_) AllReadyIn.nil
      go_simp
      refine hK _ _ ?_
      clear hK K
      refine wpAnyIn_ready (rs := [5]) (by kernel_rfl) (by simp) ?_
      refine AllReadyIn.cons rfl (fun K hK => ?_) AllReadyIn.nil
      obtain ⟨fn, tmps, assign, body, hyy, hR⟩ := AF.out
      go_simp
      refine ⟨fun h => (by simp [Fence.wide] at h), RoundIn.mono (F := Fence.wide) hR ?_⟩
      rintro e W3 (⟨rfl, hpost⟩ | ⟨rfl, hpost⟩)
      · refine hK _ _ ?_
        clear hK K hR hyy
        refine wpAnyIn_ready (rs := [6]) (by kernel_rfl) (by simp) ?_
        refine AllReadyIn.cons rfl (fun K hK => ?_) AllReadyIn.nil
        go_simp
        refine hK _ _ ?_
        clear hK K
        refine wpAnyIn_done (by kernel_rfl) ?_ _
        clear q0 q5 AF
        have HPOST := Lib.hid hpost
        clear hpost
        gi_wp2
        exact HPOST.out
      · refine hK _ _ ?_
        clear hK K hR hyy
        refine wpAnyIn_ready (rs := [6]) (by kernel_rfl) (by simp) ?_
        refine AllReadyIn.cons rfl (fun K hK => ?_) AllReadyIn.nil
        go_simp
        refine hK _ _ ?_
        clear hK K
        refine wpAnyIn_done (by kernel_rfl) ?_ _
        clear q0 q5 AF
        have HPOST := Lib.hid hpost
        clear hpost
        gi_wp2
        exact HPOST.out
    refine AllReadyIn.cons rfl (fun K hK => ?_) AllReadyIn.nil
    go_simp
    refine hK _ _ ?_
    clear hK K
    refine wpAnyIn_ready (rs := [0]) (by kernel_rfl) (by simp) ?_
    refine AllReadyIn.cons rfl (fun K hK => ?_) AllReadyIn.nil
    go_simp
    refine hK _ _ ?_
    clear hK K
    refine wpAnyIn_ready (rs := [5]) (by kernel_rfl) (by simp) ?_
    refine AllReadyIn.cons rfl (fun K hK => ?_) AllReadyIn.nil
    obtain ⟨fn, tmps, assign, body, hyy, hR⟩ := AF.out
    go_simp
    refine ⟨fun h => (by simp [Fence.wide] at h), RoundIn.mono (F := Fence.wide) hR ?_⟩
    rintro e W3 (⟨rfl, hpost⟩ | ⟨rfl, hpost⟩)
    · refine hK _ _ ?_
      clear hK K hR hyy
      refine wpAnyIn_ready (rs := [6]) (by kernel_rfl) (by simp) ?_
      refine AllReadyIn.cons rfl (fun K hK => ?_) AllReadyIn.nil
      go_simp
      refine hK _ _ ?_
      clear hK K
      refine wpAnyIn_done (by kernel_rfl) ?_ _
      clear q0 q5 AF
      have HPOST := Lib.hid hpost
      clear hpost
      gi_wp2
      exact HPOST.out
    · refine hK _ _ ?_
      clear hK K hR hyy
      refine wpAnyIn_ready (rs := [6]) (by kernel_rfl) (by simp) ?_
      refine AllReadyIn.cons rfl (fun K hK => ?_) AllReadyIn.nil
      go_simp
      refine hK _ _ ?_
      clear hK K
      refine wpAnyIn_done (by kernel_rfl) ?_ _
      clear q0 q5 AF
      have HPOST := Lib.hid hpost
      clear hpost
      gi_wp2
      exact HPOST.out
  case done =>
    rintro xs W' hSx ⟨⟨ys, hys, hj⟩, _, _, _⟩ hK
    have HP := Lib.hid (show (∃ ys : List WB, ys.map keyW = (wordsL l).map okW ∧ J ys (W'.putObj w1.heap.size (.deferred none))) from ⟨ys, by rw [hys, hSx], hJ.putObj _ hj (by omega) hK rfl⟩)
    clear hj hys hSx
    gi_wp2
    refine ⟨by simp, .inl ⟨_, _, rfl, run_takeDeferred hK, ⟨_, results_none rfl _ _ _, ⟨_, rfl⟩, .inl HP.out⟩⟩⟩
  case stop =>
    rintro cd pre W' hSp ⟨rfl, ys, hys, hj⟩ hK
    have HP := Lib.hid (show (∃ ys : List WB, ys.map keyW <+: (wordsL l).map okW ∧ Jx ys (W'.putObj w1.heap.size (.deferred none))) from ⟨ys, by rw [hys]; exact List.IsPrefix.map _ hSp, hJx.putObj _ hj (by omega) hK rfl⟩)
    clear hj hys hSp
    gi_wp2
    refine ⟨by simp, .inl ⟨_, _, rfl, run_takeDeferred hK, ⟨_, results_none rfl _ _ _, ⟨_, rfl⟩, .inr HP.out⟩⟩⟩
end L13
end Go.Proofs.YtbiklbomacjihaaDoor

