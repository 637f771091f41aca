/- Lists of lists of numbers; one's own, to which more are put; the same? Layer 17, plain: what stands on a line. What the landed calls of layer 17 answer, as one condition; lines' words, plain. Layer 17, plain: what stands on two lines, that are parted at a space. Layer 17, plain: a line's pieces, word by word. One's own list of one's own rows, of which the last one may grow; how much lines hold. -/
import Derived.Test.YtmmgmcfhlhghoaaGreatDoorGF16
import Derived.Test.YtmmgmcfhlhghoaaGreatDoorGE16
import Derived.Test.YtmmgmcfhlhghoaaGreatDoorGB16
import Derived.Deep.QuietTactic
import Derived.BigQuiet
import Derived.Lib.QuietBelow
import Derived.Test.YtmmgmcfhlhghoaaGreatDoorBrk16
namespace Go.Proofs.YtmmgmcfhlhghoaaGreatDoor
open Go.RowKit
namespace L17

/-- A list of numbers, and where it lies. -/
structure RI where
  ns : List Int
  A : Option Addr
  c : Nat
def riV (x : RI) : Value := .slice x.A x.ns.length x.c
def nsL (l : List RI) : List (List Int) := l.map RI.ns
/-- A list of lists that is seen. -/
def SeenR (w : World) (A : Option Addr) (l : List RI) : Prop := Seen w.heap.size w A (l.map riV) ∧ ∀ x ∈ l, SeenL w x.A x.ns
theorem SeenR.ext {w w' : World} {A : Option Addr} {l : List RI} (h : SeenR w A l) (x : Ext w w') : SeenR w' A l := ⟨Seen.ext h.1 x, fun y hy => (h.2 y hy).ext x⟩
theorem SeenR.nil {w : World} {A : Option Addr} : SeenR w A [] := ⟨Seen.nil, fun x h => by simp at h⟩
theorem SeenR.get {w : World} {A : Option Addr} {l : List RI} (h : SeenR w A l) {k : Nat} (hk : k < l.length) : (∃ ad, A = some ad ∧ w.cell? (ad.add k) = some (riV l[k])) ∧ SeenL w l[k].A l[k].ns := by
  obtain ⟨ad, e, _, hc⟩ := Seen.get h.1 (k := k) (by simpa using hk)
  exact ⟨⟨ad, e, by rw [hc]; simp⟩, h.2 _ (List.getElem_mem hk)⟩
/-- It lies among numbers. -/
def TypedI (w : World) (A : Option Addr) : Prop := ∀ ad, A = some ad → ∃ cs f, w.heap[ad.block]? = some (.cells cs 3 f)
theorem TypedI.ext {w w' : World} {A : Option Addr} (h : TypedI w A) (x : Ext w w') : TypedI w' A := fun ad e => by
  obtain ⟨cs, f, hb⟩ := h ad e
  exact ⟨cs, f, (x.block _ (Array.getElem?_eq_some_iff.1 hb).1).trans hb⟩
theorem OwnI.typed {w0 w : World} {A : Option Addr} {n c : Nat} {l : List Int} (h : OwnI w0 w (.slice A n c) l) : TypedI w A := fun ad e => by
  rcases h.1.2 with ⟨e1, _⟩ | ⟨g, cap, cur, e1, _, hb, _⟩
  · simp only [Value.slice.injEq] at e1
    rw [e] at e1; cases e1.1
  · simp only [Value.slice.injEq] at e1
    rw [e] at e1
    obtain ⟨e2, _⟩ := e1
    cases e2
    exact ⟨cur, (0, 0), hb⟩
theorem OwnI.cap {w0 w : World} {v : Value} {l : List Int} (h : OwnI w0 w v l) : ∃ A c, v = .slice A l.length c ∧ l.length ≤ c ∧ SeenL w A l ∧ TypedI w A := by
  obtain ⟨A, c, e, hs, _⟩ := h.seen
  subst e
  refine ⟨A, c, rfl, ?_, hs, OwnI.typed h⟩
  rcases h.1.2 with ⟨e, _⟩ | ⟨g, cap, cur, e, _, _, hc, _⟩
  · simp only [Value.slice.injEq] at e; omega
  · simp only [Value.slice.injEq] at e; omega
/-- One's own list of lists: its rows lie in blocks of another type. -/
def OwnR (w0 w : World) (v : Value) (l : List RI) : Prop := w.ownsRow w0.heap.size 48 1 v l.length (l.map riV) ∧ Ext w0 w ∧ ∀ x ∈ l, SeenL w x.A x.ns ∧ TypedI w x.A
theorem OwnR.nil {w0 w : World} (x : Ext w0 w) : OwnR w0 w (.slice none 0 0) [] := ⟨World.ownsRow_nil _ _ _ _, x, fun x h => by simp at h⟩
theorem OwnR.over {w0 w w' : World} {v : Value} {l : List RI} (h : OwnR w0 w v l) (x : Ext w w') : OwnR w0 w' v l := ⟨OwnsRow.ext h.1 x, h.2.1.trans x, fun y hy => ⟨(h.2.2 y hy).1.ext x, (h.2.2 y hy).2.ext x⟩⟩
theorem OwnR.down {w0 W w' : World} {v : Value} {l : List RI} (x : Ext w0 W) (h : OwnR W w' v l) : OwnR w0 w' v l :=
  ⟨⟨h.1.1, h.1.2.imp id fun ⟨g, cap, cur, e, hb, r⟩ => ⟨g, cap, cur, e, Nat.le_trans x.size hb, r⟩⟩, x.trans h.2.1, h.2.2⟩
theorem OwnR.seen {w0 w : World} {v : Value} {l : List RI} (h : OwnR w0 w v l) : ∃ A c, v = .slice A l.length c ∧ SeenR w A l := by
  obtain ⟨A, c, rfl, hs⟩ := own_seen h.1
  exact ⟨A, c, rfl, hs, fun x hx => (h.2.2 x hx).1⟩
/-- Numbers stay, where a block of another type turns. -/
theorem seenL_grown {w w' : World} {r : Option Nat} {A : Option Addr} {ns : List Int} (h : SeenL w A ns) (ht : TypedI w A) (g : w.grownBy w' r) (hr : ∀ k, r = some k → ∃ cs f, w.heap[k]? = some (.cells cs 48 f)) : SeenL w' A ns ∧ TypedI w' A := by
  have hne : ∀ ad, A = some ad → w'.heap[ad.block]? = w.heap[ad.block]? := fun ad e => by
    obtain ⟨cs, f, hb⟩ := ht ad e
    refine g.block _ (Array.getElem?_eq_some_iff.1 hb).1 fun e2 => ?_
    obtain ⟨cs2, f2, hb2⟩ := hr _ e2.symm
    rw [hb] at hb2
    simp only [Option.some.injEq, Obj.cells.injEq] at hb2
    exact absurd hb2.2.1 (by decide)
  refine ⟨fun k v hv => ?_, fun ad e => ?_⟩
  · obtain ⟨ad, e, hb, hc⟩ := h k v hv
    refine ⟨ad, e, Nat.lt_of_lt_of_le hb g.size, ?_⟩
    have h2 := hne ad e
    rw [← hc]
    unfold World.cell?
    rw [addr_block, h2]
  · obtain ⟨cs, f, hb⟩ := ht ad e
    exact ⟨cs, f, (hne ad e).trans hb⟩
theorem ints_info17 : (Tryz.prog.info? 48).map (fun i => (i.zero, i.size, i.bytes)) = some (some (.slice none 0 0), 1, 24) := by kernel_rfl
/-- append(own, more...). -/
theorem OwnR.puts {w0 w : World} {v : Value} {l : List RI} (h : OwnR w0 w v l) (A : Option Addr) (m : List RI) (n c : Nat) (hs : SeenR w A m) (hty : ∀ x ∈ m, TypedI w x.A) (hn : n = m.length) (hm : l.length + m.length ≤ 1000000) (ty : TypeId) :
    ∃ v' w', (Builtin.append_ #[45, 45] ty #[v, .slice A n c]).run Tryz.prog w = .ok v' w' ∧ OwnR w0 w' v' (l ++ m) := by
  subst hn
  obtain ⟨i, hi, hz0, hsz, hby⟩ := info_parts ints_info17
  rcases A with _ | ad
  · have hl : m = [] := by
      rcases m with _ | ⟨b, m⟩
      · rfl
      · obtain ⟨⟨_, e, _⟩, _⟩ := hs.get (k := 0) (by simp); cases e
    subst hl
    refine ⟨v, w, ?_, by simpa using h⟩
    rcases h.1.2 with ⟨rfl, _⟩ | ⟨g, cap, cur, rfl, _, _, hnc, _⟩
    · simp [Builtin.append_, run_underlying Tryz.underlying45, Go.sizeOf, typeInfo, hi, Builtin.lenOf, Builtin.firstCells]
    · simp [Builtin.append_, run_underlying Tryz.underlying45, Go.sizeOf, typeInfo, hi, Builtin.lenOf, Builtin.firstCells, hnc, storeCells]
  · obtain ⟨v', w', hr, ho, hg, _, _⟩ := run_append_own_at (P := Tryz.prog) w w0.heap.size 45 ty 48 i (.slice none 0 0) 1 24 Tryz.underlying45 hi hz0 hsz hby rfl (by omega) v l.length (l.map riV) h.1 ad m.length c (m.map riV) (by simp)
      (fun j u hu => by
        obtain ⟨ad', e, _, hc⟩ := hs.1 j u hu
        cases e
        exact hc) (by intro v hv; obtain ⟨x, _, rfl⟩ := List.mem_map.1 hv; rfl) (by unfold maxLen; omega) (by omega) h.2.1.size
    have hb : ∀ k, v.ownBlock = some k → ∃ cs f, w.heap[k]? = some (.cells cs 48 f) := fun k hk => by
      rcases h.1.2 with ⟨e, _⟩ | ⟨g, cap, cur, e, _, hgg, _⟩
      · rw [e] at hk; cases hk
      · rw [e] at hk
        cases hk
        exact ⟨cur, (0, 0), hgg⟩
    refine ⟨v', w', hr, ?_, Below.grown h.2.1 hg h.2.1.size (fun k hk => (h.1.lt k hk).1), fun x hx => ?_⟩
    · rw [List.length_append, List.map_append]
      exact ho
    · rcases List.mem_append.1 hx with hx | hx
      · exact seenL_grown (h.2.2 x hx).1 (h.2.2 x hx).2 hg hb
      · exact seenL_grown (hs.2 x hx) (hty x hx) hg hb
/-- append(own, x). -/
theorem OwnR.put {w0 w : World} {v : Value} {l : List RI} (h : OwnR w0 w v l) (x : RI) (hx : SeenL w x.A x.ns) (ht : TypedI w x.A) (hm : l.length + 1 ≤ 1000000) (ty : TypeId) :
    ∃ v' w', (Builtin.append_ #[45, 45] ty #[v, .slice (some ⟨w.heap.size, 0, none⟩) 1 1]).run Tryz.prog (w.alloc (.cells #[riV x] 48)) = .ok v' w' ∧ OwnR w0 w' v' (l ++ [x]) := by
  have hX : Ext w (w.alloc (.cells #[riV x] 48)) := (Ext.refl w).alloc _
  refine (h.over hX).puts _ [x] 1 1 ⟨seen_new w [riV x] 48, fun y hy => ?_⟩ (fun y hy => ?_) rfl (by simpa using hm) ty
  · rw [List.mem_singleton.1 hy]; exact hx.ext hX
  · rw [List.mem_singleton.1 hy]; exact ht.ext hX
/-- Its last one. -/
theorem OwnR.form {w0 w : World} {v : Value} {l : List RI} {z : RI} (h : OwnR w0 w v (l ++ [z])) : ∃ g cap, v = .slice (some ⟨g, 0, none⟩) (l.length + 1) cap ∧ w.cell? ⟨g, l.length, none⟩ = some (riV z) ∧ w.frozen? ⟨g, l.length, none⟩ = false := by
  have hl : (l ++ [z]).length = l.length + 1 := by simp
  rcases h.1.2 with ⟨_, e⟩ | ⟨g, cap, cur, e, _⟩
  · rw [hl] at e; omega
  · rw [hl] at e
    subst e
    have hr := row_cell (w := w) (base := w0.heap.size) (e := 48) (n := l.length + 1) (g := g) (cap := cap) (xs := (l ++ [z]).map riV) (by have := h.1; rwa [hl] at this) (i := l.length) (by omega)
    exact ⟨g, cap, rfl, by rw [hr.1]; simp, hr.2⟩
theorem grown_set (w : World) (b i : Nat) (v : Value) : w.grownBy (w.setCell ⟨b, i, none⟩ v) (some b) :=
  ⟨rfl, rfl, rfl, by simp [World.setCell], fun k _ hk => Below.heap_setCell _ _ _ _ (fun e => hk (by simp [e]))⟩
/-- The last one is written over. -/
theorem OwnR.last {w0 w : World} {g n cap : Nat} {l : List RI} {z : RI} (h : OwnR w0 w (.slice (some ⟨g, 0, none⟩) n cap) (l ++ [z])) (x : RI) (hx : SeenL w x.A x.ns) (ht : TypedI w x.A) :
    OwnR w0 (w.setCell ⟨g, l.length, none⟩ (riV x)) (.slice (some ⟨g, 0, none⟩) n cap) (l ++ [x]) := by
  have hn : n = l.length + 1 := by
    rcases h.1.2 with ⟨e, _⟩ | ⟨g2, cap2, cur, e, _⟩
    · cases e
    · simp only [Value.slice.injEq] at e
      rw [e.2.1]; simp
  have hgg : ∃ cs f, w.heap[g]? = some (.cells cs 48 f) := by
    rcases h.1.2 with ⟨e, _⟩ | ⟨g2, cap2, cur, e, _, hb, _⟩
    · cases e
    · simp only [Value.slice.injEq, Option.some.injEq, Addr.mk.injEq, and_true] at e
      rw [e.1]; exact ⟨cur, (0, 0), hb⟩
  have hr := row_set (w := w) (base := w0.heap.size) (e := 48) (n := n) (g := g) (cap := cap) (xs := (l ++ [z]).map riV) (by have := h.1; rwa [show (l ++ [z]).length = n by simp [hn]] at this) l.length (riV x)
  have e1 : ((l ++ [z]).map riV).set l.length (riV x) = (l ++ [x]).map riV := by simp
  rw [e1] at hr
  have hb : ∀ k, some g = some k → ∃ cs f, w.heap[k]? = some (.cells cs 48 f) := fun k hk => by cases hk; exact hgg
  have gr : w.grownBy (w.setCell ⟨g, l.length, none⟩ (riV x)) (some g) := grown_set w g l.length (riV x)
  refine ⟨by rw [show (l ++ [x]).length = n by simp [hn]]; exact hr, h.2.1.setCell (by have := (h.1.lt g rfl).1; exact this) _, fun y hy => ?_⟩
  rcases List.mem_append.1 hy with hy | hy
  · have := h.2.2 y (List.mem_append_left _ hy)
    exact seenL_grown this.1 this.2 gr hb
  · rw [List.mem_singleton.1 hy]
    exact seenL_grown hx ht gr hb
/-! ### The same? -/
theorem ret_b {a b : Bool} (h : a = b) : Ending.returned (.bool a) = .returned (.bool b) := by rw [h]
theorem rg17 {f : FuncId} {args : Array Value} {w : World} {d : Nat} {os : Array Obj} {v : Value} (h : Calls Tryz.prog f args (Sort.grow (redrawn w d) os) (Ret (Sort.grow (redrawn w d) os) v)) :
    Calls Tryz.prog f args (Sort.grow (redrawn w d) os) fun e w'' => e = .returned v ∧ ∃ p : Regrown, w'' = Sort.grow (redrawn w p.d) p.os := Calls.regrown_of h
theorem same_ints (A B : Option Addr) (l m : List Int) (c d : Nat) (w : World) (hs : SeenL w A l) (ht : SeenL w B m) (hn : l.length ≤ 9223372036854775806) :
    Calls Tryz.prog 23 #[.slice A l.length c, .slice B m.length d] w (Ret w (.bool (decide (l = m)))) := by
  have := L04.same_any A B l.length m.length c d _ _ w hs.fn ht.fn hn
  have e : L04.sameB l.length m.length (fun j => l.getD j 0) (fun j => m.getD j 0) = decide (l = m) := by
    unfold L04.sameB
    rw [decide_eq_decide]
    constructor
    · rintro ⟨h1, h2⟩
      apply List.ext_getElem h1
      intro j hj hj'
      have := h2 j hj
      simpa [List.getD, hj, hj'] using this
    · rintro rfl
      exact ⟨rfl, fun _ _ => rfl⟩
  rwa [e] at this
set_option maxRecDepth 100000 in
set_option maxHeartbeats 4000000 in
theorem rsame_any (A B : Option Addr) (l m : List RI) (n c k d : Nat) (w : World) (hs : SeenR w A l) (ht : SeenR w B m) (hn : n = l.length) (hk : k = m.length) (hl : l.length ≤ 1000000) (hx : ∀ x ∈ l, x.ns.length ≤ 1000000) :
    Calls Tryz.prog 10 #[.slice A n c, .slice B k d] w (Ret w (.bool (decide (nsL l = nsL m)))) := by
  have HS := Lib.hid hs
  have HT := Lib.hid ht
  have HN := Lib.hid hn
  have HK := Lib.hid hk
  have HX1 := Lib.hid hx
  by_cases h1 : n = k
  · subst h1
    have hn64 : (n : Int) ≤ 1000000 := by omega
    clear hs ht hn hk hl hx
    go_enter Tryz.func10, Tryz.ntmps10
    go_wp2_with fail
    go_loopw [5] (fun i wr => ∃ (j : Nat), j ≤ n ∧ i = .int .i64 j ∧ Hid ((nsL l).take j = (nsL m).take j) ∧ Hid (Ext w wr)) (fun i _ => n - (intOf i).toNat)
    case atStart => exact ⟨0, by omega, rfl, Lib.hid rfl, Lib.hid (Ext.refl _)⟩
    case round =>
      obtain ⟨j, hj, rfl, ha, HX⟩ := hrel
      obtain ⟨wo, rfl⟩ : ∃ wo : World, wo = wr := ⟨_, rfl⟩
      by_cases hlt : j < n
      · have hj64 : (j : Int) < (n : Int) := by omega
        have hjl : j < l.length := by have := HN.out; omega
        have hjm : j < m.length := by have := HK.out; omega
        obtain ⟨⟨ad, rfl, c0⟩, sx⟩ := (HS.out.ext HX.out).get hjl
        obtain ⟨⟨be, rfl, d0⟩, sy⟩ := (HT.out.ext HX.out).get hjm
        have T1 := Lib.hid (show (nsL l).take (j + 1) = (nsL l).take j ++ [l[j].ns] by rw [List.take_succ_eq_append_getElem (by simpa [nsL] using hjl)]; simp [nsL])
        have T2 := Lib.hid (show (nsL m).take (j + 1) = (nsL m).take j ++ [m[j].ns] by rw [List.take_succ_eq_append_getElem (by simpa [nsL] using hjm)]; simp [nsL])
        have EQ := Lib.hid (show nsL l = nsL m → l[j].ns = m[j].ns from fun e => by
          have h := congrArg (·[j]?) e
          simpa [nsL, hjl, hjm] using h)
        have ZL := HX1.out _ (List.getElem_mem hjl)
        generalize l[j] = x at *
        generalize m[j] = y at *
        obtain ⟨xs, xA, xc⟩ := x
        obtain ⟨ys, yA, yc⟩ := y
        unfold riV at c0 d0
        dsimp only at *
        have g0 := cell_regrown c0
        have g1 := cell_regrown d0
        have SM := Lib.hid (fun dd os => same_ints xA yA xs ys xc yc (Sort.grow (redrawn wo dd) os) (sx.ext (below_regrown _ _ _)) (sy.ext (below_regrown _ _ _)) (by omega))
        clear sx sy c0 d0 hjl hjm ZL
        have hlt := Lib.hid hlt
        by_cases h2 : xs = ys
        · have HA := Lib.hid (show (nsL l).take (j + 1) = (nsL m).take (j + 1) by rw [T1.out, T2.out, ha.out, h2])
          have SM := Lib.hid (fun dd os => (decide_eq_true h2) ▸ SM.out dd os)
          clear h2 EQ T1 T2
          go_wp2_with fail
          refine wp_region_quiet_below (by kernel_rfl) (by kernel_rfl) ?_
          repeat (go_big_quiet_step (first | (with_reducible exact rg17 (SM.out _ _))))
          refine wpQuiet_nil ?_
          intro _ hw'
          obtain ⟨⟨dq, osq⟩, hw''⟩ := hw'
          subst hw''
          have HX := Lib.hid (HX.out.trans (below_regrown wo dq osq))
          clear g0 g1 SM
          go_wp2_with fail
          go_roundw
          case rel => exact ⟨j + 1, by have := hlt.out; omega, by go_num, HA, HX⟩
          case measure => have := hlt.out; simp [intOf]; omega
        · have NO : Hid (false = decide (nsL l = nsL m)) := Lib.hid (decide_eq_false fun h => h2 (EQ.out h)).symm
          have SM := Lib.hid (fun dd os => (decide_eq_false h2) ▸ SM.out dd os)
          clear h2 EQ T1 T2
          go_wp2_with fail
          refine wp_region_quiet_below (by kernel_rfl) (by kernel_rfl) ?_
          repeat (go_big_quiet_step (first | (with_reducible exact rg17 (SM.out _ _))))
          refine wpQuiet_nil ?_
          intro _ hw'
          obtain ⟨⟨dq, osq⟩, hw''⟩ := hw'
          subst hw''
          have HX := Lib.hid (HX.out.trans (below_regrown wo dq osq))
          clear g0 g1 SM
          go_wp2_with fail
          go_ret
          exact ⟨ret_b NO.out, HX.out⟩
      · obtain rfl : j = n := by omega
        have NO : Hid (true = decide (nsL l = nsL m)) := Lib.hid (decide_eq_true (by
          have h := ha.out
          rw [List.take_of_length_le (by have := HN.out; simp [nsL]; omega), List.take_of_length_le (by have := HK.out; simp [nsL]; omega)] at h
          exact h)).symm
        go_wp2_with fail
        go_ret
        exact ⟨ret_b NO.out, HX.out⟩
  · have h1z : ¬ ((n : Int) = (k : Int)) := by omega
    rw [show decide (nsL l = nsL m) = false from decide_eq_false fun h => h1 (by have := congrArg List.length h; simp [nsL] at this; omega)]
    clear HN HK hn hk
    go_enter Tryz.func10, Tryz.ntmps10
    go_wp2_with fail
    go_ret
    exact ⟨rfl, Ext.refl _⟩
end L17
end Go.Proofs.YtmmgmcfhlhghoaaGreatDoor

namespace Go.Proofs.YtmmgmcfhlhghoaaGreatDoor
open Go.RowKit
namespace L17
open L13 (TW tw checkB wordB)
open L16 (Brk befB)

/-- May a break be one of words? n words, so many codes in its own. -/
def placeB (n cl : Nat) (b : Brk) : Bool :=
  if b.1 = 0 then decide (b.2.1 = 0) && decide (b.2.2 = 0)
  else if b.1 = 1 then decide (b.2.1 < (n : Int) - 1) && decide (b.2.2 = (cl : Int))
  else if b.1 = 5 then decide (b.2.1 = (n : Int) - 1) && decide (b.2.2 = (cl : Int))
  else decide (2 ≤ b.1) && (decide (b.1 ≤ 4) && (decide (1 ≤ b.2.2) && decide (b.2.2 < (cl : Int))))
def stB (l : List TW) (b : Brk) : Bool := checkB l && (decide (0 ≤ b.2.1) && (decide (b.2.1 < (l.length : Int)) && placeB l.length (l.getD b.2.1.toNat ([], [])).1.length b))
/-- A code stands behind a break; ahead of one. -/
def behB (a : Brk) (w i : Nat) : Bool := decide (a.1 = 0) || (decide (a.2.1 < (w : Int)) || (decide ((w : Int) = a.2.1) && decide (a.2.2 ≤ (i : Int))))
def aheB (b : Brk) (w i : Nat) : Bool := decide ((w : Int) < b.2.1) || (decide ((w : Int) = b.2.1) && decide ((i : Int) < b.2.2))
/-- A word's codes on the line, of the first k. -/
def cutTo (a b : Brk) (w : Nat) (cs : List Int) (k : Nat) : List Int := (List.range k).flatMap fun i => if (behB a w i && aheB b w i) = true then [cs.getD i 0] else []
theorem cutTo_succ (a b : Brk) (w : Nat) (cs : List Int) (k : Nat) : cutTo a b w cs (k + 1) = cutTo a b w cs k ++ if (behB a w k && aheB b w k) = true then [cs.getD k 0] else [] := by
  unfold cutTo
  rw [List.range_succ, List.flatMap_append]
  simp
theorem cutTo_len (a b : Brk) (w : Nat) (cs : List Int) : ∀ k, (cutTo a b w cs k).length ≤ k
  | 0 => Nat.le_refl _
  | k + 1 => by
    have := cutTo_len a b w cs k
    rw [cutTo_succ, List.length_append]
    split
    · simp only [List.length_singleton]; omega
    · simp only [List.length_nil]; omega
def cutW (a b : Brk) (w : Nat) (cs : List Int) : List Int := cutTo a b w cs cs.length
def rowsTo (a b : Brk) (l : List TW) (k : Nat) : List (List Int) := (List.range k).flatMap fun w => if cutW a b w (l.getD w ([], [])).1 = [] then [] else [cutW a b w (l.getD w ([], [])).1]
theorem rowsTo_succ (a b : Brk) (l : List TW) (k : Nat) : rowsTo a b l (k + 1) = rowsTo a b l k ++ if cutW a b k (l.getD k ([], [])).1 = [] then [] else [cutW a b k (l.getD k ([], [])).1] := by
  unfold rowsTo
  rw [List.range_succ, List.flatMap_append]
  simp
theorem rowsTo_len (a b : Brk) (l : List TW) : ∀ k, (rowsTo a b l k).length ≤ k
  | 0 => Nat.le_refl _
  | k + 1 => by
    have := rowsTo_len a b l k
    rw [rowsTo_succ, List.length_append]
    split
    · simp only [List.length_nil]; omega
    · simp only [List.length_singleton]; omega
def hyB (b : Brk) : Bool := decide (b.1 = 2) || decide (b.1 = 3)
/-- Hyphen behind the last one. -/
def putH (o : List (List Int)) : List (List Int) := o.dropLast ++ [o.getLastD [] ++ [45]]
theorem putH_snoc (o : List (List Int)) (x : List Int) : putH (o ++ [x]) = o ++ [x ++ [45]] := by simp [putH]
def cutL (a b : Brk) (l : List TW) : List (List Int) := if rowsTo a b l l.length ≠ [] ∧ hyB b = true then putH (rowsTo a b l l.length) else rowsTo a b l l.length
/-- The pieces of a line, or the error. -/
def piA (l : List TW) (a b : Brk) : List (List Int) × Int :=
  if checkB l = true then (if stB l a = true ∧ stB l b = true ∧ a.1 ≠ 5 ∧ befB a b = true then (cutL a b l, 0) else ([], 1)) else ([], 130)
end L17
end Go.Proofs.YtmmgmcfhlhghoaaGreatDoor

namespace Go.Proofs.YtmmgmcfhlhghoaaGreatDoor
open Go.RowKit
namespace L17
open L13 (TW tw checkB wordB)
open L16 (Brk befB brkV SeenK)

/-- It lies among lists of numbers. -/
def TypedO (w : World) (A : Option Addr) : Prop := ∀ ad, A = some ad → ∃ cs f, w.heap[ad.block]? = some (.cells cs 48 f)
theorem TypedO.ext {w w' : World} {A : Option Addr} (h : TypedO w A) (x : Ext w w') : TypedO w' A := fun ad e => by
  obtain ⟨cs, f, hb⟩ := h ad e
  exact ⟨cs, f, (x.block _ (Array.getElem?_eq_some_iff.1 hb).1).trans hb⟩
/-- Lists that can be read, cut, and put into one's own: each lies among numbers, and has room. -/
def ReadR (w : World) (A : Option Addr) (l : List RI) : Prop := SeenR w A l ∧ (∀ x ∈ l, TypedI w x.A) ∧ (∀ x ∈ l, x.ns.length ≤ x.c) ∧ TypedO w A
theorem ReadR.ext {w w' : World} {A : Option Addr} {l : List RI} (h : ReadR w A l) (x : Ext w w') : ReadR w' A l := ⟨h.1.ext x, fun y hy => (h.2.1 y hy).ext x, h.2.2.1, h.2.2.2.ext x⟩
theorem ReadR.nil {w : World} : ReadR w none [] := ⟨SeenR.nil, fun x h => by simp at h, fun x h => by simp at h, fun ad e => by cases e⟩
theorem OwnR.read {w0 w : World} {v : Value} {l : List RI} (h : OwnR w0 w v l) : ∃ A c, v = .slice A l.length c ∧ SeenR w A l ∧ (∀ x ∈ l, TypedI w x.A) ∧ TypedO w A := by
  obtain ⟨A, c, e, hs⟩ := h.seen
  subst e
  refine ⟨A, c, rfl, hs, fun x hx => (h.2.2 x hx).2, fun ad e => ?_⟩
  rcases h.1.2 with ⟨e1, _⟩ | ⟨g, cap, cur, e1, _, hb, _⟩
  · simp only [Value.slice.injEq] at e1
    rw [e] at e1; cases e1.1
  · simp only [Value.slice.injEq] at e1
    rw [e] at e1
    obtain ⟨e2, _⟩ := e1
    cases e2
    exact ⟨cur, (0, 0), hb⟩
/-- Lists that are read, and an error. -/
def PiQ (w : World) (r : List (List Int) × Int) (e : Ending) (w' : World) : Prop := Ext w w' ∧ ∃ A rs c, e = .returned (.tuple #[.slice A r.1.length c, .int .i64 r.2]) ∧ ReadR w' A rs ∧ nsL rs = r.1
/-- Lists that are seen. -/
def WhQ (w : World) (r : List (List Int)) (e : Ending) (w' : World) : Prop := Ext w w' ∧ ∃ A rs c, e = .returned (.slice A r.length c) ∧ SeenR w' A rs ∧ nsL rs = r
theorem nsL_len {rs : List RI} {r : List (List Int)} (h : nsL rs = r) : rs.length = r.length := by rw [← h]; simp [nsL]

/-- Lines' pieces: a list of lists of lists that is seen. -/
structure RR where
  rs : List RI
  A : Option Addr
  c : Nat
def rrV (x : RR) : Value := .slice x.A x.rs.length x.c
def nnL (l : List RR) : List (List (List Int)) := l.map fun x => nsL x.rs
def SeenRR (w : World) (A : Option Addr) (l : List RR) : Prop := Seen w.heap.size w A (l.map rrV) ∧ ∀ x ∈ l, SeenR w x.A x.rs
theorem SeenRR.ext {w w' : World} {A : Option Addr} {l : List RR} (h : SeenRR w A l) (x : Ext w w') : SeenRR w' A l := ⟨Seen.ext h.1 x, fun y hy => (h.2 y hy).ext x⟩
theorem SeenRR.nil {w : World} {A : Option Addr} : SeenRR w A [] := ⟨Seen.nil, fun x h => by simp at h⟩
theorem SeenRR.get {w : World} {A : Option Addr} {l : List RR} (h : SeenRR w A l) {k : Nat} (hk : k < l.length) : (∃ ad, A = some ad ∧ w.cell? (ad.add k) = some (rrV l[k])) ∧ SeenR w l[k].A l[k].rs := by
  obtain ⟨ad, e, _, hc⟩ := Seen.get h.1 (k := k) (by simpa using hk)
  exact ⟨⟨ad, e, by rw [hc]; simp⟩, h.2 _ (List.getElem_mem hk)⟩

/-! ### Lines' words, plain -/
/-- A piece: the last one of a line that ends at a hyphen loses it. -/
def trimP (last hy : Bool) (l : List Int) : List Int := if last = true ∧ l ≠ [] ∧ hy = true then l.dropLast else l
/-- A piece is put behind: to the last word, if the line before it ended inside of that. -/
def addP (glue : Bool) (out : List (List Int)) (l : List Int) : List (List Int) := if glue = true ∧ out ≠ [] then out.dropLast ++ [out.getLastD [] ++ l] else out ++ [l]
/-- The first k pieces of a line. -/
def lineTo (on hy : Bool) (ps : List (List Int)) (out : List (List Int)) : Nat → List (List Int)
  | 0 => out
  | k + 1 => addP (decide (k = 0) && on) (lineTo on hy ps out k) (trimP (decide (k + 1 = ps.length)) hy (ps.getD k []))
/-- Does a line end inside of a word? -/
def onB (b : Brk) : Bool := decide (2 ≤ b.1) && decide (b.1 ≤ 4)
/-- The first k lines, and whether the last of them ends inside of a word. -/
def whTo (ls : List (List (List Int))) (ends : List Brk) : Nat → List (List Int) × Bool
  | 0 => ([], false)
  | k + 1 => (lineTo (whTo ls ends k).2 (hyB (ends.getD k (0, 0, 0))) (ls.getD k []) (whTo ls ends k).1 (ls.getD k []).length, onB (ends.getD k (0, 0, 0)))
def whL (ls : List (List (List Int))) (ends : List Brk) : List (List Int) := (whTo ls ends (min ls.length ends.length)).1

/-- How much lines hold. -/
def szP (ps : List (List Int)) : Nat := (ps.map fun l => l.length + 1).sum
def szL (ls : List (List (List Int))) : Nat := (ls.map szP).sum
/-- What the landed calls answer. -/
structure Pie : Prop where
  stC : ∀ (WA : Option Addr) (wl : List CW) (n d : Nat) (b : Brk) (w : World), SeenC w WA wl → n = wl.length → n ≤ d → d ≤ maxLen → (∀ x ∈ wl, x.Ok) → Calls Tryz.prog 12 #[.slice WA n d, brkV b] w (Ret w (.bool (stB (wl.map tw) b)))
  piC : ∀ (WA : Option Addr) (wl : List CW) (n d : Nat) (a b : Brk) (w : World), SeenC w WA wl → n = wl.length → n ≤ d → d ≤ maxLen → (∀ x ∈ wl, x.Ok) → Calls Tryz.prog 9 #[.slice WA n d, brkV a, brkV b] w (PiQ w (piA (wl.map tw) a b))
  whC : ∀ (A : Option Addr) (l : List RR) (n c : Nat) (B : Option Addr) (ends : List Brk) (m d : Nat) (w : World), SeenRR w A l → n = l.length → n ≤ 1000000 → SeenK w B ends → m = ends.length → m ≤ 1000000 →
    (∀ x ∈ l, ∀ y ∈ x.rs, y.ns.length ≤ y.c) → szL (nnL l) ≤ 900000 → Calls Tryz.prog 11 #[.slice A n c, .slice B m d] w (WhQ w (whL (nnL l) ends))

/-! ### How much there is -/
theorem cutW_len (a b : Brk) (w : Nat) (cs : List Int) : (cutW a b w cs).length ≤ cs.length := cutTo_len a b w cs cs.length
theorem rowsTo_mem (a b : Brk) (l : List TW) (m : Nat) (h : ∀ x ∈ l, x.1.length ≤ m) : ∀ k, ∀ x ∈ rowsTo a b l k, x.length ≤ m
  | 0, x, hx => by simp [rowsTo] at hx
  | k + 1, x, hx => by
    rw [rowsTo_succ, List.mem_append] at hx
    rcases hx with hx | hx
    · exact rowsTo_mem a b l m h k x hx
    · split at hx
      · simp at hx
      · rw [List.mem_singleton.1 hx]
        refine Nat.le_trans (cutW_len _ _ _ _) ?_
        rcases Nat.lt_or_ge k l.length with hk | hk
        · rw [List.getD_eq_getElem?_getD, List.getElem?_eq_getElem hk]
          exact h _ (List.getElem_mem hk)
        · rw [List.getD_eq_getElem?_getD, List.getElem?_eq_none hk]
          exact Nat.zero_le _
theorem piA_small (l : List TW) (a b : Brk) (m : Nat) (hl : l.length ≤ m) (h : ∀ x ∈ l, x.1.length ≤ m) : (piA l a b).1.length ≤ m ∧ ∀ x ∈ (piA l a b).1, x.length ≤ m + 1 := by
  have h1 := rowsTo_len a b l l.length
  have h2 := rowsTo_mem a b l m h l.length
  unfold piA
  split
  · split
    · unfold cutL
      dsimp only
      split
      · rename_i hc
        generalize rowsTo a b l l.length = o at *
        obtain ⟨i, z, rfl⟩ : ∃ i z, o = i ++ [z] := ⟨o.dropLast, o.getLast hc.1, (List.dropLast_concat_getLast hc.1).symm⟩
        rw [putH_snoc]
        refine ⟨by simp only [List.length_append, List.length_singleton] at h1 ⊢; omega, fun x hx => ?_⟩
        rcases List.mem_append.1 hx with hx | hx
        · have := h2 x (List.mem_append_left _ hx); omega
        · rw [List.mem_singleton.1 hx]
          have := h2 z (by simp)
          simp only [List.length_append, List.length_singleton]
          omega
      · exact ⟨by omega, fun x hx => by have := h2 x hx; omega⟩
    · exact ⟨Nat.zero_le _, fun x hx => by simp at hx⟩
  · exact ⟨Nat.zero_le _, fun x hx => by simp at hx⟩
end L17
end Go.Proofs.YtmmgmcfhlhghoaaGreatDoor

namespace Go.Proofs.YtmmgmcfhlhghoaaGreatDoor
open Go.RowKit
namespace L17
open L13 (TW tw checkB)
open L16 (Brk befB bef_iff)

theorem cutTo_same {a b a' b' : Brk} {w : Nat} (cs : List Int) : ∀ k, (∀ i, i < k → (behB a w i && aheB b w i) = (behB a' w i && aheB b' w i)) → cutTo a b w cs k = cutTo a' b' w cs k
  | 0, _ => rfl
  | k + 1, h => by rw [cutTo_succ, cutTo_succ, cutTo_same cs k (fun i hi => h i (by omega)), h k (by omega)]
theorem cutTo_none {a b : Brk} {w : Nat} (cs : List Int) : ∀ k, (∀ i, i < k → (behB a w i && aheB b w i) = false) → cutTo a b w cs k = []
  | 0, _ => rfl
  | k + 1, h => by rw [cutTo_succ, cutTo_none cs k (fun i hi => h i (by omega)), h k (by omega)]; rfl
theorem beh_iff {a : Brk} {w i : Nat} : behB a w i = true ↔ a.1 = 0 ∨ a.2.1 < (w : Int) ∨ ((w : Int) = a.2.1 ∧ a.2.2 ≤ (i : Int)) := by simp [behB]
theorem ahe_iff {b : Brk} {w i : Nat} : aheB b w i = true ↔ (w : Int) < b.2.1 ∨ ((w : Int) = b.2.1 ∧ (i : Int) < b.2.2) := by simp [aheB]
theorem and_same {p q r s : Bool} (h : (p = true ∧ q = true) ↔ (r = true ∧ s = true)) : (p && q) = (r && s) := by
  cases p <;> cases q <;> cases r <;> cases s <;> simp_all
theorem and_no {p q : Bool} (h : ¬ (p = true ∧ q = true)) : (p && q) = false := by cases p <;> cases q <;> simp_all
/-- A break between words. -/
structure Mid (l : List TW) (b : Brk) : Prop where
  k : b.1 = 1
  w : 0 ≤ b.2.1
  a : ∀ w : Nat, (w : Int) = b.2.1 → b.2.2 = ((l.getD w ([], [])).1.length : Int)
theorem cut_low {l : List TW} {a b c : Brk} (m : Mid l b) (h2 : befB b c = true) {w : Nat} (hw : (w : Int) ≤ b.2.1) :
    cutW a c w (l.getD w ([], [])).1 = cutW a b w (l.getD w ([], [])).1 ∧ cutW b c w (l.getD w ([], [])).1 = [] := by
  have hb := bef_iff.1 h2
  have hk := m.k
  have ha := m.a w
  generalize (l.getD w ([], [])).1 = cs at *
  refine ⟨cutTo_same cs _ fun i hi => and_same ?_, cutTo_none cs _ fun i hi => and_no ?_⟩
  · rw [beh_iff, ahe_iff, ahe_iff]
    have : ((w : Int) < c.2.1 ∨ (w : Int) = c.2.1 ∧ (i : Int) < c.2.2) ∧ ((w : Int) < b.2.1 ∨ (w : Int) = b.2.1 ∧ (i : Int) < b.2.2) := by omega
    exact ⟨fun h => ⟨h.1, this.2⟩, fun h => ⟨h.1, this.1⟩⟩
  · rw [beh_iff]
    omega
theorem cut_high {l : List TW} {a b c : Brk} (m : Mid l b) (h1 : befB a b = true) {w : Nat} (hw : b.2.1 < (w : Int)) :
    cutW a c w (l.getD w ([], [])).1 = cutW b c w (l.getD w ([], [])).1 ∧ cutW a b w (l.getD w ([], [])).1 = [] := by
  have hb := bef_iff.1 h1
  have hk := m.k
  generalize (l.getD w ([], [])).1 = cs at *
  refine ⟨cutTo_same cs _ fun i hi => and_same ?_, cutTo_none cs _ fun i hi => and_no ?_⟩
  · rw [beh_iff, beh_iff]
    have : (a.1 = 0 ∨ a.2.1 < (w : Int) ∨ (w : Int) = a.2.1 ∧ a.2.2 ≤ (i : Int)) ∧ (b.1 = 0 ∨ b.2.1 < (w : Int) ∨ (w : Int) = b.2.1 ∧ b.2.2 ≤ (i : Int)) := by omega
    exact ⟨fun h => ⟨this.2, h.2⟩, fun h => ⟨this.1, h.2⟩⟩
  · rw [ahe_iff]
    omega
theorem rows_join {l : List TW} {a b c : Brk} (m : Mid l b) (h1 : befB a b = true) (h2 : befB b c = true) : ∀ k : Nat, rowsTo a c l k = rowsTo a b l k ++ rowsTo b c l k ∧ ((k : Int) ≤ b.2.1 + 1 → rowsTo b c l k = [])
  | 0 => ⟨rfl, fun _ => rfl⟩
  | k + 1 => by
    obtain ⟨i1, i2⟩ := rows_join m h1 h2 k
    rw [rowsTo_succ, rowsTo_succ, rowsTo_succ]
    by_cases hk : (k : Int) ≤ b.2.1
    · obtain ⟨e1, e2⟩ := cut_low (a := a) m h2 hk
      rw [e1, e2, if_pos rfl, i1, i2 (by omega)]
      exact ⟨by simp, fun _ => rfl⟩
    · obtain ⟨e1, e2⟩ := cut_high (c := c) m h1 (Int.not_le.1 hk)
      rw [e1, e2, if_pos rfl, i1]
      exact ⟨by simp, fun h => absurd h (by omega)⟩
/-- Where a word ends with a hyphen, something stands. -/
theorem rows_some {b c : Brk} {l : List TW} {w : Nat} (hw : w < l.length) (h0 : 0 < (l.getD w ([], [])).1.length) (hc : (behB b w 0 && aheB c w 0) = true) : rowsTo b c l l.length ≠ [] := by
  have hne : cutW b c w (l.getD w ([], [])).1 ≠ [] := by
    unfold cutW
    obtain ⟨n, hn⟩ : ∃ n, (l.getD w ([], [])).1.length = n + 1 := ⟨_, (Nat.succ_pred_eq_of_pos h0).symm⟩
    rw [hn]
    clear hn h0
    induction n with
    | zero => rw [cutTo_succ, hc]; simp
    | succ n ih => rw [cutTo_succ]; intro e; exact ih (List.append_eq_nil_iff.1 e).1
  unfold rowsTo
  intro e
  have := List.flatMap_eq_nil_iff.1 e w (List.mem_range.2 hw)
  rw [if_neg hne] at this
  exact absurd this (by simp)
theorem bef_trans17 {a b c : Brk} (h1 : befB a b = true) (h2 : befB b c = true) : befB a c = true := by
  rw [bef_iff] at *
  omega
/-- Two lines parted at a space: one. -/
theorem join_pieces {l : List TW} {a b c : Brk} {x y : List (List Int)} (hb : b.1 = 1) (h1 : piA l a b = (x, 0)) (h2 : piA l b c = (y, 0)) : piA l a c = (x ++ y, 0) := by
  unfold piA at *
  split at h1
  · rename_i hc
    rw [if_pos hc] at h2 ⊢
    split at h1
    · rename_i g1
      split at h2
      · rename_i g2
        have g1 := g1
        obtain ⟨sa, sb, a5, ab⟩ := g1
        obtain ⟨_, sc, b5, bc⟩ := g2
        rw [if_pos ⟨sa, sc, a5, bef_trans17 ab bc⟩]
        have hs := sb
        unfold stB placeB at hs
        simp only [hb, Bool.and_eq_true, decide_eq_true_eq, hc, true_and, if_neg (by decide : ¬ (1 : Int) = 0), if_true] at hs
        obtain ⟨w0, w1, w2, w3⟩ := hs
        have m : Mid l b := ⟨hb, w0, fun w hw => by rw [show w = b.2.1.toNat by omega]; exact w3⟩
        obtain ⟨e1, _⟩ := rows_join m ab bc l.length
        have hh : hyB b = false := by simp [hyB, hb]
        unfold cutL at h1 h2 ⊢
        rw [if_neg (by rw [hh]; simp)] at h1
        simp only [Prod.mk.injEq, and_true] at h1 h2 ⊢
        rw [e1, h1]
        cases hy : hyB c with
        | false =>
          rw [hy] at h2
          rw [if_neg (by simp)] at h2 ⊢
          rw [h2]
        | true =>
          have hc2 : c.1 = 2 ∨ c.1 = 3 := by simpa [hyB] using hy
          have hs := sc
          unfold stB placeB at hs
          simp only [Bool.and_eq_true, decide_eq_true_eq, hc, true_and, if_neg (by omega : ¬ c.1 = 0), if_neg (by omega : ¬ c.1 = 1), if_neg (by omega : ¬ c.1 = 5)] at hs
          obtain ⟨v0, v1, _, _, v2, v3⟩ := hs
          have hbc := bef_iff.1 bc
          have hlen := m.a c.2.1.toNat
          have ne : rowsTo b c l l.length ≠ [] := rows_some (w := c.2.1.toNat) (by omega) (by omega) (by
            rw [Bool.and_eq_true, beh_iff, ahe_iff]
            omega)
          rw [hy] at h2
          rw [if_pos ⟨ne, rfl⟩] at h2
          rw [if_pos ⟨by simp [ne], rfl⟩]
          generalize rowsTo b c l l.length = o at *
          obtain ⟨i, z, rfl⟩ : ∃ i z, o = i ++ [z] := ⟨o.dropLast, o.getLast ne, (List.dropLast_concat_getLast ne).symm⟩
          rw [← List.append_assoc, putH_snoc, ← h2, putH_snoc, List.append_assoc]
      · simp at h2
    · simp at h1
  · simp at h1
end L17
end Go.Proofs.YtmmgmcfhlhghoaaGreatDoor

namespace Go.Proofs.YtmmgmcfhlhghoaaGreatDoor
open Go.RowKit
namespace L17
open L13 (TW tw checkB wordB)
open L16 (Brk befB bef_iff)

theorem cutTo_range {a b : Brk} {w lo hi : Nat} (cs : List Int) (h : ∀ i, i < cs.length → (behB a w i && aheB b w i) = (decide (lo ≤ i) && decide (i < hi))) : ∀ k, k ≤ cs.length → cutTo a b w cs k = (cs.take (min k hi)).drop lo
  | 0, _ => by simp [cutTo]
  | k + 1, hk => by
    rw [cutTo_succ, cutTo_range cs h k (by omega), h k (by omega)]
    have hg : cs.getD k 0 = cs[k] := by simp [List.getD, show k < cs.length from hk]
    by_cases h2 : k < hi
    · rw [Nat.min_eq_left (by omega), Nat.min_eq_left (by omega), List.take_succ_eq_append_getElem (show k < cs.length from hk), decide_eq_true h2, Bool.and_true, hg]
      by_cases h1 : lo ≤ k
      · rw [if_pos (decide_eq_true h1), List.drop_append_of_le_length (by rw [List.length_take]; omega)]
      · rw [if_neg (by simpa using h1), List.append_nil, List.drop_eq_nil_of_le (by rw [List.length_take]; omega), List.drop_eq_nil_of_le (by rw [List.length_append, List.length_take]; simp; omega)]
    · rw [Nat.min_eq_right (by omega), Nat.min_eq_right (by omega), decide_eq_false h2, Bool.and_false, if_neg (by decide), List.append_nil]
/-- Where the line behind a break begins. -/
def begW (a : Brk) : Nat := if a.1 = 1 then a.2.1.toNat + 1 else a.2.1.toNat
def begA (a : Brk) : Nat := if a.1 = 1 then 0 else a.2.2.toNat
theorem beg_cases (a : Brk) : a.1 = 1 ∧ begW a = a.2.1.toNat + 1 ∧ begA a = 0 ∨ a.1 ≠ 1 ∧ begW a = a.2.1.toNat ∧ begA a = a.2.2.toNat := by
  unfold begW begA
  by_cases h : a.1 = 1
  · exact .inl ⟨h, if_pos h, if_pos h⟩
  · exact .inr ⟨h, if_neg h, if_neg h⟩
/-- A word's codes behind that, the i-th word from there. -/
def fromW (l : List TW) (s f i : Nat) : List Int := (l.getD (s + i) ([], [])).1.drop (if i = 0 then f else 0)
def midsL (l : List TW) (s f m : Nat) : List (List Int) := (List.range m).map (fromW l s f)
theorem mids_succ (l : List TW) (s f m : Nat) : midsL l s f (m + 1) = midsL l s f m ++ [fromW l s f m] := by simp [midsL, List.range_succ]
def lastL (l : List TW) (s f q t : Nat) : List Int := ((l.getD q ([], [])).1.take t).drop (if q = s then f else 0)
/-- What two breaks of words, one ahead of the other, are. -/
structure Two (l : List TW) (a b : Brk) : Prop where
  bw : 0 ≤ b.2.1 ∧ b.2.1 < (l.length : Int)
  ba : 0 ≤ b.2.2 ∧ b.2.2 ≤ ((l.getD b.2.1.toNat ([], [])).1.length : Int)
  aw : 0 ≤ a.2.1 ∧ a.2.1 < (l.length : Int)
  aa : 0 ≤ a.2.2 ∧ a.2.2 ≤ ((l.getD a.2.1.toNat ([], [])).1.length : Int)
  a0 : a.1 = 0 → a.2.1 = 0 ∧ a.2.2 = 0
  a1 : a.1 = 1 → a.2.2 = ((l.getD a.2.1.toNat ([], [])).1.length : Int)
  a5 : a.1 ≠ 5
  an : a.1 ≠ 1 → a.2.2 < ((l.getD a.2.1.toNat ([], [])).1.length : Int)
  sq : begW a ≤ b.2.1.toNat
  ft : begW a = b.2.1.toNat → (begA a : Int) < b.2.2
  b1 : 0 < b.2.2
  all : ∀ w, w < l.length → 0 < (l.getD w ([], [])).1.length
theorem word_pos {l : List TW} (h : checkB l = true) : ∀ w, w < l.length → 0 < (l.getD w ([], [])).1.length := fun w hw => by
  simp only [checkB, Bool.and_eq_true, decide_eq_true_eq, List.all_eq_true] at h
  have h2 := h.2.1 l[w] (List.getElem_mem hw)
  simp only [L13.wordB, Bool.and_eq_true, decide_eq_true_eq] at h2
  have e : l.getD w ([], []) = l[w] := by simp [List.getD, hw]
  rw [e]
  omega
theorem st_parts {l : List TW} {b : Brk} (h : stB l b = true) : checkB l = true ∧ (0 ≤ b.2.1 ∧ b.2.1 < (l.length : Int)) ∧ (b.1 = 0 ∧ b.2.1 = 0 ∧ b.2.2 = 0 ∨ b.1 = 1 ∧ b.2.1 < (l.length : Int) - 1 ∧ b.2.2 = ((l.getD b.2.1.toNat ([], [])).1.length : Int) ∨ b.1 = 5 ∧ b.2.1 = (l.length : Int) - 1 ∧ b.2.2 = ((l.getD b.2.1.toNat ([], [])).1.length : Int) ∨ (2 ≤ b.1 ∧ b.1 ≤ 4) ∧ 1 ≤ b.2.2 ∧ b.2.2 < ((l.getD b.2.1.toNat ([], [])).1.length : Int)) := by
  unfold stB placeB at h
  generalize (l.getD b.2.1.toNat ([], [])).1.length = cl at *
  simp only [Bool.and_eq_true, decide_eq_true_eq] at h
  obtain ⟨h1, h2, h3, h4⟩ := h
  refine ⟨h1, ⟨h2, h3⟩, ?_⟩
  split at h4
  · simp only [Bool.and_eq_true, decide_eq_true_eq] at h4; omega
  · split at h4
    · simp only [Bool.and_eq_true, decide_eq_true_eq] at h4; omega
    · split at h4
      · simp only [Bool.and_eq_true, decide_eq_true_eq] at h4; omega
      · simp only [Bool.and_eq_true, decide_eq_true_eq] at h4; omega
theorem two_of {l : List TW} {a b : Brk} (ha : stB l a = true) (hb : stB l b = true) (h : befB a b = true) : Two l a b := by
  obtain ⟨hc, hw, hk⟩ := st_parts ha
  obtain ⟨_, gw, gk⟩ := st_parts hb
  have wp := word_pos hc
  have p1 := wp a.2.1.toNat (by omega)
  have p2 := wp b.2.1.toNat (by omega)
  have hb := bef_iff.1 h
  have hW := beg_cases a
  by_cases e : a.2.1 = b.2.1
  · rw [e] at hk p1 hw
    have e2 : a.2.1.toNat = b.2.1.toNat := by rw [e]
    generalize hz : (l.getD b.2.1.toNat ([], [])).1.length = cl at *
    refine ⟨gw, ?_, by omega, ?_, ?_, ?_, ?_, ?_, ?_, ?_, ?_, wp⟩
    all_goals (try rw [e2]; try rw [hz]) <;> omega
  · generalize hz : (l.getD b.2.1.toNat ([], [])).1.length = cl at *
    generalize hy : (l.getD a.2.1.toNat ([], [])).1.length = al at *
    refine ⟨gw, ?_, by omega, ?_, ?_, ?_, ?_, ?_, ?_, ?_, ?_, wp⟩
    all_goals (try rw [hz]; try rw [hy]) <;> omega
theorem rows_parts {l : List TW} {a b : Brk} (t : Two l a b) : ∀ k, k ≤ l.length → rowsTo a b l k = midsL l (begW a) (begA a) (min k b.2.1.toNat - begW a) ++ if b.2.1.toNat < k then [lastL l (begW a) (begA a) b.2.1.toNat b.2.2.toNat] else []
  | 0, _ => by simp [rowsTo, midsL]
  | k + 1, hk => by
    rw [rowsTo_succ, rows_parts t k (by omega)]
    have hp := t.all k (by omega)
    have hbw := t.bw
    have hba := t.ba
    have haw := t.aw
    have haa := t.aa
    have hb1 := t.b1
    have sq := t.sq
    have ft := t.ft
    have a0 := t.a0
    have a1 := t.a1
    have an := t.an
    have hW := beg_cases a
    by_cases h1 : k < begW a
    · have e : cutW a b k (l.getD k ([], [])).1 = [] := cutTo_none _ _ fun i hi => and_no (by
        rw [beh_iff]
        by_cases e1 : a.1 = 1
        · by_cases e2 : (k : Int) = a.2.1
          · have e3 : a.2.1.toNat = k := by omega
            rw [e3] at a1
            have := a1 e1
            omega
          · omega
        · omega)
      rw [e, if_pos rfl, List.append_nil, if_neg (by omega), if_neg (by omega), show min k b.2.1.toNat - begW a = 0 by omega, show min (k + 1) b.2.1.toNat - begW a = 0 by omega]
    · by_cases h2 : k ≤ b.2.1.toNat
      · have e : cutW a b k (l.getD k ([], [])).1 = ((l.getD k ([], [])).1.take (if k = b.2.1.toNat then b.2.2.toNat else (l.getD k ([], [])).1.length)).drop (if k = begW a then begA a else 0) := by
          unfold cutW
          rw [cutTo_range (lo := if k = begW a then begA a else 0) (hi := if k = b.2.1.toNat then b.2.2.toNat else (l.getD k ([], [])).1.length) _ (fun i hi => ?_) _ (Nat.le_refl _)]
          · congr 2
            split
            · rename_i e2; subst e2; omega
            · omega
          · refine and_same ?_
            rw [beh_iff, ahe_iff, decide_eq_true_eq, decide_eq_true_eq]
            have q1 : (a.1 = 0 ∨ a.2.1 < (k : Int) ∨ (k : Int) = a.2.1 ∧ a.2.2 ≤ (i : Int)) ↔ (if k = begW a then begA a else 0) ≤ i := by
              split <;> omega
            have q2 : ((k : Int) < b.2.1 ∨ (k : Int) = b.2.1 ∧ (i : Int) < b.2.2) ↔ i < (if k = b.2.1.toNat then b.2.2.toNat else (l.getD k ([], [])).1.length) := by
              split <;> omega
            rw [q1, q2]
        have hlt : (if k = begW a then begA a else 0) < (if k = b.2.1.toNat then b.2.2.toNat else (l.getD k ([], [])).1.length) := by
          by_cases e1 : k = begW a
          · rw [if_pos e1]
            by_cases e2 : k = b.2.1.toNat
            · rw [if_pos e2]
              have := ft (by omega)
              omega
            · rw [if_neg e2]
              by_cases e3 : a.1 = 1
              · omega
              · have e4 : a.2.1.toNat = k := by omega
                rw [e4] at an
                have := an e3
                omega
          · rw [if_neg e1]
            split <;> omega
        have ne : cutW a b k (l.getD k ([], [])).1 ≠ [] := by
          rw [e]
          intro h
          have := congrArg List.length h
          rw [List.length_drop, List.length_take] at this
          simp only [List.length_nil] at this
          have hm : (if k = b.2.1.toNat then b.2.2.toNat else (l.getD k ([], [])).1.length) ≤ (l.getD k ([], [])).1.length := by
            split
            · rename_i e2; subst e2; omega
            · exact Nat.le_refl _
          omega
        rw [if_neg ne, e, if_neg (show ¬ b.2.1.toNat < k by omega), List.append_nil]
        clear e hlt ne
        by_cases h3 : k = b.2.1.toNat
        · have z1 : (if k = b.2.1.toNat then b.2.2.toNat else (l.getD k ([], [])).1.length) = b.2.2.toNat := if_pos h3
          rw [z1, if_pos (show b.2.1.toNat < k + 1 by omega), show min (k + 1) b.2.1.toNat - begW a = min k b.2.1.toNat - begW a by omega]
          unfold lastL
          rw [← h3]
        · have z1 : (if k = b.2.1.toNat then b.2.2.toNat else (l.getD k ([], [])).1.length) = (l.getD k ([], [])).1.length := if_neg h3
          rw [z1, if_neg (show ¬ b.2.1.toNat < k + 1 by omega), List.append_nil, List.take_length, show min (k + 1) b.2.1.toNat - begW a = min k b.2.1.toNat - begW a + 1 by omega, mids_succ]
          congr 2
          unfold fromW
          rw [show begW a + (min k b.2.1.toNat - begW a) = k by omega]
          by_cases e1 : k = begW a
          · rw [if_pos e1, if_pos (by omega)]
          · rw [if_neg e1, if_neg (by omega)]
      · have e : cutW a b k (l.getD k ([], [])).1 = [] := cutTo_none _ _ fun i hi => and_no (by
          rw [ahe_iff]
          omega)
        rw [e, if_pos rfl, List.append_nil, if_pos (by omega), if_pos (by omega), show min (k + 1) b.2.1.toNat = min k b.2.1.toNat by omega]
/-- A line's pieces: of whole words, and of the one in which it ends. -/
theorem cutL_parts {l : List TW} {a b : Brk} (ha : stB l a = true) (hb : stB l b = true) (h : befB a b = true) :
    cutL a b l = midsL l (begW a) (begA a) (b.2.1.toNat - begW a) ++ [lastL l (begW a) (begA a) b.2.1.toNat b.2.2.toNat ++ if hyB b = true then [45] else []] := by
  have t := two_of ha hb h
  have e := rows_parts t l.length (Nat.le_refl _)
  have hbw := t.bw
  rw [if_pos (by omega), Nat.min_eq_right (by omega)] at e
  unfold cutL
  rw [e]
  by_cases hy : hyB b = true
  · rw [if_pos ⟨by simp, hy⟩, putH_snoc, if_pos hy]
  · rw [if_neg (fun h => hy h.2), if_neg hy, List.append_nil]
end L17
end Go.Proofs.YtmmgmcfhlhghoaaGreatDoor

namespace Go.Proofs.YtmmgmcfhlhghoaaGreatDoor
open Go.RowKit
namespace L17

theorem ownsRow_at {w w' : World} {base n size : Nat} {e : TypeId} {v : Value} {xs : List Value} (h : w.ownsRow base e size v n xs) (x : ∀ g, v.ownBlock = some g → w'.heap[g]? = w.heap[g]?) : w'.ownsRow base e size v n xs := by
  refine ⟨h.1, ?_⟩
  rcases h.2 with hn | ⟨g, cap, cur, rfl, hb, hgg, rest⟩
  · exact .inl hn
  · exact .inr ⟨g, cap, cur, rfl, hb, (x g rfl).trans hgg, rest⟩
theorem seenL_at {w w' : World} {A : Option Addr} {ns : List Int} (h : SeenL w A ns) (hs : w.heap.size ≤ w'.heap.size) (x : ∀ ad, A = some ad → w'.heap[ad.block]? = w.heap[ad.block]?) : SeenL w' A ns := fun k v hv => by
  obtain ⟨ad, e, hb, hc⟩ := h k v hv
  refine ⟨ad, e, Nat.lt_of_lt_of_le hb hs, ?_⟩
  have h2 := x ad e
  rw [← hc]
  unfold World.cell?
  rw [addr_block, h2]
/-- One's own rows: the last one may grow, and lies apart. -/
def OwnT (w0 w : World) (v : Value) (rs : List RI) : Prop := OwnR w0 w v rs ∧ ∀ i z, rs = i ++ [z] →
  w.ownsRow w0.heap.size 3 1 (riV z) z.ns.length (z.ns.map (.int .i64)) ∧ ∀ x ∈ i, ∀ ad be : Addr, x.A = some ad → z.A = some be → ad.block ≠ be.block
theorem OwnT.nil {w0 w : World} (x : Ext w0 w) : OwnT w0 w (.slice none 0 0) [] := ⟨OwnR.nil x, fun i z h => by simp at h⟩
theorem OwnT.over {w0 w w' : World} {v : Value} {rs : List RI} (h : OwnT w0 w v rs) (x : Ext w w') : OwnT w0 w' v rs := ⟨h.1.over x, fun i z e => ⟨OwnsRow.ext (h.2 i z e).1 x, (h.2 i z e).2⟩⟩
/-- append(own, nil). -/
theorem OwnT.fresh {w0 w : World} {v : Value} {rs : List RI} (h : OwnT w0 w v rs) (hm : rs.length + 1 ≤ 1000000) (ty : TypeId) :
    ∃ v' w', (Builtin.append_ #[45, 45] ty #[v, .slice (some ⟨w.heap.size, 0, none⟩) 1 1]).run Tryz.prog (w.alloc (.cells #[.slice none 0 0] 48)) = .ok v' w' ∧ OwnT w0 w' v' (rs ++ [⟨[], none, 0⟩]) := by
  obtain ⟨v', w', hr, ho⟩ := h.1.put ⟨[], none, 0⟩ SeenL.nil (fun ad e => by cases e) hm ty
  refine ⟨v', w', hr, ho, fun i z e => ?_⟩
  obtain ⟨_, e2⟩ := List.append_inj' e rfl
  simp only [List.cons.injEq, and_true] at e2
  subst e2
  exact ⟨World.ownsRow_nil _ _ _ _, fun x _ ad be _ h2 => by cases h2⟩
/-- own[last] = append(own[last], more...). -/
theorem OwnT.grow {w0 w : World} {g n cap : Nat} {i : List RI} {z : RI} (h : OwnT w0 w (.slice (some ⟨g, 0, none⟩) n cap) (i ++ [z])) (A : Option Addr) (m : List Int) (k c : Nat) (hs : SeenL w A m) (hk : k = m.length) (hm : z.ns.length + m.length ≤ 1000000) (ty : TypeId) :
    ∃ A' c' w', (Builtin.append_ #[48, 48] ty #[.slice z.A z.ns.length z.c, .slice A k c]).run Tryz.prog w = .ok (.slice A' (z.ns.length + m.length) c') w' ∧ w'.cell? ⟨g, i.length, none⟩ = some (.slice z.A z.ns.length z.c) ∧ w'.frozen? ⟨g, i.length, none⟩ = false ∧
      OwnT w0 (w'.setCell ⟨g, i.length, none⟩ (.slice A' (z.ns.length + m.length) c')) (.slice (some ⟨g, 0, none⟩) n cap) (i ++ [⟨z.ns ++ m, A', c'⟩]) := by
  subst hk
  obtain ⟨hz, hd⟩ := h.2 i z rfl
  have hn : n = i.length + 1 := by
    rcases h.1.1.2 with ⟨e, _⟩ | ⟨g2, cap2, cur, e, _⟩
    · cases e
    · simp only [Value.slice.injEq] at e
      rw [e.2.1]; simp
  subst hn
  obtain ⟨cg, hgg⟩ : ∃ cs, w.heap[g]? = some (.cells cs 48 (0, 0)) := by
    rcases h.1.1.2 with ⟨e, _⟩ | ⟨g2, cap2, cur, e, _, hb, _⟩
    · cases e
    · simp only [Value.slice.injEq, Option.some.injEq, Addr.mk.injEq, and_true] at e
      rw [e.1]; exact ⟨cur, hb⟩
  have hgz : ∀ k, (riV z).ownBlock = some k → k ≠ g := fun k hk e => by
    subst e
    rcases hz.2 with ⟨e, _⟩ | ⟨g2, cap2, cur, e, _, hb, _⟩
    · rw [e] at hk; cases hk
    · rw [e] at hk
      cases hk
      rw [hgg] at hb
      simp only [Option.some.injEq, Obj.cells.injEq] at hb
      exact absurd hb.2.1 (by decide)
  have hglt : g < w.heap.size := (Array.getElem?_eq_some_iff.1 hgg).1
  -- the row grows
  obtain ⟨v', w', hr, ho, hgr, hb'⟩ : ∃ v' w', (Builtin.append_ #[48, 48] ty #[riV z, .slice A m.length c]).run Tryz.prog w = .ok v' w' ∧ w'.ownsRow w0.heap.size 3 1 v' (z.ns ++ m).length ((z.ns ++ m).map (.int .i64)) ∧ w.grownBy w' (riV z).ownBlock ∧
      (v'.ownBlock = (riV z).ownBlock ∨ v'.ownBlock = some w.heap.size) := by
    obtain ⟨ii, hi, hz0, hsz, hby⟩ := info_parts int_info12
    rcases A with _ | ad
    · have hl : m = [] := by
        rcases m with _ | ⟨b, m⟩
        · rfl
        · obtain ⟨_, e, _⟩ := hs.get (k := 0) (by simp); cases e
      subst hl
      refine ⟨riV z, w, ?_, by simpa using hz, ⟨rfl, rfl, rfl, Nat.le_refl _, fun _ _ _ => rfl⟩, .inl rfl⟩
      rcases hz.2 with ⟨e, _⟩ | ⟨g, cap, cur, e, _, _, hnc, _⟩
      · rw [e]; simp [Builtin.append_, run_underlying Tryz.underlying48, Go.sizeOf, typeInfo, hi, Builtin.lenOf, Builtin.firstCells]
      · rw [e]; simp [Builtin.append_, run_underlying Tryz.underlying48, Go.sizeOf, typeInfo, hi, Builtin.lenOf, Builtin.firstCells, hnc, storeCells]
    · obtain ⟨v', w', hr, ho, hg, _, hb⟩ := run_append_own_at (P := Tryz.prog) w w0.heap.size 48 ty 3 ii (.int .i64 0) 1 8 Tryz.underlying48 hi hz0 hsz hby rfl (by omega) (riV z) z.ns.length (z.ns.map (.int .i64)) hz ad m.length c (m.map (.int .i64)) (by simp)
        (fun j u hu => by
          obtain ⟨ad', e, _, hc⟩ := hs j u hu
          cases e
          exact hc) (by simp [Value.oneCell']) (by unfold maxLen; omega) (by omega) h.1.2.1.size
      exact ⟨v', w', hr, by rw [List.length_append, List.map_append]; exact ho, hg, hb⟩
  have x' : Ext w0 w' := Below.grown h.1.2.1 hgr h.1.2.1.size (fun k hk => (hz.lt k hk).1)
  have oi : OwnI w0 w' v' (z.ns ++ m) := ⟨ho, x'⟩
  obtain ⟨A', c', ev, s', -⟩ := oi.seen
  subst ev
  have ty' := OwnI.typed oi
  have hlen : (z.ns ++ m).length = z.ns.length + m.length := List.length_append
  rw [hlen] at hr ho hb'
  have hg' : w'.heap[g]? = some (.cells cg 48 (0, 0)) := (hgr.block g hglt (fun e => hgz g e.symm rfl)).trans hgg
  have hrow := ownsRow_at h.1.1 (w' := w') (fun k hk => by cases hk; rw [hg', hgg])
  have hcell := row_cell (w := w') (base := w0.heap.size) (e := 48) (n := i.length + 1) (g := g) (cap := cap) (xs := (i ++ [z]).map riV) (by have := hrow; rwa [show (i ++ [z]).length = i.length + 1 by simp] at this) (i := i.length) (by omega)
  have hc1 : w'.cell? ⟨g, i.length, none⟩ = some (.slice z.A z.ns.length z.c) := by rw [hcell.1]; simp [riV]
  have hset := row_set (w := w') (base := w0.heap.size) (e := 48) (n := i.length + 1) (g := g) (cap := cap) (xs := (i ++ [z]).map riV) (by have := hrow; rwa [show (i ++ [z]).length = i.length + 1 by simp] at this) i.length (.slice A' (z.ns.length + m.length) c')
  have gr : w'.grownBy (w'.setCell ⟨g, i.length, none⟩ (.slice A' (z.ns.length + m.length) c')) (some g) := grown_set w' g i.length _
  have hgt : ∀ k, some g = some k → ∃ cs f, w'.heap[k]? = some (.cells cs 48 f) := fun k hk => by cases hk; exact ⟨cg, (0, 0), hg'⟩
  have hown : ∀ x ∈ i, SeenL w' x.A x.ns ∧ TypedI w' x.A := fun x hx => by
    have h0 := h.1.2.2 x (by simp [hx])
    have hsame : ∀ ad, x.A = some ad → w'.heap[ad.block]? = w.heap[ad.block]? := fun ad e => by
      obtain ⟨cs, f, hb⟩ := h0.2 ad e
      refine hgr.block _ (Array.getElem?_eq_some_iff.1 hb).1 fun e2 => ?_
      unfold riV at e2
      rcases hzA : z.A with _ | be
      · rw [hzA] at e2; cases e2
      · rw [hzA] at e2
        simp only [Value.ownBlock, Option.some.injEq] at e2
        exact hd x hx ad be e hzA e2
    refine ⟨seenL_at h0.1 hgr.size hsame, fun ad e => ?_⟩
    obtain ⟨cs, f, hb⟩ := h0.2 ad e
    exact ⟨cs, f, (hsame ad e).trans hb⟩
  refine ⟨A', c', w', hr, hc1, hcell.2, ⟨?_, x'.setCell (h.1.1.lt g rfl).1 _, fun y hy => ?_⟩, fun i2 z2 e => ?_⟩
  · have e1 : ((i ++ [z]).map riV).set i.length (.slice A' (z.ns.length + m.length) c') = (i ++ [(⟨z.ns ++ m, A', c'⟩ : RI)]).map riV := by simp [riV]
    rw [e1] at hset
    rw [show (i ++ [(⟨z.ns ++ m, A', c'⟩ : RI)]).length = i.length + 1 by simp]
    exact hset
  · rcases List.mem_append.1 hy with hy | hy
    · exact seenL_grown (hown y hy).1 (hown y hy).2 gr hgt
    · rw [List.mem_singleton.1 hy]
      exact seenL_grown s' ty' gr hgt
  · obtain ⟨e1, e2⟩ := List.append_inj' e rfl
    simp only [List.cons.injEq, and_true] at e2
    subst e1 e2
    refine ⟨?_, fun x hx ad be ha hbe hne => ?_⟩
    · unfold riV
      dsimp only
      rw [hlen]
      refine ownsRow_at ho fun k hk => gr.block k ?_ fun e3 => ?_
      · rcases hb' with e4 | e4
        · exact Nat.lt_of_lt_of_le (hz.lt k (e4 ▸ hk)).2 hgr.size
        · rw [e4] at hk; cases hk
          exact (ho.lt w.heap.size e4).2
      · cases e3
        rcases hb' with e4 | e4
        · exact hgz g (e4 ▸ hk) rfl
        · rw [e4] at hk; cases hk; omega
    · have h0 := h.1.2.2 x (by simp [hx])
      obtain ⟨cs, f, hb⟩ := h0.2 ad ha
      have hlt := (Array.getElem?_eq_some_iff.1 hb).1
      dsimp only at hbe
      rw [hbe] at hb'
      simp only [Value.ownBlock] at hb'
      rcases hb' with e4 | e4
      · unfold riV at e4
        rcases hzA : z.A with _ | bz
        · rw [hzA] at e4; cases e4
        · rw [hzA] at e4
          simp only [Option.some.injEq] at e4
          exact hd x hx ad bz ha hzA (by omega)
      · simp only [Option.some.injEq] at e4
        omega
end L17
end Go.Proofs.YtmmgmcfhlhghoaaGreatDoor

