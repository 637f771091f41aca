/- Lists of lists of numbers; one's own, to which more are put; the same? -/
import Derived.Test.YtmmgmcfhlhghoaaOwnI12
import Derived.Test.YtmmgmcfhlhghoaaSameLib
import Derived.Test.YtmmgmcfhlhghoaaKp
import Derived.Deep.QuietTactic
import Derived.BigQuiet
import Derived.Lib.QuietBelow
namespace Go.Proofs.Ytmmgmcfhlhghoaa
open Go.RowKit
namespace L17

/-- A list of numbers, and where it lies. -/
structure RI where
  ns : List Int
  A : Option Addr
  c : Nat
def riV (x : RI) : Value := .slice x.A x.ns.length x.c
def nsL (l : List RI) : List (List Int) := l.map RI.ns
/-- A list of lists that is seen. -/
def SeenR (w : World) (A : Option Addr) (l : List RI) : Prop := Seen w.heap.size w A (l.map riV) ∧ ∀ x ∈ l, SeenL w x.A x.ns
theorem SeenR.ext {w w' : World} {A : Option Addr} {l : List RI} (h : SeenR w A l) (x : Ext w w') : SeenR w' A l := ⟨Seen.ext h.1 x, fun y hy => (h.2 y hy).ext x⟩
theorem SeenR.nil {w : World} {A : Option Addr} : SeenR w A [] := ⟨Seen.nil, fun x h => by simp at h⟩
theorem SeenR.get {w : World} {A : Option Addr} {l : List RI} (h : SeenR w A l) {k : Nat} (hk : k < l.length) : (∃ ad, A = some ad ∧ w.cell? (ad.add k) = some (riV l[k])) ∧ SeenL w l[k].A l[k].ns := by
  obtain ⟨ad, e, _, hc⟩ := Seen.get h.1 (k := k) (by simpa using hk)
  exact ⟨⟨ad, e, by rw [hc]; simp⟩, h.2 _ (List.getElem_mem hk)⟩
/-- It lies among numbers. -/
def TypedI (w : World) (A : Option Addr) : Prop := ∀ ad, A = some ad → ∃ cs f, w.heap[ad.block]? = some (.cells cs 3 f)
theorem TypedI.ext {w w' : World} {A : Option Addr} (h : TypedI w A) (x : Ext w w') : TypedI w' A := fun ad e => by
  obtain ⟨cs, f, hb⟩ := h ad e
  exact ⟨cs, f, (x.block _ (Array.getElem?_eq_some_iff.1 hb).1).trans hb⟩
theorem OwnI.typed {w0 w : World} {A : Option Addr} {n c : Nat} {l : List Int} (h : OwnI w0 w (.slice A n c) l) : TypedI w A := fun ad e => by
  rcases h.1.2 with ⟨e1, _⟩ | ⟨g, cap, cur, e1, _, hb, _⟩
  · simp only [Value.slice.injEq] at e1
    rw [e] at e1; cases e1.1
  · simp only [Value.slice.injEq] at e1
    rw [e] at e1
    obtain ⟨e2, _⟩ := e1
    cases e2
    exact ⟨cur, (0, 0), hb⟩
theorem OwnI.cap {w0 w : World} {v : Value} {l : List Int} (h : OwnI w0 w v l) : ∃ A c, v = .slice A l.length c ∧ l.length ≤ c ∧ SeenL w A l ∧ TypedI w A := by
  obtain ⟨A, c, e, hs, _⟩ := h.seen
  subst e
  refine ⟨A, c, rfl, ?_, hs, OwnI.typed h⟩
  rcases h.1.2 with ⟨e, _⟩ | ⟨g, cap, cur, e, _, _, hc, _⟩
  · simp only [Value.slice.injEq] at e; omega
  · simp only [Value.slice.injEq] at e; omega
/-- One's own list of lists: its rows lie in blocks of another type. -/
def OwnR (w0 w : World) (v : Value) (l : List RI) : Prop := w.ownsRow w0.heap.size 36 1 v l.length (l.map riV) ∧ Ext w0 w ∧ ∀ x ∈ l, SeenL w x.A x.ns ∧ TypedI w x.A
theorem OwnR.nil {w0 w : World} (x : Ext w0 w) : OwnR w0 w (.slice none 0 0) [] := ⟨World.ownsRow_nil _ _ _ _, x, fun x h => by simp at h⟩
theorem OwnR.over {w0 w w' : World} {v : Value} {l : List RI} (h : OwnR w0 w v l) (x : Ext w w') : OwnR w0 w' v l := ⟨OwnsRow.ext h.1 x, h.2.1.trans x, fun y hy => ⟨(h.2.2 y hy).1.ext x, (h.2.2 y hy).2.ext x⟩⟩
theorem OwnR.down {w0 W w' : World} {v : Value} {l : List RI} (x : Ext w0 W) (h : OwnR W w' v l) : OwnR w0 w' v l :=
  ⟨⟨h.1.1, h.1.2.imp id fun ⟨g, cap, cur, e, hb, r⟩ => ⟨g, cap, cur, e, Nat.le_trans x.size hb, r⟩⟩, x.trans h.2.1, h.2.2⟩
theorem OwnR.seen {w0 w : World} {v : Value} {l : List RI} (h : OwnR w0 w v l) : ∃ A c, v = .slice A l.length c ∧ SeenR w A l := by
  obtain ⟨A, c, rfl, hs⟩ := own_seen h.1
  exact ⟨A, c, rfl, hs, fun x hx => (h.2.2 x hx).1⟩
/-- Numbers stay, where a block of another type turns. -/
theorem seenL_grown {w w' : World} {r : Option Nat} {A : Option Addr} {ns : List Int} (h : SeenL w A ns) (ht : TypedI w A) (g : w.grownBy w' r) (hr : ∀ k, r = some k → ∃ cs f, w.heap[k]? = some (.cells cs 36 f)) : SeenL w' A ns ∧ TypedI w' A := by
  have hne : ∀ ad, A = some ad → w'.heap[ad.block]? = w.heap[ad.block]? := fun ad e => by
    obtain ⟨cs, f, hb⟩ := ht ad e
    refine g.block _ (Array.getElem?_eq_some_iff.1 hb).1 fun e2 => ?_
    obtain ⟨cs2, f2, hb2⟩ := hr _ e2.symm
    rw [hb] at hb2
    simp only [Option.some.injEq, Obj.cells.injEq] at hb2
    exact absurd hb2.2.1 (by decide)
  refine ⟨fun k v hv => ?_, fun ad e => ?_⟩
  · obtain ⟨ad, e, hb, hc⟩ := h k v hv
    refine ⟨ad, e, Nat.lt_of_lt_of_le hb g.size, ?_⟩
    have h2 := hne ad e
    rw [← hc]
    unfold World.cell?
    rw [addr_block, h2]
  · obtain ⟨cs, f, hb⟩ := ht ad e
    exact ⟨cs, f, (hne ad e).trans hb⟩
theorem ints_info17 : (Try.prog.info? 36).map (fun i => (i.zero, i.size, i.bytes)) = some (some (.slice none 0 0), 1, 24) := by kernel_rfl
/-- append(own, more...). -/
theorem OwnR.puts {w0 w : World} {v : Value} {l : List RI} (h : OwnR w0 w v l) (A : Option Addr) (m : List RI) (n c : Nat) (hs : SeenR w A m) (hty : ∀ x ∈ m, TypedI w x.A) (hn : n = m.length) (hm : l.length + m.length ≤ 1000000) (ty : TypeId) :
    ∃ v' w', (Builtin.append_ #[27, 27] ty #[v, .slice A n c]).run Try.prog w = .ok v' w' ∧ OwnR w0 w' v' (l ++ m) := by
  subst hn
  obtain ⟨i, hi, hz0, hsz, hby⟩ := info_parts ints_info17
  rcases A with _ | ad
  · have hl : m = [] := by
      rcases m with _ | ⟨b, m⟩
      · rfl
      · obtain ⟨⟨_, e, _⟩, _⟩ := hs.get (k := 0) (by simp); cases e
    subst hl
    refine ⟨v, w, ?_, by simpa using h⟩
    rcases h.1.2 with ⟨rfl, _⟩ | ⟨g, cap, cur, rfl, _, _, hnc, _⟩
    · simp [Builtin.append_, run_underlying Try.underlying27, Go.sizeOf, typeInfo, hi, Builtin.lenOf, Builtin.firstCells]
    · simp [Builtin.append_, run_underlying Try.underlying27, Go.sizeOf, typeInfo, hi, Builtin.lenOf, Builtin.firstCells, hnc, storeCells]
  · obtain ⟨v', w', hr, ho, hg, _, _⟩ := run_append_own_at (P := Try.prog) w w0.heap.size 27 ty 36 i (.slice none 0 0) 1 24 Try.underlying27 hi hz0 hsz hby rfl (by omega) v l.length (l.map riV) h.1 ad m.length c (m.map riV) (by simp)
      (fun j u hu => by
        obtain ⟨ad', e, _, hc⟩ := hs.1 j u hu
        cases e
        exact hc) (by intro v hv; obtain ⟨x, _, rfl⟩ := List.mem_map.1 hv; rfl) (by unfold maxLen; omega) (by omega) h.2.1.size
    have hb : ∀ k, v.ownBlock = some k → ∃ cs f, w.heap[k]? = some (.cells cs 36 f) := fun k hk => by
      rcases h.1.2 with ⟨e, _⟩ | ⟨g, cap, cur, e, _, hgg, _⟩
      · rw [e] at hk; cases hk
      · rw [e] at hk
        cases hk
        exact ⟨cur, (0, 0), hgg⟩
    refine ⟨v', w', hr, ?_, Below.grown h.2.1 hg h.2.1.size (fun k hk => (h.1.lt k hk).1), fun x hx => ?_⟩
    · rw [List.length_append, List.map_append]
      exact ho
    · rcases List.mem_append.1 hx with hx | hx
      · exact seenL_grown (h.2.2 x hx).1 (h.2.2 x hx).2 hg hb
      · exact seenL_grown (hs.2 x hx) (hty x hx) hg hb
/-- append(own, x). -/
theorem OwnR.put {w0 w : World} {v : Value} {l : List RI} (h : OwnR w0 w v l) (x : RI) (hx : SeenL w x.A x.ns) (ht : TypedI w x.A) (hm : l.length + 1 ≤ 1000000) (ty : TypeId) :
    ∃ v' w', (Builtin.append_ #[27, 27] ty #[v, .slice (some ⟨w.heap.size, 0, none⟩) 1 1]).run Try.prog (w.alloc (.cells #[riV x] 36)) = .ok v' w' ∧ OwnR w0 w' v' (l ++ [x]) := by
  have hX : Ext w (w.alloc (.cells #[riV x] 36)) := (Ext.refl w).alloc _
  refine (h.over hX).puts _ [x] 1 1 ⟨seen_new w [riV x] 36, fun y hy => ?_⟩ (fun y hy => ?_) rfl (by simpa using hm) ty
  · rw [List.mem_singleton.1 hy]; exact hx.ext hX
  · rw [List.mem_singleton.1 hy]; exact ht.ext hX
/-- Its last one. -/
theorem OwnR.form {w0 w : World} {v : Value} {l : List RI} {z : RI} (h : OwnR w0 w v (l ++ [z])) : ∃ g cap, v = .slice (some ⟨g, 0, none⟩) (l.length + 1) cap ∧ w.cell? ⟨g, l.length, none⟩ = some (riV z) ∧ w.frozen? ⟨g, l.length, none⟩ = false := by
  have hl : (l ++ [z]).length = l.length + 1 := by simp
  rcases h.1.2 with ⟨_, e⟩ | ⟨g, cap, cur, e, _⟩
  · rw [hl] at e; omega
  · rw [hl] at e
    subst e
    have hr := row_cell (w := w) (base := w0.heap.size) (e := 36) (n := l.length + 1) (g := g) (cap := cap) (xs := (l ++ [z]).map riV) (by have := h.1; rwa [hl] at this) (i := l.length) (by omega)
    exact ⟨g, cap, rfl, by rw [hr.1]; simp, hr.2⟩
theorem grown_set (w : World) (b i : Nat) (v : Value) : w.grownBy (w.setCell ⟨b, i, none⟩ v) (some b) :=
  ⟨rfl, rfl, rfl, by simp [World.setCell], fun k _ hk => Below.heap_setCell _ _ _ _ (fun e => hk (by simp [e]))⟩
/-- The last one is written over. -/
theorem OwnR.last {w0 w : World} {g n cap : Nat} {l : List RI} {z : RI} (h : OwnR w0 w (.slice (some ⟨g, 0, none⟩) n cap) (l ++ [z])) (x : RI) (hx : SeenL w x.A x.ns) (ht : TypedI w x.A) :
    OwnR w0 (w.setCell ⟨g, l.length, none⟩ (riV x)) (.slice (some ⟨g, 0, none⟩) n cap) (l ++ [x]) := by
  have hn : n = l.length + 1 := by
    rcases h.1.2 with ⟨e, _⟩ | ⟨g2, cap2, cur, e, _⟩
    · cases e
    · simp only [Value.slice.injEq] at e
      rw [e.2.1]; simp
  have hgg : ∃ cs f, w.heap[g]? = some (.cells cs 36 f) := by
    rcases h.1.2 with ⟨e, _⟩ | ⟨g2, cap2, cur, e, _, hb, _⟩
    · cases e
    · simp only [Value.slice.injEq, Option.some.injEq, Addr.mk.injEq, and_true] at e
      rw [e.1]; exact ⟨cur, (0, 0), hb⟩
  have hr := row_set (w := w) (base := w0.heap.size) (e := 36) (n := n) (g := g) (cap := cap) (xs := (l ++ [z]).map riV) (by have := h.1; rwa [show (l ++ [z]).length = n by simp [hn]] at this) l.length (riV x)
  have e1 : ((l ++ [z]).map riV).set l.length (riV x) = (l ++ [x]).map riV := by simp
  rw [e1] at hr
  have hb : ∀ k, some g = some k → ∃ cs f, w.heap[k]? = some (.cells cs 36 f) := fun k hk => by cases hk; exact hgg
  have gr : w.grownBy (w.setCell ⟨g, l.length, none⟩ (riV x)) (some g) := grown_set w g l.length (riV x)
  refine ⟨by rw [show (l ++ [x]).length = n by simp [hn]]; exact hr, h.2.1.setCell (by have := (h.1.lt g rfl).1; exact this) _, fun y hy => ?_⟩
  rcases List.mem_append.1 hy with hy | hy
  · have := h.2.2 y (List.mem_append_left _ hy)
    exact seenL_grown this.1 this.2 gr hb
  · rw [List.mem_singleton.1 hy]
    exact seenL_grown hx ht gr hb
/-! ### The same? -/
theorem ret_b {a b : Bool} (h : a = b) : Ending.returned (.bool a) = .returned (.bool b) := by rw [h]
theorem rg17 {f : FuncId} {args : Array Value} {w : World} {d : Nat} {os : Array Obj} {v : Value} (h : Calls Try.prog f args (Sort.grow (redrawn w d) os) (Ret (Sort.grow (redrawn w d) os) v)) :
    Calls Try.prog f args (Sort.grow (redrawn w d) os) fun e w'' => e = .returned v ∧ ∃ p : Regrown, w'' = Sort.grow (redrawn w p.d) p.os := Calls.regrown_of h
theorem same_ints (A B : Option Addr) (l m : List Int) (c d : Nat) (w : World) (hs : SeenL w A l) (ht : SeenL w B m) (hn : l.length ≤ 9223372036854775806) :
    Calls Try.prog 24 #[.slice A l.length c, .slice B m.length d] w (Ret w (.bool (decide (l = m)))) := by
  have := L04.same_any A B l.length m.length c d _ _ w hs.fn ht.fn hn
  have e : L04.sameB l.length m.length (fun j => l.getD j 0) (fun j => m.getD j 0) = decide (l = m) := by
    unfold L04.sameB
    rw [decide_eq_decide]
    constructor
    · rintro ⟨h1, h2⟩
      apply List.ext_getElem h1
      intro j hj hj'
      have := h2 j hj
      simpa [List.getD, hj, hj'] using this
    · rintro rfl
      exact ⟨rfl, fun _ _ => rfl⟩
  rwa [e] at this
set_option maxRecDepth 100000 in
set_option maxHeartbeats 4000000 in
theorem rsame_any (A B : Option Addr) (l m : List RI) (n c k d : Nat) (w : World) (hs : SeenR w A l) (ht : SeenR w B m) (hn : n = l.length) (hk : k = m.length) (hl : l.length ≤ 1000000) (hx : ∀ x ∈ l, x.ns.length ≤ 1000000) :
    Calls Try.prog 12 #[.slice A n c, .slice B k d] w (Ret w (.bool (decide (nsL l = nsL m)))) := by
  have HS := Lib.hid hs
  have HT := Lib.hid ht
  have HN := Lib.hid hn
  have HK := Lib.hid hk
  have HX1 := Lib.hid hx
  by_cases h1 : n = k
  · subst h1
    have hn64 : (n : Int) ≤ 1000000 := by omega
    clear hs ht hn hk hl hx
    go_enter Try.func12, Try.ntmps12
    go_wp2_with fail
    go_loopw [5] (fun i wr => ∃ (j : Nat), j ≤ n ∧ i = .int .i64 j ∧ Hid ((nsL l).take j = (nsL m).take j) ∧ Hid (Ext w wr)) (fun i _ => n - (intOf i).toNat)
    case atStart => exact ⟨0, by omega, rfl, Lib.hid rfl, Lib.hid (Ext.refl _)⟩
    case round =>
      obtain ⟨j, hj, rfl, ha, HX⟩ := hrel
      obtain ⟨wo, rfl⟩ : ∃ wo : World, wo = wr := ⟨_, rfl⟩
      by_cases hlt : j < n
      · have hj64 : (j : Int) < (n : Int) := by omega
        have hjl : j < l.length := by have := HN.out; omega
        have hjm : j < m.length := by have := HK.out; omega
        obtain ⟨⟨ad, rfl, c0⟩, sx⟩ := (HS.out.ext HX.out).get hjl
        obtain ⟨⟨be, rfl, d0⟩, sy⟩ := (HT.out.ext HX.out).get hjm
        have T1 := Lib.hid (show (nsL l).take (j + 1) = (nsL l).take j ++ [l[j].ns] by rw [List.take_succ_eq_append_getElem (by simpa [nsL] using hjl)]; simp [nsL])
        have T2 := Lib.hid (show (nsL m).take (j + 1) = (nsL m).take j ++ [m[j].ns] by rw [List.take_succ_eq_append_getElem (by simpa [nsL] using hjm)]; simp [nsL])
        have EQ := Lib.hid (show nsL l = nsL m → l[j].ns = m[j].ns from fun e => by
          have h := congrArg (·[j]?) e
          simpa [nsL, hjl, hjm] using h)
        have ZL := HX1.out _ (List.getElem_mem hjl)
        generalize l[j] = x at *
        generalize m[j] = y at *
        obtain ⟨xs, xA, xc⟩ := x
        obtain ⟨ys, yA, yc⟩ := y
        unfold riV at c0 d0
        dsimp only at *
        have g0 := cell_regrown c0
        have g1 := cell_regrown d0
        have SM := Lib.hid (fun dd os => same_ints xA yA xs ys xc yc (Sort.grow (redrawn wo dd) os) (sx.ext (below_regrown _ _ _)) (sy.ext (below_regrown _ _ _)) (by omega))
        clear sx sy c0 d0 hjl hjm ZL
        have hlt := Lib.hid hlt
        by_cases h2 : xs = ys
        · have HA := Lib.hid (show (nsL l).take (j + 1) = (nsL m).take (j + 1) by rw [T1.out, T2.out, ha.out, h2])
          have SM := Lib.hid (fun dd os => (decide_eq_true h2) ▸ SM.out dd os)
          clear h2 EQ T1 T2
          go_wp2_with fail
          refine wp_region_quiet_below (by kernel_rfl) (by kernel_rfl) ?_
          repeat (go_big_quiet_step (first | (with_reducible exact rg17 (SM.out _ _))))
          refine wpQuiet_nil ?_
          intro _ hw'
          obtain ⟨⟨dq, osq⟩, hw''⟩ := hw'
          subst hw''
          have HX := Lib.hid (HX.out.trans (below_regrown wo dq osq))
          clear g0 g1 SM
          go_wp2_with fail
          go_roundw
          case rel => exact ⟨j + 1, by have := hlt.out; omega, by go_num, HA, HX⟩
          case measure => have := hlt.out; simp [intOf]; omega
        · have NO : Hid (false = decide (nsL l = nsL m)) := Lib.hid (decide_eq_false fun h => h2 (EQ.out h)).symm
          have SM := Lib.hid (fun dd os => (decide_eq_false h2) ▸ SM.out dd os)
          clear h2 EQ T1 T2
          go_wp2_with fail
          refine wp_region_quiet_below (by kernel_rfl) (by kernel_rfl) ?_
          repeat (go_big_quiet_step (first | (with_reducible exact rg17 (SM.out _ _))))
          refine wpQuiet_nil ?_
          intro _ hw'
          obtain ⟨⟨dq, osq⟩, hw''⟩ := hw'
          subst hw''
          have HX := Lib.hid (HX.out.trans (below_regrown wo dq osq))
          clear g0 g1 SM
          go_wp2_with fail
          go_ret
          exact ⟨ret_b NO.out, HX.out⟩
      · obtain rfl : j = n := by omega
        have NO : Hid (true = decide (nsL l = nsL m)) := Lib.hid (decide_eq_true (by
          have h := ha.out
          rw [List.take_of_length_le (by have := HN.out; simp [nsL]; omega), List.take_of_length_le (by have := HK.out; simp [nsL]; omega)] at h
          exact h)).symm
        go_wp2_with fail
        go_ret
        exact ⟨ret_b NO.out, HX.out⟩
  · have h1z : ¬ ((n : Int) = (k : Int)) := by omega
    rw [show decide (nsL l = nsL m) = false from decide_eq_false fun h => h1 (by have := congrArg List.length h; simp [nsL] at this; omega)]
    clear HN HK hn hk
    go_enter Try.func12, Try.ntmps12
    go_wp2_with fail
    go_ret
    exact ⟨rfl, Ext.refl _⟩
end L17
end Go.Proofs.Ytmmgmcfhlhghoaa

