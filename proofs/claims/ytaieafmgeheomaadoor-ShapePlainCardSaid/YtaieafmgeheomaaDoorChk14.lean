/- The landed Check of layouts. -/
import Derived.Test.YtaieafmgeheomaaDoorIter14
import Derived.Test.YtaieafmgeheomaaDoorOver13
import Derived.Test.YtaieafmgeheomaaDoorRound14
import Derived.StillTailTactics
namespace Go.Proofs.YtaieafmgeheomaaDoor
open Go.RowKit
namespace L14

attribute [local go_sem] Oper.semAt_some

theorem plain_addr {w : World} {a : Addr} {v : Value} (h : w.cell? a = some v) : a = ⟨a.block, a.off, none⟩ := by
  obtain ⟨b, o, sp⟩ := a
  cases sp with
  | none => rfl
  | some s =>
    unfold World.cell? at h
    simp only [Option.isSome_some, if_true] at h
    split at h <;> cases h
theorem Kb.loop {g N l : Nat} (W : World) (r r' : Loop) (hl : N ≤ l) (h : W.heap[l]? = some (.loop r)) : Kb g N W (W.putObj l (.loop r')) := by
  have hg := grownBy_putObj' W l (.loop r')
  have hr : ∀ k, some l = some k → ∃ o : Obj, W.heap[k]? = some o ∧ o.isCells = false := fun k e => by cases e; exact ⟨_, h, rfl⟩
  refine ⟨⟨by simp, fun b cs t f _ _ hc => (grownBy_keeps_cells hg hr hc rfl).trans hc, fun w0 hw x => Below.grown x hg x.size fun k e => by cases e; omega⟩, fun b es c hm => ?_⟩
  have hne : b ≠ l := fun e => by rw [e, h] at hm; cases hm
  exact (World.putObj_heap_other hne).trans hm
theorem blk_row {W W' : World} {g : Nat} {t : TypeId} {cs : List Value} {row : Option Nat} (h : Blk W g t cs) (hg : W.grownBy W' row) (hr : ∀ r, row = some r → ∃ o : Obj, W.heap[r]? = some o ∧ o.isCells = false) : Blk W' g t cs := (grownBy_keeps_cells hg hr h rfl).trans h
theorem ext_row {w W W' : World} {row : Option Nat} (h : Ext w W) (hg : W.grownBy W' row) (hr : ∀ r, row = some r → w.heap.size ≤ r) : Ext w W' := Below.grown h hg h.size (fun k e => hr k e)

theorem blk_put {W : World} {B l : Nat} {t : TypeId} {cs : List Value} {o : Obj} (o' : Obj) (h : Blk W B t cs) (hl : W.heap[l]? = some o) (ho : o.isCells = false) : Blk (W.putObj l o') B t cs :=
  blk_row h (grownBy_putObj' W l o') fun r e => by cases e; exact ⟨o, hl, ho⟩
theorem ext_put {w W : World} {l : Nat} (o' : Obj) (x : Ext w W) (hl : w.heap.size ≤ l) : Ext w (W.putObj l o') :=
  Below.grown x (grownBy_putObj' W l o') x.size fun k e => by cases e; exact hl
/-- A box of one cell as a result. -/
theorem res_cell {fn : Func} {p : Nat} {t : TypeId} (h : fn.results = #[.cell p t]) (tmps : Array Value) (W : World) (b : Nat) (v : Value) (hp : tmps[p]? = some (.pointer (some ⟨b, 0, none⟩))) (hc : W.cell? ⟨b, 0, none⟩ = some v) (ha : (isAgg t).run Tryd.prog W = .ok false W) :
    (results fn tmps).run Tryd.prog W = .ok v W := by
  simp only [results, h]
  simp [go_sem, loadVar, asAddr, hp, hc, ha]
/-- A line's number is where it is said to be. -/
theorem val_at {W : World} {B : Nat} {L : LayD} {A : Option Addr} {S : Addr} {c : Nat} (hS : A = some S ∨ L.n = 0) (kB : Blk W B 24 (layC L A c)) (sn : SeenP W A L.n L.sh) {j t i : Nat} (hx : (j, t) ∈ seqN L.n) (hi : i < cntK j) :
    W.cell? (adrK B S j t i) = some (.int .i64 (valD L j t i)) ∧ (adrK B S j t i).block < W.heap.size := by
  by_cases h2 : j = 2
  · subst h2
    have ht : t < L.n := by simp [seqN] at hx; exact hx
    obtain ⟨ad, e, hb, c0, c1⟩ := sn t ht
    obtain rfl : ad = S := by rcases hS with h | h; exact Option.some.inj (e.symm.trans h); omega
    have hi' : i = 0 ∨ i = 1 := by have : cntK 2 = 2 := rfl; omega
    rcases hi' with rfl | rfl
    · exact ⟨c0, World.block_lt_of_cell? W _ c0⟩
    · have e2 := (sn.get ht)
      obtain ⟨ad', e', _, h1⟩ := e2
      rw [e] at e'; cases e'
      exact ⟨h1, World.block_lt_of_cell? W _ h1⟩
  · have hj : j < 10 := by
      simp [seqN] at hx
      rcases hx with h | h | h | h <;> omega
    have e : adrK B S j t i = ⟨B, baseK j + i, none⟩ := if_neg h2
    have ev : valD L j t i = L.v (baseK j + i) := if_neg h2
    rw [e, ev]
    refine ⟨?_, kB.lt⟩
    rw [kB.cell]
    have hj' : j = 0 ∨ j = 1 ∨ j = 3 ∨ j = 4 ∨ j = 5 ∨ j = 6 ∨ j = 7 ∨ j = 8 ∨ j = 9 := by omega
    have hi5 := (cntK_small j).2
    have hi' : i = 0 ∨ i = 1 ∨ i = 2 ∨ i = 3 ∨ i = 4 := by omega
    rcases hj' with rfl | rfl | rfl | rfl | rfl | rfl | rfl | rfl | rfl <;> rcases hi' with rfl | rfl | rfl | rfl | rfl <;> first | rfl | (exfalso; revert hi; decide)

theorem num_cells {W : World} {B : Nat} {S : Addr} {W0 : Int} {j t b k : Nat} (h : VN B S W0 (j, t, b) W) (hk : k < cntK j) : W.cell? ((⟨b, 0, none⟩ : Addr).add (k * 3)) = some (.pointer (some (adrK B S j t k))) ∧
    W.cell? ⟨((⟨b, 0, none⟩ : Addr).add (k * 3)).block, ((⟨b, 0, none⟩ : Addr).add (k * 3)).off + 1, none⟩ = some (.int .i64 (loK W0 j k)) ∧ W.cell? ⟨((⟨b, 0, none⟩ : Addr).add (k * 3)).block, ((⟨b, 0, none⟩ : Addr).add (k * 3)).off + 2, none⟩ = some (.int .i64 (hiK W0 j k)) := by
  have h : Blk W b 48 (numC B S W0 j t) := h
  obtain ⟨h0, h1, h2⟩ := numC_at (B := B) (S := S) (W := W0) (t := t) hk
  rw [Addr.add_mid]
  refine ⟨?_, ?_, ?_⟩
  · rw [Nat.zero_add, h.cell]; exact h0
  · show W.cell? ⟨b, 0 + k * 3 + 1, none⟩ = _
    rw [Nat.zero_add, h.cell]; exact h1
  · show W.cell? ⟨b, 0 + k * 3 + 2, none⟩ = _
    rw [Nat.zero_add, h.cell]; exact h2
theorem okL_no {L : LayD} {j t k b : Nat} (hk : k < cntK j) (h : okN L j t k = false) : okL L (keyN (j, t, b)) = false := by
  rw [okL, List.all_eq_false]
  exact ⟨k, by simpa [keyN] using hk, by simp [keyN, h]⟩
theorem okL_yes {L : LayD} {j t b : Nat} (h : ∀ q, q < cntK j → okN L j t q = true) : okL L (keyN (j, t, b)) = true := by
  rw [okL, List.all_eq_true]
  intro k hk
  exact h k (by simpa [keyN] using hk)

/-- What holds between the rounds; where the loop is left. -/
def CI (w : World) (L : LayD) (A : Option Addr) (c b0 b1 : Nat) (pre : List NB) (W : World) : Prop := (∀ x ∈ pre, okL L (keyN x) = true) ∧ Blk W b0 24 (layC L A c) ∧ Blk W b1 4 [.bool false] ∧ Ext w W
def CX (w : World) (L : LayD) (b1 : Nat) (cd : Code) (pre : List NB) (W : World) : Prop := (cd = .ret ∧ (∃ x ∈ pre, okL L (keyN x) = false) ∧ Blk W b1 4 [.bool false]) ∧ Ext w W
theorem CI.own {w : World} {L : LayD} {A : Option Addr} {c b0 b1 B : Nat} (hB : w.heap.size ≤ B) : OwnFrom B (CI w L A c b0 b1) := fun _ _ _ _ h hg hr =>
  ⟨h.1, blk_row h.2.1 hg (fun r e => (hr r e).2), blk_row h.2.2.1 hg (fun r e => (hr r e).2), ext_row h.2.2.2 hg (fun r e => Nat.le_trans hB (hr r e).1)⟩
theorem CX.own {w : World} {L : LayD} {b1 B : Nat} (cd : Code) (hB : w.heap.size ≤ B) : OwnFrom B (CX w L b1 cd) := fun _ _ _ _ h hg hr =>
  ⟨⟨h.1.1, h.1.2.1, blk_row h.1.2.2 hg (fun r e => (hr r e).2)⟩, ext_row h.2 hg (fun r e => Nat.le_trans hB (hr r e).1)⟩

set_option maxRecDepth 100000 in
set_option maxHeartbeats 8000000 in
theorem check_any (L : LayD) (A : Option Addr) (c : Nat) (w : World) (ok : LayOk L c) (sn : SeenP w A L.n L.sh) (hH : Home w) : Calls Tryd.prog 12 #[layV L A c] w (Ret w (.bool (mayL L))) := by
  obtain ⟨S, hS⟩ : ∃ S, A = some S ∨ L.n = 0 := by
    rcases Nat.eq_zero_or_pos L.n with h | h
    · exact ⟨⟨0, 0, none⟩, .inr h⟩
    · obtain ⟨ad, e, _⟩ := sn 0 h; exact ⟨ad, .inl e⟩
  have hn := ok.n
  have hc := ok.c
  by_cases h40 : L.n ≤ 40
  · have hn64 : ¬ (40 : Int) < (L.n : Int) := by omega
    obtain ⟨WA, hWA⟩ : ∃ WA, WA = (w.alloc (.cells #[.int .i64 (L.v 0), .int .i64 (L.v 1), .int .i64 (L.v 2), .int .i64 (L.v 3), .slice A L.n c, .int .i64 (L.v 5), .int .i64 (L.v 6), .int .i64 (L.v 7), .int .i64 (L.v 8), .int .i64 (L.v 9), .int .i64 (L.v 10), .int .i64 (L.v 11), .int .i64 (L.v 12), .int .i64 (L.v 13), .int .i64 (L.v 14), .int .i64 (L.v 15), .int .i64 (L.v 16), .int .i64 (L.v 17), .int .i64 (L.v 18), .int .i64 (L.v 19), .int .i64 (L.v 20)] 24)).alloc (.cells #[.bool false] 4) := ⟨_, rfl⟩
    have XA : Ext w WA := by rw [hWA]; exact ((Ext.refl w).alloc _).alloc _
    have kL : Blk WA w.heap.size 24 (layC L A c) := by rw [hWA]; exact (Blk.lit _ _ _ _ rfl).ext ((Ext.refl _).alloc _)
    have kR : Blk WA (w.heap.size + 1) 4 [.bool false] := by rw [hWA]; exact Blk.lit _ _ _ _ (by simp)
    have hz : WA.heap.size = w.heap.size + 1 + 1 := by rw [hWA]; simp
    have sn0 := Lib.hid sn
    have SN := Lib.hid (sn.ext XA)
    have HH := Lib.hid (hH.ext XA)
    clear sn hH
    refine (callsIn_wide (n := 9)).1 (callsIn_of_wp_marks Tryd.func12 rfl trivial ?_ rfl)
    refine wpIn_wide.2 ?_
    simp only [layV, Tryd.ntmps12, List.size_toArray, List.length_cons, List.length_nil, Nat.reduceAdd, Nat.reduceSub, Array.replicate_succ, Array.replicate_zero, List.push_toArray, List.append_toArray, List.nil_append, List.cons_append]
    go_wp2_with fail
    rw [← hWA]
    refine (lines_any _ WA).mono ?_
    rintro e w1 ⟨rfl, hw1⟩
    have x1 : Ext WA w1 := by rw [hw1]; exact (Ext.refl _).alloc _
    have hz1 : w1.heap.size = w.heap.size + 1 + 1 + 1 := by rw [hw1]; simp; omega
    have kT : Blk w1 (w.heap.size + 1 + 1) 44 [.pointer (some ⟨w.heap.size, 0, none⟩)] := by rw [hw1]; exact Blk.lit _ _ _ _ hz.symm
    rw [hz]
    have kL := kL.ext x1
    have kR := kR.ext x1
    have X1 := XA.trans x1
    have SN := Lib.hid (SN.out.ext x1)
    have HH := Lib.hid (HH.out.ext x1)
    clear x1 XA hw1 hWA hz
    generalize hb1 : w.heap.size + 1 = b1 at *
    generalize hb2 : b1 + 1 = b2 at *
    generalize hb0 : w.heap.size = b0 at *
    go_wp2_with fail
    -- WALK
    obtain ⟨V, hV⟩ : ∃ V, V = Value.agg #[.int .i64 (L.v 0), .int .i64 (L.v 1), .int .i64 (L.v 2), .int .i64 (L.v 3), .slice A L.n c, .int .i64 (L.v 5), .int .i64 (L.v 6), .int .i64 (L.v 7), .int .i64 (L.v 8), .int .i64 (L.v 9), .int .i64 (L.v 10), .int .i64 (L.v 11), .int .i64 (L.v 12), .int .i64 (L.v 13), .int .i64 (L.v 14), .int .i64 (L.v 15), .int .i64 (L.v 16), .int .i64 (L.v 17), .int .i64 (L.v 18), .int .i64 (L.v 19), .int .i64 (L.v 20)] := ⟨_, rfl⟩
    rw [← hV]
    clear hV
    refine wpIn_wide.1 (range_over (n := 9) (F := Fence.wide) rfl (by omega) (gf := 20) (lb := #[.pointer (some ⟨b2, 0, none⟩)]) rfl trivial (enters_of Tryd.func20 (by kernel_rfl) rfl)
      (encs := encN) (fun _ => rfl) (V := fun x W => VN b0 S (L.v 0) x W ∧ keyN x ∈ seqN L.n) (Kp := Kb b1 b0) (S := fun xs => xs.map keyN = seqN L.n) (Sp := fun pre => pre.map keyN <+: seqN L.n) (N := (seqN L.n).length)
      (CI w L A c b0 b1) (CX w L b1)
      (fun x a' W' => ∃ ad : Addr, ad = ⟨x.2.2, 0, none⟩ ∧ VN b0 S (L.v 0) x W' ∧ keyN x ∈ seqN L.n ∧ a' = { tmps := #[V, .pointer (some ⟨b0, 0, none⟩), .pointer (some ⟨b1, 0, none⟩), undef, .slice (some ad) (cntK x.1) (cntK x.1), undef, undef, .pointer (some ⟨b0, 4, none⟩), .slice A L.n c, .int .i64 L.n, .bool false, .func (.func 20) #[] #[.pointer (some ⟨b2, 0, none⟩)], .string (nameB x.1), .slice (some ad) (cntK x.1) (cntK x.1), undef, undef, undef, undef, undef, undef, undef, undef, undef, undef, undef, undef, undef, undef, undef, undef, undef, undef, undef, undef, undef, undef, undef], defers := [] })
      (CI.own (by omega)) (fun cd => CX.own cd (by omega))
      (fun x a' u X Y row h hg hr => by
        obtain ⟨ad, h1, h2, h3, h4⟩ := h
        exact ⟨ad, h1, blk_row h2 hg (fun r e => (hr r e).2), h3, h4⟩)
      (fun h k => Kb.trans h k) (fun W' r r' h => Kb.loop W' r r' (by omega) h)
      ⟨fun x h => by simp at h, kL, kR, X1⟩ ?call ?assign ?body ?done ?stop)
    case call =>
      intro W' J' Jx' x' hz' hJ' hJx' hY' h0'
      exact lines_in 8 (w1.heap.size + 1) b2 b0 b1 b0 (w1.heap.size + 2) (by omega) L A S c hS (by omega) W' J' Jx' (HH.out.ext x') (kT.ext x') (kL.ext x') (by omega) (by omega) (by omega) (by omega) hJ'
        (fun pre x W2 h1 h2 h3 h4 => hY' pre x W2 h1 ⟨h2, h3⟩ h4) h0'
    case assign =>
      rintro pre x W' K hi ⟨hv, hm⟩ hK
      obtain ⟨ad, had⟩ : ∃ ad : Addr, ad = ⟨x.2.2, 0, none⟩ := ⟨_, rfl⟩
      have GO := Lib.hid (hK { tmps := #[V, .pointer (some ⟨b0, 0, none⟩), .pointer (some ⟨b1, 0, none⟩), undef, .slice (some ad) (cntK x.1) (cntK x.1), undef, undef, .pointer (some ⟨b0, 4, none⟩), .slice A L.n c, .int .i64 L.n, .bool false, .func (.func 20) #[] #[.pointer (some ⟨b2, 0, none⟩)], .string (nameB x.1), .slice (some ad) (cntK x.1) (cntK x.1), undef, undef, undef, undef, undef, undef, undef, undef, undef, undef, undef, undef, undef, undef, undef, undef, undef, undef, undef, undef, undef, undef, undef], defers := [] } W' (KeepsFrom.refl _ _) (Kb.refl _ _ _) hi ⟨ad, had, hv, hm, rfl⟩)
      clear hi hK hv
      rw [had] at GO
      simp only [encN]
      gi_wp2
      exact GO.out
    case body =>
      rintro pre ⟨j, t, bk⟩ a' W' ⟨hok, kL', kR', X'⟩ ⟨ad, had, hv, hm, rfl⟩ hlt
      have hn5 := (cntK_small j).2
      have SN' := sn0.out.ext X'
      have hv' := Lib.hid hv
      have hok' := Lib.hid hok
      have hm' := Lib.hid hm
      have kL2 := Lib.hid kL'
      have kR2 := Lib.hid kR'
      have X2 := Lib.hid X'
      have SN2 := Lib.hid SN'
      have HAD := Lib.hid had
      clear hv hok hm kL' kR' X' SN' had hlt
      have hcnt : (cntK j : Int) ≤ 5 := by omega
      dsimp only
      gi_wp2
      gi_loopw [16] (fun i wr => ∃ k : Nat, k ≤ cntK j ∧ i = .int .i64 k ∧ Hid (∀ q, q < k → okN L j t q = true) ∧ Hid (Ext W' wr)) (fun i _ => 10 - (intOf i).toNat)
      case atStart => exact ⟨0, by omega, rfl, Lib.hid (fun q h => by omega), Lib.hid (Ext.refl _)⟩
      case round =>
        obtain ⟨k, hk, rfl, ho, hx⟩ := hrel
        by_cases hlt : k < cntK j
        · have hk64 : (k : Int) < (cntK j : Int) := by omega
          obtain ⟨e0, e1, e2⟩ := num_cells (hv'.out.ext hx.out) hlt
          obtain ⟨c0, c1⟩ := val_at hS (kL2.out.ext hx.out) (SN2.out.ext hx.out) hm'.out hlt
          simp only [← HAD.out] at e0 e1 e2
          have HLE := Lib.hid (show okN L j t k = (decide (loK (L.v 0) j k ≤ valD L j t k) && decide (valD L j t k ≤ hiK (L.v 0) j k)) from rfl)
          generalize adrK b0 S j t k = ap at e0 c0 c1
          obtain ⟨ab, ao, rfl⟩ : ∃ ab ao, ap = ⟨ab, ao, none⟩ := ⟨_, _, plain_addr c0⟩
          generalize loK (L.v 0) j k = lo at e1 HLE
          generalize hiK (L.v 0) j k = hi at e2 HLE
          generalize valD L j t k = va at c0 HLE
          have c1 : ab < wr.heap.size := c1
          have k1 := kR2.out.ext hx.out
          have r0 : wr.cell? ⟨b1, 0, none⟩ = some (.bool false) := k1.cell 0
          have f0 := k1.free 0
          have hb1w : b1 < wr.heap.size := k1.lt
          have FAIL := Lib.hid (fun (hno : okN L j t k = false) (w9 : World) (x9 : Ext wr w9) =>
            show ownPostG (b2 + 1) (Kb b1 b0) (CI w L A c b0 b1) (CX w L b1) (pre ++ [(j, t, bk)]) W' .ret { tmps := #[], defers := [] } (w9.setCell ⟨b1, 0, none⟩ (.bool false)) from
            ⟨(keeps_ext (hx.out.trans x9)).trans ((KeepsOthers.setCell _ _ _).from _), ⟨rfl, ⟨(j, t, bk), by simp, okL_no hlt hno⟩, (k1.ext x9).set 0 (.bool false)⟩, (X2.out.trans (hx.out.trans x9)).setCell (by show _ ≤ b1; omega) _⟩)
          clear k1
          obtain ⟨WR, hWR⟩ : ∃ WR, WR = wr.alloc (.cells #[.pointer (some ⟨ab, ao, none⟩), .int .i64 lo, .int .i64 hi] 48) := ⟨_, rfl⟩
          have xr : Ext wr WR := by rw [hWR]; exact (Ext.refl _).alloc _
          have kN : Blk WR wr.heap.size 48 [.pointer (some ⟨ab, ao, none⟩), .int .i64 lo, .int .i64 hi] := by rw [hWR]; exact Blk.lit _ _ _ _ rfl
          have n0 : WR.cell? ⟨wr.heap.size, 0, none⟩ = some (.pointer (some ⟨ab, ao, none⟩)) := kN.cell 0
          have n1 : WR.cell? ⟨wr.heap.size, 1, none⟩ = some (.int .i64 lo) := kN.cell 1
          have n2 : WR.cell? ⟨wr.heap.size, 2, none⟩ = some (.int .i64 hi) := kN.cell 2
          have c2 : WR.cell? ⟨ab, ao, none⟩ = some (.int .i64 va) := xr.at c0
          have r2 : WR.cell? ⟨b1, 0, none⟩ = some (.bool false) := xr.at r0
          have f2 : WR.frozen? ⟨b1, 0, none⟩ = false := xr.fz r0 f0
          have XR := Lib.hid xr
          clear xr kN
          gi_wp2
          rw [← hWR]
          clear hWR e0 e1 e2 c0 c1 r0 f0
          by_cases h1 : va < lo
          · have F := Lib.hid (FAIL.out (by rw [HLE.out, decide_eq_false (by omega)]; rfl))
            clear FAIL HLE
            refine round_drew (by kernel_rfl) (by kernel_rfl) (by kernel_rfl) ?_
            repeat (gi_big_quiet_step (fail))
            refine wpQuietIn_nil ?_
            rintro _ ⟨dq, rfl⟩
            gi_wp2
            exact F.out _ (XR.out.drewN dq)
          · by_cases h2 : hi < va
            · have F := Lib.hid (FAIL.out (by rw [HLE.out, decide_eq_false (show ¬ va ≤ hi by omega), Bool.and_false]))
              clear FAIL HLE
              refine round_drew (by kernel_rfl) (by kernel_rfl) (by kernel_rfl) ?_
              repeat (gi_big_quiet_step (fail))
              refine wpQuietIn_nil ?_
              rintro _ ⟨dq, rfl⟩
              gi_wp2
              exact F.out _ (XR.out.drewN dq)
            · have HO := Lib.hid (show ∀ q, q < k + 1 → okN L j t q = true from fun q hq => by
                by_cases e : q = k
                · rw [e, HLE.out, decide_eq_true (by omega), decide_eq_true (by omega)]; rfl
                · exact ho.out q (by omega))
              clear FAIL HLE ho
              refine round_drew (by kernel_rfl) (by kernel_rfl) (by kernel_rfl) ?_
              repeat (gi_big_quiet_step (fail))
              refine wpQuietIn_nil ?_
              rintro _ ⟨dq, rfl⟩
              have XD := Lib.hid (hx.out.trans (XR.out.drewN dq))
              gi_wp2
              go_roundw
              case rel => exact ⟨k + 1, by omega, by go_num, HO, XD⟩
              case measure => simp [intOf]; omega
        · have hk64 : ¬ (k : Int) < (cntK j : Int) := by omega
          have ALL := Lib.hid (okL_yes (b := bk) (fun q hq => ho.out q (by omega)))
          have GO := Lib.hid (show ownPostG (b2 + 1) (Kb b1 b0) (CI w L A c b0 b1) (CX w L b1) (pre ++ [(j, t, bk)]) W' .normal { tmps := #[], defers := [] } wr from
            ⟨keeps_ext hx.out, Kb.of_ext hx.out, fun x hx' => by
              rcases List.mem_append.1 hx' with h | h
              · exact hok'.out x h
              · rw [List.mem_singleton.1 h]; exact ALL.out, kL2.out.ext hx.out, kR2.out.ext hx.out, X2.out.trans hx.out⟩)
          gi_wp2
          exact GO.out
    case done =>
      rintro xs W' hSx ⟨hok, kL', kR', X'⟩ hK
      have HM := Lib.hid (show mayL L = true by
        rw [mayL, decide_eq_true h40, Bool.true_and, List.all_eq_true, ← hSx]
        intro y hy
        obtain ⟨x, hx, rfl⟩ := List.mem_map.1 hy
        exact hok x hx)
      have r0 : W'.cell? ⟨b1, 0, none⟩ = some (.bool false) := kR'.cell 0
      have f0 := kR'.free 0
      have HK := Lib.hid hK
      have HR := Lib.hid kR'
      have HX := Lib.hid X'
      clear hok kL' kR' X' hK hSx
      go_wp2_with fail
      have hk1 := (KeepsOthers.setCell W' ⟨b1, 0, none⟩ (.bool true)).same _ _ HK.out rfl
      have kr := HR.out.set 0 (.bool true)
      have x9 := HX.out.setCell (p := ⟨b1, 0, none⟩) (by show _ ≤ b1; omega) (.bool true)
      refine ⟨by simp, .inl ⟨_, _, rfl, run_takeDeferred hk1, ⟨_, res_cell rfl _ _ b1 (.bool true) rfl (blk_put _ kr hk1 rfl |>.cell 0) (by kernel_rfl), ?_⟩⟩⟩
      rw [HM.out]
      exact ⟨rfl, ext_put _ x9 (by omega)⟩
    case stop =>
      rintro cd pre W' hSp ⟨⟨rfl, hno, kR'⟩, X'⟩ hK
      have HM := Lib.hid (show mayL L = false by
        obtain ⟨x, hx, hn⟩ := hno
        rw [mayL, decide_eq_true h40, Bool.true_and, List.all_eq_false]
        exact ⟨keyN x, hSp.subset (List.mem_map.2 ⟨x, hx, rfl⟩), by rw [hn]; simp⟩)
      have HK := Lib.hid hK
      have HR := Lib.hid kR'
      have HX := Lib.hid X'
      clear hno kR' X' hK hSp
      gi_wp2
      refine ⟨by simp, .inl ⟨_, _, rfl, run_takeDeferred HK.out, ⟨_, res_cell rfl _ _ b1 (.bool false) rfl (blk_put _ HR.out HK.out rfl |>.cell 0) (by kernel_rfl), ?_⟩⟩⟩
      rw [HM.out]
      exact ⟨rfl, ext_put _ HX.out (by omega)⟩
  · have hno : mayL L = false := by simp [mayL, h40]
    rw [hno]
    have hn64 : (40 : Int) < (L.n : Int) := by omega
    unfold layV
    go_enter Tryd.func12, Tryd.ntmps12
    go_wp2_with fail
    refine bodyPost_ret (res_cell rfl _ _ (w.heap.size + 1) (.bool false) rfl (by simp [go_sem]) (by kernel_rfl)) rfl ⟨rfl, ?_⟩
    exact ((Ext.refl _).alloc _).alloc _
end L14
end Go.Proofs.YtaieafmgeheomaaDoor

