/- The landed iterator over a layout's lines: for every loop's body. -/
import Derived.Test.YtaieafmgeheomaaDoorKMap14
import Derived.RangeFuncNested
import Derived.RangeFuncBound
import Derived.RangeFuncCalls
import Derived.RangeFuncLeaves
import Derived.RangeFuncBox
import Derived.OwnWalkIn
import Derived.TacticsInMore
import Derived.LoopNIn
import Derived.LoopIn
namespace Go.Proofs.YtaieafmgeheomaaDoor
open Go.RowKit
namespace L14

attribute [local go_sem] Oper.semAt_some

/-- What stays where one's own bytes are put: all but bytes, and block g; maps; and what lies below N. -/
structure Kb (g N : Nat) (w w' : World) : Prop where
  keep : Keep 5 g N w w'
  map : ∀ (b : Nat) es c, w.heap[b]? = some (.map es c) → w'.heap[b]? = some (.map es c)
theorem Kb.refl (g N : Nat) (w : World) : Kb g N w w := ⟨Keep.refl _ _ _ _, fun _ _ _ h => h⟩
theorem Kb.trans {g N : Nat} {a b c : World} (h : Kb g N a b) (k : Kb g N b c) : Kb g N a c := ⟨h.keep.trans k.keep, fun n es cl hm => k.map n es cl (h.map n es cl hm)⟩
theorem Kb.of_ext {g N : Nat} {a b : World} (x : Ext a b) : Kb g N a b := ⟨Keep.of_ext x, fun n _ _ hm => (x.block n (lt_of_block hm)).trans hm⟩
theorem Kb.blk {g N b : Nat} {t : TypeId} {w w' : World} {cs : List Value} (h : Kb g N w w') (hb : Blk w b t cs) (hn : b ≠ g) (ht : t ≠ 5) : Blk w' b t cs := h.keep.blk hb hn ht
theorem Kb.kinds {g N b : Nat} {w w' : World} (h : Kb g N w w') (hk : KindsAt w b) (hg : g < b) : KindsAt w' b := by
  refine ⟨?_, fun j hj h2 => h.blk (hk.fn j hj h2) (by unfold nbK; omega) (by decide)⟩
  obtain ⟨D, ⟨es, c, hb, r⟩, q⟩ := hk.map
  exact ⟨D, ⟨es, c, h.map b es c hb, r⟩, q⟩

theorem yield_any {m m' l : Nat} {P : Program} {args : Array Value} {W : World} {R : Ending → World → Prop} (h : YieldAt Fence.wide m P l args W R) : YieldAt Fence.wide m' P l args W R := by
  obtain ⟨fn, tmps, assign, body, hy, hR⟩ := h
  exact ⟨fn, tmps, assign, body, hy, hR.1, fun c cs _ => hR.2 c cs (room_wide _)⟩
theorem own_ext {β : Type} {B : Nat} {I : β → World → Prop} (h : OwnFrom B I) {s : β} {W W' : World} (hs : I s W) (x : Ext W W') : I s W' := h s W W' none hs ⟨x.os, x.tape, x.output, x.size, fun k hk _ => x.block k hk⟩ (fun r e => by cases e)
theorem keeps_ext {B : Nat} {W W' : World} (x : Ext W W') : KeepsFrom B W W' := ⟨x.size, fun k _ _ hk _ => (x.block k (Array.getElem?_eq_some_iff.1 hk).1).trans hk⟩

/-- A line that is handed over: its kind, its place, and where its numbers lie. -/
abbrev NB := Nat × Nat × Nat
def encN (x : NB) : Array Value := #[.string (nameB x.1), .slice (some ⟨x.2.2, 0, none⟩) (cntK x.1) (cntK x.1)]
def keyN (x : NB) : Nat × Nat := (x.1, x.2.1)
/-- What is known of it where it is handed over. -/
def VN (B : Nat) (S : Addr) (W0 : Int) (x : NB) (W : World) : Prop := Blk W x.2.2 48 (numC B S W0 x.1 x.2.1)
/-- The lines of one kind; from a kind on. -/
def ofK (n j : Nat) : List (Nat × Nat) := if j = 2 then (List.range n).map (fun t => (2, t)) else [(j, 0)]
def fromK (n j : Nat) : List (Nat × Nat) := ((List.range 10).drop j).flatMap (ofK n)
theorem seqN_from (n : Nat) : seqN n = fromK n 0 := by simp [seqN, fromK, ofK, List.range_succ]
theorem fromK_step {n j : Nat} (hj : j < 10) : fromK n j = ofK n j ++ fromK n (j + 1) := by
  unfold fromK
  rw [List.drop_eq_getElem_cons (by simpa using hj)]
  simp
theorem fromK_end (n : Nat) : fromK n 10 = [] := rfl
theorem ofK_two (n : Nat) : ofK n 2 = (List.range n).map (fun t => (2, t)) := rfl
theorem drop_two {n t : Nat} (h : t < n) : (ofK n 2).drop t = (2, t) :: (ofK n 2).drop (t + 1) := by
  rw [ofK_two, List.drop_eq_getElem_cons (by simpa using h)]
  simp
theorem ofK_one {n j : Nat} (h : j ≠ 2) : ofK n j = [(j, 0)] := if_neg h

theorem lines_any (B : Nat) (w : World) : Calls Tryd.prog 17 #[.pointer (some ⟨B, 0, none⟩)] w (fun e w' =>
    e = .returned (.func (.func 20) #[] #[.pointer (some ⟨w.heap.size, 0, none⟩)]) ∧ w' = w.alloc (.cells #[.pointer (some ⟨B, 0, none⟩)] 44)) := by
  go_enter Tryd.func17, Tryd.ntmps17
  go_wp2_with fail
  go_ret
  exact ⟨rfl, rfl⟩

set_option maxRecDepth 100000 in
theorem index_names (j : Nat) (hj : j < 10) (W : World) : (Instr.index 53 (.agg #[.string (nameB 0), .string (nameB 1), .string (nameB 2), .string (nameB 3), .string (nameB 4), .string (nameB 5), .string (nameB 6), .string (nameB 7), .string (nameB 8), .string (nameB 9)]) (.int .i64 (j : Int))).run Tryd.prog W = .ok (.string (nameB j)) W := by
  have hj' : j = 0 ∨ j = 1 ∨ j = 2 ∨ j = 3 ∨ j = 4 ∨ j = 5 ∨ j = 6 ∨ j = 7 ∨ j = 8 ∨ j = 9 := by omega
  rcases hj' with rfl | rfl | rfl | rfl | rfl | rfl | rfl | rfl | rfl | rfl <;> rfl

set_option maxRecDepth 100000 in
set_option maxHeartbeats 8000000 in
theorem lines_in (n l0 tb B g N D : Nat) (_ : 3 ≤ n) (L : LayD) (A : Option Addr) (S : Addr) (c : Nat) (hS : A = some S ∨ L.n = 0) (h40 : L.n ≤ 1000000)
    (W : World) (J Jx : List NB → World → Prop) (hH : Home W) (kt : Blk W tb 44 [.pointer (some ⟨B, 0, none⟩)]) (kB : Blk W B 24 (layC L A c)) (hg : g < W.heap.size) (htg : tb ≠ g) (hBg : B ≠ g) (_ : D ≤ W.heap.size)
    (hJ : OwnFrom W.heap.size J)
    (hY : ∀ pre x W1, J pre W1 → VN B S (L.v 0) x W1 → keyN x ∈ seqN L.n → pre.length < (seqN L.n).length → YieldAt Fence.wide (n - 1) Tryd.prog l0 (encN x) W1 fun e W' => (e = .returned (.bool true) ∧ J (pre ++ [x]) W' ∧ Kb g N W1 W' ∧ KeepsFrom D W1 W') ∨ (e = .returned (.bool false) ∧ Jx (pre ++ [x]) W' ∧ KeepsFrom D W1 W'))
    (h0 : J [] W) :
    CallsIn Fence.wide n Tryd.prog 20 #[.func (.yield l0) #[] #[], .pointer (some ⟨tb, 0, none⟩)] W fun e W' => (∃ v, e = .returned v) ∧
      ((∃ xs, xs.map keyN = seqN L.n ∧ J xs W') ∨ (∃ pre, pre.map keyN <+: seqN L.n ∧ Jx pre W')) := by
  have hq := seqN_from L.n
  generalize hsq : seqN L.n = sq at *
  have HQ := Lib.hid hq
  have HJ := Lib.hid h0
  have HH := Lib.hid hH
  clear hq hsq h0
  refine callsIn_of_wp Tryd.func20 rfl trivial ?_ rfl
  simp only [Tryd.ntmps20, List.size_toArray, List.length_cons, List.length_nil, Nat.reduceAdd, Nat.reduceSub, Array.replicate_succ, Array.replicate_zero, List.push_toArray, List.append_toArray, List.nil_append, List.cons_append]
  gi_wp2
  refine ⟨trivial, fun h => by simp [Fence.wide] at h, (callsIn_wide.2 (kinds_any W)).mono ?_⟩
  rintro e w1 ⟨rfl, KA, x1⟩
  have u0 : w1.cell? ⟨0, 0, none⟩ = some (.string (nameB 0)) := (HH.out.ext x1).names 0 (by decide)
  have u1 : w1.cell? ⟨0, 1, none⟩ = some (.string (nameB 1)) := (HH.out.ext x1).names 1 (by decide)
  have u2 : w1.cell? ⟨0, 2, none⟩ = some (.string (nameB 2)) := (HH.out.ext x1).names 2 (by decide)
  have u3 : w1.cell? ⟨0, 3, none⟩ = some (.string (nameB 3)) := (HH.out.ext x1).names 3 (by decide)
  have u4 : w1.cell? ⟨0, 4, none⟩ = some (.string (nameB 4)) := (HH.out.ext x1).names 4 (by decide)
  have u5 : w1.cell? ⟨0, 5, none⟩ = some (.string (nameB 5)) := (HH.out.ext x1).names 5 (by decide)
  have u6 : w1.cell? ⟨0, 6, none⟩ = some (.string (nameB 6)) := (HH.out.ext x1).names 6 (by decide)
  have u7 : w1.cell? ⟨0, 7, none⟩ = some (.string (nameB 7)) := (HH.out.ext x1).names 7 (by decide)
  have u8 : w1.cell? ⟨0, 8, none⟩ = some (.string (nameB 8)) := (HH.out.ext x1).names 8 (by decide)
  have u9 : w1.cell? ⟨0, 9, none⟩ = some (.string (nameB 9)) := (HH.out.ext x1).names 9 (by decide)
  have J1 := Lib.hid (own_ext hJ HJ.out x1)
  have kt := kt.ext x1
  have kB := kB.ext x1
  have kb : g < W.heap.size := hg
  have hsz : W.heap.size < w1.heap.size := KA.map.lt
  obtain ⟨ns, hns⟩ : ∃ ns : Array Value, ns = #[.string (nameB 0), .string (nameB 1), .string (nameB 2), .string (nameB 3), .string (nameB 4), .string (nameB 5), .string (nameB 6), .string (nameB 7), .string (nameB 8), .string (nameB 9)] := ⟨_, rfl⟩
  have hat := fun j hj W => index_names j hj W
  rw [← hns] at hat
  clear HJ hH x1
  gi_wp2
  rw [← hns]
  clear u0 u1 u2 u3 u4 u5 u6 u7 u8 u9 hns
  gi_loopw [10] (fun i wr => ∃ (pre : List NB) (j : Nat), j ≤ 10 ∧ i = .int .i64 j ∧ Hid (sq = pre.map keyN ++ fromK L.n j) ∧ Hid (J pre wr) ∧ KindsAt wr W.heap.size ∧ Blk wr tb 44 [.pointer (some ⟨B, 0, none⟩)] ∧ Blk wr B 24 (layC L A c) ∧ W.heap.size ≤ wr.heap.size) (fun i _ => 11 - (intOf i).toNat)
  case atStart => exact ⟨[], 0, by omega, rfl, HQ, J1, KA, kt, kB, by omega⟩
  case round =>
    obtain ⟨pre, j, hj, rfl, hp, hJp, KA, kt, kB, hsz⟩ := hrel
    by_cases hlt : j < 10
    -- ROUND
    · obtain ⟨wo, rfl⟩ : ∃ wo : World, wo = wr := ⟨_, rfl⟩
      have hj64 : (j : Int) < 10 := by omega
      have IX := hat j hlt wo
      by_cases h2 : j = 2
      ·
        have LK := KA.look1 j hlt
        rw [kindV, if_pos h2] at LK
        have H2 := Lib.hid h2
        clear h2
        obtain ⟨W2, hW2⟩ : ∃ W2, W2 = wo.alloc (.cells #[.func (.func 25) #[] #[], .func (.func 26) #[] #[]] 57) := ⟨_, rfl⟩
        have x2 : Ext wo W2 := by rw [hW2]; exact (Ext.refl _).alloc _
        have k6 : Blk W2 wo.heap.size 57 [.func (.func 25) #[] #[], .func (.func 26) #[] #[]] := by rw [hW2]; exact Blk.lit _ _ _ _ rfl
        have q1 : wo.cell? ⟨tb, 0, none⟩ = some (.pointer (some ⟨B, 0, none⟩)) := kt.cell 0
        have htb : tb < wo.heap.size := kt.lt
        have J2 := Lib.hid (own_ext hJ hJp.out x2)
        have KA2 := KA.ext x2
        have kt2 := kt.ext x2
        have kB2 := kB.ext x2
        have hsz2 : wo.heap.size < W2.heap.size := k6.lt
        clear x2 hJp KA kt kB
        gi_wp2
        rw [← hW2]
        clear hW2
        refine ⟨trivial, fun h => by simp [Fence.wide] at h, (callsIn_wide.2 (k3_any B A L.n c W2 (kB2.cell 4))).mono ?_⟩
        rintro e w3 ⟨rfl, rfl⟩
        clear q1
        gi_wp2
        gi_loopw [20] (fun i wr => ∃ (pre2 : List NB) (t : Nat), t ≤ L.n ∧ i = .int .i64 t ∧ Hid (sq = pre2.map keyN ++ ((ofK L.n j).drop t ++ fromK L.n (j + 1))) ∧ Hid (J pre2 wr) ∧ KindsAt wr W.heap.size ∧ Blk wr tb 44 [.pointer (some ⟨B, 0, none⟩)] ∧ Blk wr B 24 (layC L A c) ∧ Blk wr wo.heap.size 57 [.func (.func 25) #[] #[], .func (.func 26) #[] #[]] ∧ wo.heap.size < wr.heap.size) (fun i _ => 1000001 - (intOf i).toNat)
        case atStart => exact ⟨pre, 0, by omega, rfl, Lib.hid (by rw [hp.out, fromK_step hlt]; rfl), J2, KA2, kt2, kB2, k6, hsz2⟩
        case round =>
          clear KA2 kt2 kB2 k6 J2 hsz2 LK hp
          obtain ⟨pre2, t, ht, rfl, hp2, hJ2, KA2, kt2, kB2, k6, hsz2⟩ := hrel
          by_cases htl : t < L.n
          · have ht64 : (t : Int) < (L.n : Int) := by omega
            have q0 : wr.cell? ⟨wo.heap.size, 1, none⟩ = some (.func (.func 26) #[] #[]) := k6.cell 1
            have q1 : wr.cell? ⟨tb, 0, none⟩ = some (.pointer (some ⟨B, 0, none⟩)) := kt2.cell 0
            gi_wp2
            have hA : A = some S := by rcases hS with h | h; exact h; omega
            have c4 : wr.cell? ⟨B, 4, none⟩ = some (.slice (some S) L.n c) := by rw [← hA]; exact kB2.cell 4
            refine ⟨trivial, fun h => by simp [Fence.wide] at h, (callsIn_wide.2 (k4_all B S (L.v 0) L.n c t wr c4 htl)).mono ?_⟩
            clear c4
            rintro e w4 ⟨kk, rfl, hk1, hkb, x4⟩
            have J4 := own_ext hJ hJ2.out x4
            have KA4 := Lib.hid (KA2.ext x4)
            have kt4 := Lib.hid (kt2.ext x4)
            have kB4 := Lib.hid (kB2.ext x4)
            have k64 := Lib.hid (k6.ext x4)
            have hsz4 : wr.heap.size ≤ w4.heap.size := x4.size
            have HP := hp2.out
            have e1 : (ofK L.n j).drop t = (j, t) :: (ofK L.n j).drop (t + 1) := by rw [H2.out]; exact drop_two htl
            rw [e1] at HP
            have hpl : pre2.length < sq.length := by rw [HP]; simp
            have HP2 := Lib.hid (show sq = (pre2 ++ [(j, t, kk)]).map keyN ++ ((ofK L.n j).drop (t + 1) ++ fromK L.n (j + 1)) by rw [HP]; simp [keyN])
            obtain ⟨fn, tmps, assign, body, hy, hR⟩ := hY pre2 (j, t, kk) w4 J4 (by rw [H2.out]; exact hkb) (by rw [HP]; simp [keyN]) hpl
            simp only [encN] at hy
            rw [show cntK j = cntK 2 by rw [H2.out]] at hy
            clear HP e1 hpl hk1 hkb J4 hJ2 KA2 kt2 kB2 k6 q0 q1 x4 hp2
            gi_wp2
            refine ⟨fun h => by simp [Fence.wide] at h, hR.mono ?_⟩
            rintro e W3 (⟨rfl, hJ3, hk3, _⟩ | ⟨rfl, hJx3, _⟩)
            · have HJ3 := Lib.hid hJ3
              have KA5 := Lib.hid (hk3.kinds KA4.out hg)
              have kt5 := Lib.hid (hk3.blk kt4.out htg (by decide))
              have kB5 := Lib.hid (hk3.blk kB4.out hBg (by decide))
              have k65 := Lib.hid (hk3.blk k64.out (by omega) (by decide))
              have hsz5 : w4.heap.size ≤ W3.heap.size := hk3.keep.size
              clear hJ3 hk3 KA4 kt4 kB4 k64 hR hy
              gi_wp2
              go_roundw
              case rel => exact ⟨_, t + 1, by omega, by go_num, HP2, HJ3, KA5.out, kt5.out, kB5.out, k65.out, by omega⟩
              case measure => simp [intOf]; omega
            · clear KA4 kt4 kB4 k64 hR hy
              gi_wp2
              refine bodyPost_ret (results_none rfl _ _ _) rfl ?_
              exact ⟨⟨_, rfl⟩, .inr ⟨_, ⟨_, HP2.out.symm⟩, hJx3⟩⟩
          · have ht64 : ¬ (t : Int) < (L.n : Int) := by omega
            have hp3 := Lib.hid (show sq = pre2.map keyN ++ fromK L.n (j + 1) by
              rw [hp2.out, List.drop_eq_nil_of_le (by rw [H2.out, ofK_two]; simp; omega)]; rfl)
            clear hp2
            gi_wp2
            go_roundw
            case rel => exact ⟨pre2, j + 1, by omega, by go_num, hp3, hJ2, KA2, kt2, kB2, by omega⟩
            case measure => simp [intOf]; omega
      ·
        have LK := KA.look1 j hlt
        rw [kindV, if_neg h2] at LK
        skip
        skip
        obtain ⟨W2, hW2⟩ : ∃ W2, W2 = wo.alloc (.cells #[.func (.func 34) #[] #[], .func (.func 35) #[] #[.pointer (some ⟨nbK W.heap.size j, 0, none⟩)]] 57) := ⟨_, rfl⟩
        have x2 : Ext wo W2 := by rw [hW2]; exact (Ext.refl _).alloc _
        have k6 : Blk W2 wo.heap.size 57 [.func (.func 34) #[] #[], .func (.func 35) #[] #[.pointer (some ⟨nbK W.heap.size j, 0, none⟩)]] := by rw [hW2]; exact Blk.lit _ _ _ _ rfl
        have q1 : wo.cell? ⟨tb, 0, none⟩ = some (.pointer (some ⟨B, 0, none⟩)) := kt.cell 0
        have htb : tb < wo.heap.size := kt.lt
        have J2 := Lib.hid (own_ext hJ hJp.out x2)
        have KA2 := KA.ext x2
        have kt2 := kt.ext x2
        have kB2 := kB.ext x2
        have hsz2 : wo.heap.size < W2.heap.size := k6.lt
        clear x2 hJp KA kt kB
        gi_wp2
        rw [← hW2]
        clear hW2
        refine ⟨trivial, fun h => by simp [Fence.wide] at h, (callsIn_wide.2 (one_any _ W2)).mono ?_⟩
        rintro e w3 ⟨rfl, rfl⟩
        clear q1
        gi_wp2
        gi_loopw [20] (fun i wr => ∃ (pre2 : List NB) (t : Nat), t ≤ 1 ∧ i = .int .i64 t ∧ Hid (sq = pre2.map keyN ++ ((ofK L.n j).drop t ++ fromK L.n (j + 1))) ∧ Hid (J pre2 wr) ∧ KindsAt wr W.heap.size ∧ Blk wr tb 44 [.pointer (some ⟨B, 0, none⟩)] ∧ Blk wr B 24 (layC L A c) ∧ Blk wr wo.heap.size 57 [.func (.func 34) #[] #[], .func (.func 35) #[] #[.pointer (some ⟨nbK W.heap.size j, 0, none⟩)]] ∧ wo.heap.size < wr.heap.size) (fun i _ => 1000001 - (intOf i).toNat)
        case atStart => exact ⟨pre, 0, by omega, rfl, Lib.hid (by rw [hp.out, fromK_step hlt]; rfl), J2, KA2, kt2, kB2, k6, hsz2⟩
        case round =>
          clear KA2 kt2 kB2 k6 J2 hsz2 LK hp
          obtain ⟨pre2, t, ht, rfl, hp2, hJ2, KA2, kt2, kB2, k6, hsz2⟩ := hrel
          by_cases htl : t < 1
          · have ht64 : (t : Int) < 1 := by omega
            have q0 : wr.cell? ⟨wo.heap.size, 1, none⟩ = some (.func (.func 35) #[] #[.pointer (some ⟨nbK W.heap.size j, 0, none⟩)]) := k6.cell 1
            have q1 : wr.cell? ⟨tb, 0, none⟩ = some (.pointer (some ⟨B, 0, none⟩)) := kt2.cell 0
            gi_wp2
            refine ⟨trivial, fun h => by simp [Fence.wide] at h, (callsIn_wide.2 (two_any j B (nbK W.heap.size j) t S (L.v 0) wr hlt h2 (kB2.cell 0) ((KA2.fn j hlt h2).cell 0))).mono ?_⟩
            rintro e w4 ⟨kk, rfl, hk1, hkb, x4⟩
            have J4 := own_ext hJ hJ2.out x4
            have KA4 := Lib.hid (KA2.ext x4)
            have kt4 := Lib.hid (kt2.ext x4)
            have kB4 := Lib.hid (kB2.ext x4)
            have k64 := Lib.hid (k6.ext x4)
            have hsz4 : wr.heap.size ≤ w4.heap.size := x4.size
            have HP := hp2.out
            have e1 : (ofK L.n j).drop t = (j, t) :: (ofK L.n j).drop (t + 1) := by rw [ofK_one h2, show t = 0 by omega]; rfl
            rw [e1] at HP
            have hpl : pre2.length < sq.length := by rw [HP]; simp
            have HP2 := Lib.hid (show sq = (pre2 ++ [(j, t, kk)]).map keyN ++ ((ofK L.n j).drop (t + 1) ++ fromK L.n (j + 1)) by rw [HP]; simp [keyN])
            obtain ⟨fn, tmps, assign, body, hy, hR⟩ := hY pre2 (j, t, kk) w4 J4 (hkb) (by rw [HP]; simp [keyN]) hpl
            simp only [encN] at hy
            skip
            clear HP e1 hpl hk1 hkb J4 hJ2 KA2 kt2 kB2 k6 q0 q1 x4 hp2
            gi_wp2
            refine ⟨fun h => by simp [Fence.wide] at h, hR.mono ?_⟩
            rintro e W3 (⟨rfl, hJ3, hk3, _⟩ | ⟨rfl, hJx3, _⟩)
            · have HJ3 := Lib.hid hJ3
              have KA5 := Lib.hid (hk3.kinds KA4.out hg)
              have kt5 := Lib.hid (hk3.blk kt4.out htg (by decide))
              have kB5 := Lib.hid (hk3.blk kB4.out hBg (by decide))
              have k65 := Lib.hid (hk3.blk k64.out (by omega) (by decide))
              have hsz5 : w4.heap.size ≤ W3.heap.size := hk3.keep.size
              clear hJ3 hk3 KA4 kt4 kB4 k64 hR hy
              gi_wp2
              go_roundw
              case rel => exact ⟨_, t + 1, by omega, by go_num, HP2, HJ3, KA5.out, kt5.out, kB5.out, k65.out, by omega⟩
              case measure => simp [intOf]; omega
            · clear KA4 kt4 kB4 k64 hR hy
              gi_wp2
              refine bodyPost_ret (results_none rfl _ _ _) rfl ?_
              exact ⟨⟨_, rfl⟩, .inr ⟨_, ⟨_, HP2.out.symm⟩, hJx3⟩⟩
          · have ht64 : ¬ (t : Int) < 1 := by omega
            have hp3 := Lib.hid (show sq = pre2.map keyN ++ fromK L.n (j + 1) by
              rw [hp2.out, List.drop_eq_nil_of_le (by rw [ofK_one h2]; simp; omega)]; rfl)
            clear hp2
            gi_wp2
            go_roundw
            case rel => exact ⟨pre2, j + 1, by omega, by go_num, hp3, hJ2, KA2, kt2, kB2, by omega⟩
            case measure => simp [intOf]; omega
    · have hj64 : ¬ (j : Int) < 10 := by omega
      obtain rfl : j = 10 := by omega
      have hp3 := Lib.hid (show sq = pre.map keyN by rw [hp.out, fromK_end, List.append_nil])
      clear hp
      gi_wp2
      go_end0
      exact ⟨⟨_, rfl⟩, .inl ⟨_, hp3.out.symm, hJp.out⟩⟩
end L14
end Go.Proofs.YtaieafmgeheomaaDoor

