/- The landed iterator over a character's steps: for every loop's body. -/
import Derived.Test.YtijhabhnhglhgaaLig08
import Derived.Test.YtijhabhnhglhgaaChg
import Derived.Test.YtijhabhnhglhgaaRefLoops07
import Derived.RangeFuncNested
import Derived.RangeFuncBound
import Derived.RangeFuncCalls
import Derived.RangeFuncLeaves
import Derived.OwnWalkIn
import Derived.TacticsInMore
import Derived.LoopNIn
import Derived.LoopIn
namespace Go.Proofs.Ytijhabhnhglhgaa
open Go.RowKit
namespace L08
open L07

attribute [local go_sem] Oper.semAt_some

def charV (c0 c1 c2 c3 c4 c5 : Int) : Value := .agg #[.int .i64 c0, .int .i64 c1, .int .i64 c2, .int .i64 c3, .int .i64 c4, .int .i64 c5]
def stepV (D : FontD) (k : Nat) : Value := .agg #[.int .i64 (D.stp k 0), .int .i64 (D.stp k 1), .int .i64 (D.stp k 2), .int .i64 (D.stp k 3)]
/-- A step's numbers; of one that is not there, noughts. -/
def sv (D : FontD) (x : StepAt D) (i : Nat) : Int := match x.1 with
  | some k => D.stp k i
  | none => 0
/-- What the loop's body is handed. -/
def encS (D : FontD) (x : StepAt D) : Array Value := #[.agg #[.int .i64 (sv D x 0), .int .i64 (sv D x 1), .int .i64 (sv D x 2), .int .i64 (sv D x 3)], .bool x.1.isSome]

set_option maxRecDepth 100000 in
theorem lsteps_any (D : FontD) (P : FontP) (c0 c1 c2 c3 c4 c5 : Int) (w : World) : Calls Try.prog 58 #[fontV D P, charV c0 c1 c2 c3 c4 c5] w (fun e w' =>
    e = .returned (.func (.func 73) #[] #[.pointer (some ⟨w.heap.size + 1, 0, none⟩), .pointer (some ⟨w.heap.size, 0, none⟩)]) ∧
      w' = (w.alloc (.cells #[.int .i64 D.sum, .int .i64 D.design, .int .i64 D.first, .slice P.xc D.nc P.zc, .slice P.xw D.nw P.zw, .slice P.xh D.nh P.zh, .slice P.xd D.nd P.zd, .slice P.xi D.ni P.zi, .slice P.xs D.ns P.zs, .slice P.xk D.nk P.zk, .slice P.xp D.np P.zp] 28)).alloc (.cells #[.int .i64 c0, .int .i64 c1, .int .i64 c2, .int .i64 c3, .int .i64 c4, .int .i64 c5] 44)) := by
  unfold fontV charV
  go_enter Try.func58, Try.ntmps58
  go_wp2_with fail
  go_ret
  exact ⟨rfl, rfl⟩

theorem seenN_chg {k : Nat} {w w' : World} {A : Option Addr} {n : Nat} {f : Nat → Nat → Int} {T : Addr → Prop} {N : Nat} (h : SeenN k w A n f) (x : Chg T N w w') (hT : ∀ ad, A = some ad → 0 < n → ∀ o, ¬ T (ad.add o)) : SeenN k w' A n f := fun i hi j hj => by
  obtain ⟨ad, e, hb, hc⟩ := h i hi j hj
  exact ⟨ad, e, Nat.lt_of_lt_of_le hb x.size, x.cell _ _ (hT ad e (by omega) _) hc⟩

set_option maxRecDepth 100000 in
set_option maxHeartbeats 4000000 in
theorem iter_in (n l bf : Nat) (D : FontD) (P : FontP) (t r : Int) (hn : D.ns ≤ 256) (hs : Hid (∀ k, k < D.ns → 0 ≤ D.stp k 0 ∧ D.stp k 0 < 256)) (ht : t = 0 ∨ t ≠ 0 ∧ 0 ≤ r ∧ r ≤ 256) (T : Addr → Prop) (N : Nat)
    (hT : Hid (∀ p, T p → p.block < bf)) (hTs : Hid (∀ ad, P.xs = some ad → 0 < D.ns → ∀ o, ¬ T (ad.add o))) (J Jx : List (StepAt D) → World → Prop) (hA : ∀ pre W o, J pre W → J pre (W.alloc o))
    (hY : ∀ pre x W, J pre W → pre.length < (seqS D t r).length → YieldAt Fence.wide (n - 1) Try.prog l (encS D x) W fun e W' =>
      (e = .returned (.bool true) ∧ J (pre ++ [x]) W' ∧ Chg T N W W') ∨ (e = .returned (.bool false) ∧ Jx (pre ++ [x]) W'))
    (W : World) (hb : bf + 1 < W.heap.size) (qf : W.cell? ⟨bf, 8, none⟩ = some (.slice P.xs D.ns P.zs)) (q4 : W.cell? ⟨bf + 1, 4, none⟩ = some (.int .i64 t)) (q5 : W.cell? ⟨bf + 1, 5, none⟩ = some (.int .i64 r))
    (sn : SeenN 4 W P.xs D.ns D.stp) (h0 : J [] W) :
    CallsIn Fence.wide n Try.prog 73 #[.func (.yield l) #[] #[], .pointer (some ⟨bf + 1, 0, none⟩), .pointer (some ⟨bf, 0, none⟩)] W fun e W' => (∃ v, e = .returned v) ∧
      ((∃ xs, xs = seqS D t r ∧ J xs W') ∨ (∃ pre, pre <+: seqS D t r ∧ Jx pre W')) := by
  refine callsIn_of_wp Try.func73 rfl trivial ?_ rfl
  simp only [Try.ntmps73, List.size_toArray, List.length_cons, List.length_nil, Nat.reduceAdd, Nat.reduceSub, Array.replicate_succ, Array.replicate_zero, List.push_toArray, List.append_toArray, List.nil_append, List.cons_append]
  rcases ht with rfl | ⟨ht, r0, r1⟩
  · gi_wp2
    refine bodyPost_ret (results_none rfl _ _ _) rfl ?_
    exact ⟨⟨_, rfl⟩, .inl ⟨[], by simp [seqS], h0⟩⟩
  · obtain ⟨k0, rfl⟩ := Int.eq_ofNat_of_zero_le r0
    have hseq := Lib.hid (show seqS D t (k0 : Int) = [] ++ walkS D (D.ns + 1 + 1) k0 by rw [seqS, if_neg ht]; rfl)
    have ht0 : (t == 0) = false := by simpa using ht
    generalize hq : seqS D t (k0 : Int) = sq at *
    clear hq
    gi_wp2
    gi_loopw [4] (fun i wr => ∃ (pre : List (StepAt D)) (f k : Nat), k ≤ 600 ∧ i = .int .i64 k ∧ Hid (sq = pre ++ walkS D (f + 1) k) ∧ D.ns < k + f + 1 ∧ J pre wr ∧ Chg T N W wr) (fun i _ => 1000 - (intOf i).toNat)
    case atStart => exact ⟨[], D.ns + 1, k0, by omega, rfl, hseq, by omega, h0, Chg.refl _ _ _⟩
    case round =>
      obtain ⟨pre, f, k, hk, rfl, hp, hf, hJ, hC⟩ := hrel
      have nT : ∀ b o, bf ≤ b → ¬ T ⟨b, o, none⟩ := fun b o hb h => by have := hT.out _ h; simp at this; omega
      have qf := hC.cell _ _ (nT bf 8 (Nat.le_refl _)) qf
      have q4 := hC.cell _ _ (nT (bf + 1) 4 (by omega)) q4
      have q5 := hC.cell _ _ (nT (bf + 1) 5 (by omega)) q5
      have sn := seenN_chg sn hC hTs.out
      have hsz := hC.size
      have hJ' := Lib.hid hJ
      have hC' := Lib.hid hC
      clear hJ hC hseq h0
      by_cases hlt : k < D.ns
      · obtain ⟨ad, hA', e0, e1, e2, e3⟩ := row4 sn hlt
        obtain ⟨s0, s1⟩ := hs.out k hlt
        have hp := hp.out
        rw [walkS_yes hlt] at hp
        have hpl : pre.length < sq.length := by rw [hp]; simp
        obtain ⟨fn, tmps, assign, body, hy, hR⟩ := hY pre ⟨some k, fun _ e => by cases e; exact hlt⟩ (wr.alloc (.cells #[.int .i64 (D.stp k 0), .int .i64 (D.stp k 1), .int .i64 (D.stp k 2), .int .i64 (D.stp k 3)] 53)) (hA _ _ _ hJ'.out) hpl
        dsimp only [encS, sv, Option.isSome] at hy
        rw [hA'] at qf
        have HP := Lib.hid hp
        have hk64 : (k : Int) < (D.ns : Int) := by omega
        obtain ⟨sk, hsk⟩ := Int.eq_ofNat_of_zero_le s0
        have hx : (⟨some k, fun _ e => by cases e; exact hlt⟩ : StepAt D) = (⟨some k, fun _ e => by cases e; exact hlt⟩ : StepAt D) := rfl
        clear hp hx
        have HSK := Lib.hid hsk
        rw [hsk] at hy hR s0 s1
        rw [hsk] at e0
        clear hsk
        generalize D.stp k 1 = v1 at hy e1 hR
        generalize D.stp k 2 = v2 at hy e2 hR
        generalize D.stp k 3 = v3 at hy e3 hR
        gi_wp2
        refine ⟨fun h => by simp [Fence.wide] at h, hR.mono ?_⟩
        rintro e W3 (⟨rfl, hJ3, hk3⟩ | ⟨rfl, hJx3⟩)
        · have u0 := hk3.cell ⟨wr.heap.size, 0, none⟩ (.int .i64 sk) (nT _ _ (by omega)) (by simp)
          have HC3 := Lib.hid ((hC'.out.trans (Chg.of_ext ((Ext.refl _).alloc _))).trans hk3)
          have HJ3 := Lib.hid hJ3
          clear hJ3 hk3 hR hy e0 e1 e2 e3 sn qf q4 q5
          by_cases h128 : (128 : Int) ≤ sk
          · gi_wp2
            refine bodyPost_ret (results_none rfl _ _ _) rfl ?_
            refine ⟨⟨_, rfl⟩, .inl ⟨_, ?_, HJ3.out⟩⟩
            rw [HP.out, HSK.out, if_pos h128]
          · have h128' : ¬ (128 : Int) ≤ sk := h128
            gi_wp2

            go_roundw
            case rel =>
              exact ⟨pre ++ [⟨some k, fun _ e => by cases e; exact hlt⟩], f - 1, k + sk + 1, by omega, by go_num, Lib.hid (by rw [HP.out, HSK.out, if_neg (show ¬ (128 : Int) ≤ (sk : Int) by omega), show f - 1 + 1 = f by omega]; simp), by omega, HJ3.out, HC3.out⟩
            case measure => simp [intOf]; omega
        · gi_wp2
          refine bodyPost_ret (results_none rfl _ _ _) rfl ?_
          exact ⟨⟨_, rfl⟩, .inr ⟨pre ++ [⟨some k, fun _ e => by cases e; exact hlt⟩], ⟨if 128 ≤ D.stp k 0 then [] else walkS D f (k + (D.stp k 0).toNat + 1), by rw [HP.out]; simp⟩, hJx3⟩⟩
      · have hp := hp.out
        rw [walkS_no hlt] at hp
        have hpl : pre.length < sq.length := by rw [hp]; simp
        obtain ⟨fn, tmps, assign, body, hy, hR⟩ := hY pre ⟨none, fun _ e => by cases e⟩ wr hJ'.out hpl
        dsimp only [encS, sv, Option.isSome] at hy
        have HP := Lib.hid hp
        clear hp
        have hk64 : ¬ (k : Int) < (D.ns : Int) := by omega
        gi_wp2
        refine ⟨fun h => by simp [Fence.wide] at h, hR.mono ?_⟩
        rintro e W3 (⟨rfl, hJ3, hk3⟩ | ⟨rfl, hJx3⟩)
        · gi_wp2
          go_end0
          exact ⟨⟨_, rfl⟩, .inl ⟨_, HP.out.symm, hJ3⟩⟩
        · gi_wp2
          go_end0
          exact ⟨⟨_, rfl⟩, .inr ⟨_, ⟨[], by rw [HP.out]; simp⟩, hJx3⟩⟩

theorem Chg.putObj {T : Addr → Prop} {N l : Nat} (W : World) (o o' : Obj) (hl : N ≤ l) (h : W.heap[l]? = some o) (hc : o.isCells = false) : Chg T N W (W.putObj l o') := by
  have hg := grownBy_putObj' W l o'
  have hr : ∀ r, some l = some r → ∃ o : Obj, W.heap[r]? = some o ∧ o.isCells = false := fun r e => by cases e; exact ⟨o, h, hc⟩
  refine ⟨hg.size, fun p v _ hv => cell_kept hv hg hr, fun p v _ hv hf => (frozen_kept hv hg hr).trans hf, fun b cs t f _ hb => ?_, fun w0 hle x => Below.grown x hg x.size fun k e => by cases e; omega⟩
  refine (hg.block b (Array.getElem?_eq_some_iff.1 hb).1 fun e => ?_).trans hb
  cases e
  rw [h] at hb
  cases hb
  cases hc
theorem steps_stops (n bf : Nat) (D : FontD) (P : FontP) (t r : Int) (hn : D.ns ≤ 256) (hs : ∀ k, k < D.ns → 0 ≤ D.stp k 0 ∧ D.stp k 0 < 256) (ht : t = 0 ∨ t ≠ 0 ∧ 0 ≤ r ∧ r ≤ 256) (T : Addr → Prop) (N : Nat)
    (hT : ∀ p, T p → p.block < bf) (hTs : ∀ ad, P.xs = some ad → 0 < D.ns → ∀ o, ¬ T (ad.add o)) (w : World) (hb : bf + 1 < w.heap.size) (qf : w.cell? ⟨bf, 8, none⟩ = some (.slice P.xs D.ns P.zs)) (q4 : w.cell? ⟨bf + 1, 4, none⟩ = some (.int .i64 t)) (q5 : w.cell? ⟨bf + 1, 5, none⟩ = some (.int .i64 r))
    (sn : SeenN 4 w P.xs D.ns D.stp) :
    SeqStopsK Fence.wide n Try.prog 73 #[.pointer (some ⟨bf + 1, 0, none⟩), .pointer (some ⟨bf, 0, none⟩)] (encS D) (Chg T N) (fun ys => ys = seqS D t r) (fun pre => pre <+: seqS D t r) (seqS D t r).length w :=
  fun l J Jx W hW hJ _ hY h0 => by
    have x : Ext w W := hW
    exact iter_in n l bf D P t r hn (Lib.hid hs) ht T N (Lib.hid hT) (Lib.hid hTs) J Jx (fun pre W2 o h => hJ pre W2 (W2.alloc o) none h (World.grownBy_alloc W2 o none) (fun r e => by cases e)) hY W (Nat.lt_of_lt_of_le hb x.size) (x.at qf) (x.at q4) (x.at q5) (sn.ext x) h0
end L08
end Go.Proofs.Ytijhabhnhglhgaa

