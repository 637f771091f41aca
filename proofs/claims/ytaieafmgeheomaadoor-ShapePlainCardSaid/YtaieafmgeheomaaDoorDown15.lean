/- The landed lines from the last one down: for every loop's body. Written by gen15/down.py. -/
import Derived.Test.YtaieafmgeheomaaDoorLand15
import Derived.OwnWalkIn
namespace Go.Proofs.YtaieafmgeheomaaDoor
open Go.RowKit
namespace L15
open L14

attribute [local go_sem] Oper.semAt_some

/-- The numbers that are handed over. -/
def downs (m : Nat) : List Nat := (List.range m).map (200 - ·)
theorem downs_succ (m : Nat) : downs (m + 1) = downs m ++ [200 - m] := by simp [downs, List.range_succ]
theorem downs_length (m : Nat) : (downs m).length = m := by simp [downs]
theorem downs_pre {m n : Nat} (h : m ≤ n) : downs m <+: downs n := by
  induction n with
  | zero => obtain rfl : m = 0 := by omega
            exact List.prefix_rfl
  | succ n ih =>
    by_cases e : m = n + 1
    · rw [e]; exact List.prefix_rfl
    · exact (ih (by omega)).trans ⟨[200 - n], (downs_succ n).symm⟩
def encD (L : LayD) (x : Nat) : Array Value := #[.int .i64 (x : Int), lineV (leftV L x)]
theorem keep_loop {g N l : Nat} (W : World) (r r' : Loop) (hl : N ≤ l) (h : W.heap[l]? = some (.loop r)) : Keep 5 g N W (W.putObj l (.loop r')) := (Kb.loop (g := g) W r r' hl h).keep
/-- A layout's variable is loaded, in a round. -/
theorem wpListIn_getW {F : Fence} {n : Nat} {ops : Array Oper} {rest : List Oper} {op : Oper} {a : Act} {w : World} {Q : Exit → Act → World → Prop} (hg : op.guard = none) (x : Operand) (ho : op.op = .load 24 x)
    (b : Nat) (hx : a.eval x = .pointer (some ⟨b, 0, none⟩)) {L : LayD} {A : Option Addr} {c : Nat} (k : Blk w b 24 (layC L A c))
    (h : wpListIn F n Tryd.prog ops Q rest (a.put op.dst (.agg (layC L A c).toArray)) w) : wpListIn F n Tryd.prog ops Q (op :: rest) a w := by
  refine wpListIn_plain hg fun K hK => ?_
  have hl := run_loadVar_mid (P := Tryd.prog) w b 0 24 (layC L A c) _ k.range Tryd.underlying24 rfl (by kernel_rfl)
  unfold Oper.wpIn
  refine ⟨?_, ?_⟩
  · simp [Oper.about, ho]
  · rw [Oper.semAt_plain F _ _ (by rw [ho]; intro c hc; cases hc)]
    unfold execOp
    simp only [ho, hx, Instr.loadAt, Instr.sureAddr, Sem.run_bind, Sem.run_pure, Result.andThen_ok, hl]
    exact hK _ _ h
theorem down_any (L : LayD) (A : Option Addr) (c : Nat) (w : World) : Calls Tryd.prog 15 #[.agg (layC L A c).toArray] w (fun e w' =>
    e = .returned (.func (.func 19) #[] #[.pointer (some ⟨w.heap.size, 0, none⟩)]) ∧ Ext w w' ∧ Blk w' w.heap.size 24 (layC L A c) ∧ w'.heap.size = w.heap.size + 1) := by
  obtain ⟨W1, hW1⟩ : ∃ W1, W1 = w.alloc (.cells (layC L A c).toArray 24) := ⟨_, rfl⟩
  have X := Lib.hid (show Ext w W1 by rw [hW1]; exact (Ext.refl _).alloc _)
  have K0 := Lib.hid (show Blk W1 w.heap.size 24 (layC L A c) by rw [hW1]; exact Blk.lit _ _ _ _ rfl)
  have SZ := Lib.hid (show W1.heap.size = w.heap.size + 1 by rw [hW1]; simp)
  have HW1 := Lib.hid hW1
  obtain ⟨b0, hb0⟩ : ∃ b0, w.heap.size = b0 := ⟨_, rfl⟩
  rw [hb0] at K0 SZ ⊢
  have H0 := Lib.hid hb0
  clear hW1 hb0
  go_enter Tryd.func15, Tryd.ntmps15
  go_upto_region 1 with (fail)
  rw [← HW1.out]
  rw [H0.out]
  clear HW1 H0
  go_wp2_with fail
  go_ret
  exact ⟨rfl, X.out, K0.out, SZ.out⟩

set_option maxRecDepth 100000 in
set_option maxHeartbeats 8000000 in
theorem down_in (n l0 tb g D : Nat) (_ : 3 ≤ n) (L : LayD) (A : Option Addr) (c : Nat) (M : MayN L) (w0 : World) (sn : SeenP w0 A L.n L.sh)
    (W : World) (J Jx : List Nat → World → Prop) (hx : Ext w0 W) (kt : Blk W tb 24 (layC L A c)) (htg : tb ≠ g) (hJ : OwnFrom W.heap.size J)
    (hY : ∀ pre x W1, J pre W1 → 1 ≤ x ∧ x ≤ 200 → pre.length < 200 → YieldAt Fence.wide (n - 1) Tryd.prog l0 (encD L x) W1 fun e W' => (e = .returned (.bool true) ∧ J (pre ++ [x]) W' ∧ Keep 5 g w0.heap.size W1 W' ∧ KeepsFrom D W1 W') ∨ (e = .returned (.bool false) ∧ Jx (pre ++ [x]) W' ∧ KeepsFrom D W1 W'))
    (h0 : J [] W) :
    CallsIn Fence.wide n Tryd.prog 19 #[.func (.yield l0) #[] #[], .pointer (some ⟨tb, 0, none⟩)] W fun e W' => (∃ v, e = .returned v) ∧
      ((∃ xs, xs = downs 200 ∧ J xs W') ∨ (∃ pre, pre <+: downs 200 ∧ Jx pre W')) := by
  have HJ := Lib.hid h0
  have KT := Lib.hid kt
  have HX := Lib.hid hx
  clear h0 kt hx
  refine callsIn_of_wp Tryd.func19 rfl trivial ?_ rfl
  simp only [Tryd.ntmps19, List.size_toArray, List.length_cons, List.length_nil, Nat.reduceAdd, Nat.reduceSub, Array.replicate_succ, Array.replicate_zero, List.push_toArray, List.append_toArray, List.nil_append, List.cons_append]
  gi_wp2
  gi_loopw [3] (fun i wr => ∃ (k : Nat), k ≤ 200 ∧ i = .int .i64 (k : Int) ∧ Hid (J (downs (200 - k)) wr) ∧ Hid (Blk wr tb 24 (layC L A c)) ∧ Hid (Ext w0 wr)) (fun i _ => (intOf i).toNat)
  case atStart => exact ⟨200, Nat.le_refl _, rfl, HJ, KT, HX⟩
  case round =>
    clear HJ KT HX
    obtain ⟨k, hk, rfl, HJ, KT, HX⟩ := hrel
    obtain ⟨wo, rfl⟩ : ∃ wo : World, wo = wr := ⟨_, rfl⟩
    by_cases hlt : 1 ≤ k
    · have hk64 : 1 ≤ (k : Int) := by omega
      have LF := Lib.hid (lleft_any L A c wo M (sn.ext HX.out) k hlt hk)
      have NX := Lib.hid (show downs (200 - k) ++ [k] = downs (200 - (k - 1)) by
        rw [show 200 - (k - 1) = (200 - k) + 1 by omega, downs_succ, show 200 - (200 - k) = k by omega])
      gi_wp2_with (refine wpListIn_getW rfl _ rfl tb rfl KT.out ?_)
      refine ⟨trivial, fun h => by simp [Fence.wide] at h, (callsIn_wide.2 LF.out).mono ?_⟩
      rintro e w4 ⟨rfl, x4⟩
      have J4 := own_ext hJ HJ.out x4
      have KT4 := Lib.hid (KT.out.ext x4)
      have X4 := Lib.hid (HX.out.trans x4)
      obtain ⟨fn, tmps, assign, body, hy, hR⟩ := hY (downs (200 - k)) k w4 J4 ⟨hlt, hk⟩ (by rw [downs_length]; omega)
      simp only [encD] at hy
      clear J4 HJ KT HX LF x4
      generalize lineV (leftV L k) = lv at *
      gi_wp2
      refine ⟨fun h => by simp [Fence.wide] at h, hR.mono ?_⟩
      rintro e W3 (⟨rfl, hJ3, hk3, _⟩ | ⟨rfl, hJx3, _⟩)
      · have HJ3 := Lib.hid (show J (downs (200 - (k - 1))) W3 by rw [← NX.out]; exact hJ3)
        have KT5 := Lib.hid (hk3.blk KT4.out htg (by decide))
        have X5 := Lib.hid (hk3.old w0 (Nat.le_refl _) X4.out)
        clear hJ3 hk3 KT4 X4 hR hy
        gi_wp2
        go_roundw
        case rel => exact ⟨k - 1, by omega, by go_num, HJ3, KT5, X5⟩
        case measure => simp [intOf]; omega
      · clear KT4 X4 hR hy
        have HX3 := Lib.hid (show Jx (downs (200 - (k - 1))) W3 by rw [← NX.out]; exact hJx3)
        clear hJx3
        gi_wp2
        refine bodyPost_ret (results_none rfl _ _ _) rfl ?_
        exact ⟨⟨_, rfl⟩, .inr ⟨_, downs_pre (by omega), HX3.out⟩⟩
    · obtain rfl : k = 0 := by omega
      have hp3 := Lib.hid (show J (downs 200) wo from HJ.out)
      clear HJ
      gi_wp2
      go_end0
      exact ⟨⟨_, rfl⟩, .inl ⟨_, rfl, hp3.out⟩⟩
end L15
end Go.Proofs.YtaieafmgeheomaaDoor

