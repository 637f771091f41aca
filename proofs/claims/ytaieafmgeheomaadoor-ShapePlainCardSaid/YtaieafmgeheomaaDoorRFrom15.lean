/- The document's From. Written by gen15/rfrom.py. -/
import Derived.Test.YtaieafmgeheomaaDoorRAt15
import Derived.Deep.CutBlock
import Derived.Deep.DeepCutAuto
namespace Go.Proofs.YtaieafmgeheomaaDoor
open Go.RowKit
namespace L15
open L14

def fromZ (L : LayD) : Int := if mayL L = true then (fromV L : Int) else 0
/-- All are alike, up to a line. -/
def alB (L : LayD) (n k : Nat) : Bool := (List.range (k - n)).all fun i => decide (leftV L (n + i) = leftV L 200)
theorem alB_start (L : LayD) (n : Nat) : alB L n n = true := by rw [alB, Nat.sub_self]; rfl
theorem alB_next (L : LayD) {n k : Nat} (h : n ≤ k) : alB L n (k + 1) = (alB L n k && decide (leftV L k = leftV L 200)) := by
  rw [alB, alB, show k + 1 - n = (k - n) + 1 by omega, List.range_succ, List.all_append]
  simp only [List.all_cons, List.all_nil, Bool.and_true]
  rw [show n + (k - n) = k by omega]
theorem alB_all (L : LayD) (n : Nat) : alB L n 201 = alikeB L n := rfl
set_option maxRecDepth 100000 in
set_option maxHeartbeats 4000000 in
theorem rfrom_any (L : LayD) (A : Option Addr) (c : Nat) (w : World) (ok : LayOk L c) (sn : SeenP w A L.n L.sh) :
    Calls Tryd.prog 10 #[.agg (layC L A c).toArray] w (Ret w (.int .i64 (fromZ L))) := by
  obtain ⟨W1, hW1⟩ : ∃ W1, W1 = w.alloc (.cells (layC L A c).toArray 24) := ⟨_, rfl⟩
  have x0 : Ext w W1 := by rw [hW1]; exact (Ext.refl _).alloc _
  have K0 := Lib.hid (show Blk W1 w.heap.size 24 (layC L A c) by rw [hW1]; exact Blk.lit _ _ _ _ rfl)
  have SN := Lib.hid (sn.ext x0)
  have X := Lib.hid x0
  have RC := Lib.hid (rcheck_any L A c W1 ok SN.out)
  have MN := Lib.hid (show mayL L = true → MayN L from may_nums)
  have E := Lib.hid (show fromZ L = if mayL L = true then (fromV L : Int) else 0 from rfl)
  have HW1 := Lib.hid hW1
  clear sn x0 ok hW1
  go_enter Tryd.func10, Tryd.ntmps10
  go_upto_region 1 with (fail)
  rw [← HW1.out]
  clear HW1
  generalize w.heap.size = b0 at *
  go_wp2_with (first | (refine wpList_getW (by kernel_rfl) _ rfl b0 rfl K0.out ?_) | fail)
  refine RC.out.mono ?_
  rintro e w2 ⟨rfl, x2⟩
  have K0 := Lib.hid (K0.out.ext x2)
  have SN := Lib.hid (SN.out.ext x2)
  have X := Lib.hid (X.out.trans x2)
  clear x2 RC
  cases hm : mayL L with
  | false =>
    have EV := Lib.hid (show fromZ L = 0 by rw [E.out, hm]; rfl)
    clear E MN hm
    go_wp2_with fail
    go_ret
    exact ⟨by rw [EV.out]; rfl, X.out⟩
  | true =>
  have EV := Lib.hid (show fromZ L = (fromV L : Int) by rw [E.out, hm]; rfl)
  have M := Lib.hid (MN.out hm)
  have L2 := Lib.hid (fun w' (x : Ext w2 w') => left_any L A c w' M.out (SN.out.ext x) 200 (by decide) (by decide))
  have LK := Lib.hid (fun k (h1 : 1 ≤ k) (h2 : k ≤ 200) w' (x : Ext w2 w') => left_any L A c w' M.out (SN.out.ext x) k h1 h2)
  have ST := Lib.hid (alB_start L)
  have NX := Lib.hid (fun n k (h : n ≤ k) => alB_next L h)
  have AL := Lib.hid (alB_all L)
  have FF := Lib.hid (fun n h1 h2 h ho => from_first (L := L) (n := n) h1 h2 h ho)
  have FL := Lib.hid (show (∀ k, 1 ≤ k → k < 200 → alikeB L k = false) → fromV L = 200 from fun h => from_last h)
  clear E MN hm SN M
  obtain ⟨q1, hq1⟩ : ∃ q, q = (leftV L 200).1 := ⟨_, rfl⟩
  obtain ⟨q2, hq2⟩ : ∃ q, q = (leftV L 200).2 := ⟨_, rfl⟩
  have Q1 := Lib.hid hq1
  have Q2 := Lib.hid hq2
  unfold lineV at L2 LK
  rw [← hq1, ← hq2] at L2
  clear hq1 hq2
  go_wp2_with fail
  go_loopw [4] (fun vn wr => ∃ n : Nat, 1 ≤ n ∧ n ≤ 200 ∧ vn = .int .i64 (n : Int) ∧ Hid (∀ j, 1 ≤ j → j < n → alikeB L j = false) ∧ Hid (Ext w2 wr)) (fun n _ => 201 - (intOf n).toNat)
  case atStart => exact ⟨1, Nat.le_refl _, by decide, rfl, Lib.hid (fun j h1 h2 => by omega), Lib.hid (Ext.refl _)⟩
  case round =>
    obtain ⟨n, n1, n2, rfl, HO, XO⟩ := hrel
    obtain ⟨wo, rfl⟩ : ∃ wo : World, wo = wr := ⟨_, rfl⟩
    by_cases hn : n < 200
    · have hn64 : (n : Int) < 200 := by omega
      go_wp2_with fail
      go_loopw [5, 6] (fun va vk wr => ∃ k : Nat, n ≤ k ∧ k ≤ 201 ∧ va = .bool (alB L n k) ∧ vk = .int .i64 (k : Int) ∧ Hid (Ext w2 wr)) (fun _ k _ => 202 - (intOf k).toNat)
      case atStart => exact ⟨n, Nat.le_refl _, by omega, by rw [ST.out], rfl, XO⟩
      case round =>
        obtain ⟨k, k1, k2, rfl, rfl, XK⟩ := hrel
        obtain ⟨wi, rfl⟩ : ∃ wi : World, wi = wr := ⟨_, rfl⟩
        by_cases hk : k < 201
        · have hk64 : (k : Int) ≤ 200 := by omega
          have NK := Lib.hid (NX.out n k k1)
          have C1 := Lib.hid (fun dd os => LK.out k (by omega) (by omega) (Sort.grow (redrawn wi dd) os) (XK.out.trans (below_regrown _ _ _)))
          have C2 := Lib.hid (fun dd os => L2.out (Sort.grow (redrawn wi dd) os) (XK.out.trans (below_regrown _ _ _)))
          have RG := Lib.hid (range_regrown (K0.out.ext XK.out))
          have SOME := Lib.hid (some_regrown wi)
          have DQ := Lib.hid (show leftV L k = leftV L 200 ↔ (leftV L k).1 = q1 ∧ (leftV L k).2 = q2 by rw [Q1.out, Q2.out]; exact Prod.ext_iff)
          cases hb : alB L n k with
          | false =>
            have NK := Lib.hid (show alB L n (k + 1) = false by rw [NK.out, hb]; rfl)
            clear C1 C2 DQ hb
            go_wp2_with fail
            refine wp_region_quiet_below (by kernel_rfl) (by kernel_rfl) ?_
            repeat (go_big_quiet_step (fail))
            refine wpQuiet_nil ?_
            intro _ hw'
            obtain ⟨⟨dq, osq⟩, hw''⟩ := hw'
            subst hw''
            have XK := Lib.hid (XK.out.trans (below_regrown wi dq osq))
            generalize Sort.grow (redrawn wi dq) osq = wj at *
            clear RG SOME
            go_wp2_with fail
            go_roundw
            case rel => exact ⟨k + 1, by omega, by omega, by rw [NK.out], by go_num, XK⟩
            case measure => simp [intOf]; omega
          | true =>
            obtain ⟨p1, hp1⟩ : ∃ p, p = (leftV L k).1 := ⟨_, rfl⟩
            obtain ⟨p2, hp2⟩ : ∃ p, p = (leftV L k).2 := ⟨_, rfl⟩
            rw [← hp1, ← hp2] at C1 DQ
            clear hp1 hp2
            by_cases hpq : p1 = q1 ∧ p2 = q2
            · have NK := Lib.hid (show alB L n (k + 1) = true by rw [NK.out, hb, decide_eq_true (DQ.out.2 hpq)]; rfl)
              obtain ⟨rfl, rfl⟩ := hpq
              clear DQ hb
              go_wp2_with fail
              refine wp_region_quiet_below (by kernel_rfl) (by kernel_rfl) ?_
              repeat (first | (go_big_quiet_want; refine quiet_load 24 b0 rfl _ RG.out SOME.out Tryd.underlying24 rfl (by kernel_rfl) ?_; go_big_quiet_op; go_big_quiet_on) | go_big_quiet_step (first | (with_reducible exact rg14 (C1.out _ _)) | (with_reducible exact rg14 (C2.out _ _))))
              refine wpQuiet_nil ?_
              intro _ hw'
              obtain ⟨⟨dq, osq⟩, hw''⟩ := hw'
              subst hw''
              have XK := Lib.hid (XK.out.trans (below_regrown wi dq osq))
              clear C1 C2 RG SOME
              generalize Sort.grow (redrawn wi dq) osq = wj at *
              go_wp2_with fail
              go_roundw
              case rel => exact ⟨k + 1, by omega, by omega, by rw [NK.out], by go_num, XK⟩
              case measure => simp [intOf]; omega
            · have NK := Lib.hid (show alB L n (k + 1) = false by rw [NK.out, hb, decide_eq_false (fun h => hpq (DQ.out.1 h))]; rfl)
              clear DQ hb
              by_cases hp : p1 = q1
              · subst hp
                have hne : ¬ p2 = q2 := fun h => hpq ⟨rfl, h⟩
                clear hpq
                go_wp2_with fail
                refine wp_region_quiet_below (by kernel_rfl) (by kernel_rfl) ?_
                repeat (first | (go_big_quiet_want; refine quiet_load 24 b0 rfl _ RG.out SOME.out Tryd.underlying24 rfl (by kernel_rfl) ?_; go_big_quiet_op; go_big_quiet_on) | go_big_quiet_step (first | (with_reducible exact rg14 (C1.out _ _)) | (with_reducible exact rg14 (C2.out _ _))))
                refine wpQuiet_nil ?_
                intro _ hw'
                obtain ⟨⟨dq, osq⟩, hw''⟩ := hw'
                subst hw''
                have XK := Lib.hid (XK.out.trans (below_regrown wi dq osq))
                clear C1 C2 RG SOME
                generalize Sort.grow (redrawn wi dq) osq = wj at *
                go_wp2_with fail
                go_roundw
                case rel => exact ⟨k + 1, by omega, by omega, by rw [NK.out], by go_num, XK⟩
                case measure => simp [intOf]; omega
              · clear hpq
                go_wp2_with fail
                refine wp_region_quiet_below (by kernel_rfl) (by kernel_rfl) ?_
                repeat (first | (go_big_quiet_want; refine quiet_load 24 b0 rfl _ RG.out SOME.out Tryd.underlying24 rfl (by kernel_rfl) ?_; go_big_quiet_op; go_big_quiet_on) | go_big_quiet_step (first | (with_reducible exact rg14 (C1.out _ _)) | (with_reducible exact rg14 (C2.out _ _))))
                refine wpQuiet_nil ?_
                intro _ hw'
                obtain ⟨⟨dq, osq⟩, hw''⟩ := hw'
                subst hw''
                have XK := Lib.hid (XK.out.trans (below_regrown wi dq osq))
                clear C1 C2 RG SOME
                generalize Sort.grow (redrawn wi dq) osq = wj at *
                go_wp2_with fail
                go_roundw
                case rel => exact ⟨k + 1, by omega, by omega, by rw [NK.out], by go_num, XK⟩
                case measure => simp [intOf]; omega
        · obtain rfl : k = 201 := by omega
          have hk64 : ¬ ((201 : Nat) : Int) ≤ 200 := by omega
          have AN := Lib.hid (AL.out n)
          cases hb : alB L n 201 with
          | true =>
            have EN := Lib.hid (show fromZ L = (n : Int) by rw [EV.out, FF.out n n1 hn (by rw [← AN.out, hb]) HO.out])
            clear hb AN
            go_wp2_with fail
            go_ret
            exact ⟨ret_int EN.out.symm, X.out.trans XK.out⟩
          | false =>
            have HO2 := Lib.hid (show ∀ j, 1 ≤ j → j < n + 1 → alikeB L j = false from fun j h1 h2 => by
              by_cases hj : j = n
              · rw [hj, ← AN.out, hb]
              · exact HO.out j h1 (by omega))
            clear hb AN
            go_wp2_with fail
            go_roundw
            case rel => exact ⟨n + 1, by omega, by omega, by go_num, HO2, XK⟩
            case measure => simp [intOf]; omega
    · obtain rfl : n = 200 := by omega
      have hn64 : ¬ ((200 : Nat) : Int) < 200 := by omega
      have EN := Lib.hid (show fromZ L = 200 by rw [EV.out, FL.out HO.out]; rfl)
      go_wp2_with fail
      go_ret
      exact ⟨ret_int EN.out.symm, X.out.trans XO.out⟩
end L15
end Go.Proofs.YtaieafmgeheomaaDoor

