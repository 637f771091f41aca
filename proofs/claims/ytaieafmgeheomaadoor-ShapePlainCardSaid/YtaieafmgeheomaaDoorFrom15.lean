/- The landed From. Written by gen15/from.py. -/
import Derived.Test.YtaieafmgeheomaaDoorDown15
import Derived.ScopeJumps
import Derived.WalkMore
namespace Go.Proofs.YtaieafmgeheomaaDoor
open Go.RowKit
namespace L15
open L14

attribute [local go_sem] Oper.semAt_some

/-- A scope that is left for its label once, onward. -/
theorem scope_on {P : Program} {a : Act} {w : World} {Q : Exit → Act → World → Prop} {c rest : Code} (l : Nat) (hf : findLabel c l = some rest)
    (h : c.wp P (Exit.jump l (fun a w => rest.wp P (Exit.noGoto Q) a w) Q) a w) : (Code.scope c).wp P Q a w :=
  wp_scope_jumps l (fun a w => rest.wp P (Exit.noGoto Q) a w) (fun _ _ => 0) hf h fun a w hJ => wp_mono hJ fun e a w h => by cases e <;> first | exact h | exact h.elim
@[local go_sem] theorem jump_ret {l : Nat} {J : Act → World → Prop} {Q : Exit → Act → World → Prop} {a : Act} {w : World} : Exit.jump l J Q .ret a w = Q .ret a w := rfl
@[local go_sem] theorem jump_normal {l : Nat} {J : Act → World → Prop} {Q : Exit → Act → World → Prop} {a : Act} {w : World} : Exit.jump l J Q .normal a w = Q .normal a w := rfl

/-- From where on all are alike. -/
theorem from_on {L : LayD} {m : Nat} (h1 : 1 ≤ m) (h2 : m ≤ 200) (ho : ∀ x, m ≤ x → x ≤ 200 → leftV L x = leftV L 200) (hn : 1 < m → leftV L (m - 1) ≠ leftV L 200) : fromV L = m := by
  have no : ∀ k, 1 ≤ k → k < m → alikeB L k = false := fun k k1 k2 => by
    rw [alikeB, List.all_eq_false]
    exact ⟨m - 1 - k, List.mem_range.2 (by omega), by rw [show k + (m - 1 - k) = m - 1 by omega]; simpa using hn (by omega)⟩
  by_cases e : m < 200
  · exact from_first h1 e (List.all_eq_true.2 fun i hi => by have := List.mem_range.1 hi; exact decide_eq_true (ho _ (by omega) (by omega))) no
  · obtain rfl : m = 200 := by omega
    exact from_last no
theorem downs_mem {m x : Nat} (hm : m ≤ 200) : x ∈ downs m ↔ 200 - m < x ∧ x ≤ 200 := by
  simp only [downs, List.mem_map, List.mem_range]
  exact ⟨fun ⟨a, h1, h2⟩ => by omega, fun ⟨h1, h2⟩ => ⟨200 - x, by omega, by omega⟩⟩
theorem downs_last (m : Nat) (hm : m ≤ 200) : (downs m).getLastD 200 = if m = 0 then 200 else 201 - m := by
  cases m with
  | zero => rfl
  | succ m => rw [downs_succ, List.getLastD_concat, if_neg (by omega)]; omega
theorem from_all {L : LayD} (h : ∀ x ∈ downs 200, leftV L x = leftV L 200) : fromV L = (downs 200).getLastD 200 := by
  rw [downs_last 200 (Nat.le_refl _)]
  exact from_on (by decide) (by decide) (fun x h1 h2 => h x ((downs_mem (Nat.le_refl _)).2 ⟨h1, h2⟩)) (fun h => absurd h (by decide))
theorem from_some {L : LayD} {p : List Nat} {x : Nat} (hp : p ++ [x] <+: downs 200) (h : ∀ y ∈ p, leftV L y = leftV L 200) (hn : leftV L x ≠ leftV L 200) : fromV L = p.getLastD 200 := by
  have hl : p.length + 1 ≤ 200 := by have := hp.length_le; rw [downs_length] at this; simpa using this
  have e1 : p ++ [x] = downs (p.length + 1) := by
    have a := List.prefix_iff_eq_take.1 hp
    have b := List.prefix_iff_eq_take.1 (downs_pre hl)
    rw [downs_length] at b
    rw [List.length_append, List.length_singleton] at a
    rw [a, b]
  rw [downs_succ] at e1
  obtain ⟨e2, e3⟩ := List.append_inj' e1 rfl
  have ex : x = 200 - p.length := by simpa using e3
  have hp0 : p.length ≠ 0 := fun e => hn (by rw [ex, e])
  rw [e2, downs_last _ (by omega), if_neg hp0]
  refine from_on (by omega) (by omega) (fun y h1 h2 => h y ?_) (fun _ => ?_)
  · rw [e2]; exact (downs_mem (by omega)).2 ⟨by omega, h2⟩
  · rw [show 201 - p.length - 1 = x by omega]; exact hn

/-- What holds between the rounds; where the loop is left. -/
def FI (w : World) (L : LayD) (bF bL : Nat) (pre : List Nat) (W : World) : Prop := (∀ x ∈ pre, leftV L x = leftV L 200) ∧ Blk W bF 3 [.int .i64 (pre.getLastD 200 : Nat)] ∧ Blk W bL 27 [.int .i64 (leftV L 200).1, .int .i64 (leftV L 200).2] ∧ Ext w W
def FX (w : World) (L : LayD) (bF : Nat) (cd : Code) (pre : List Nat) (W : World) : Prop := cd = .goto 0 ∧ ∃ p x, pre = p ++ [x] ∧ (∀ y ∈ p, leftV L y = leftV L 200) ∧ leftV L x ≠ leftV L 200 ∧ Blk W bF 3 [.int .i64 (p.getLastD 200 : Nat)] ∧ Ext w W
theorem FI.own {w : World} {L : LayD} {bF bL B : Nat} (hB : w.heap.size ≤ B) : OwnFrom B (FI w L bF bL) := fun _ _ _ _ h hg hr =>
  ⟨h.1, blk_row h.2.1 hg (fun r e => (hr r e).2), blk_row h.2.2.1 hg (fun r e => (hr r e).2), ext_row h.2.2.2 hg (fun r e => Nat.le_trans hB (hr r e).1)⟩
theorem FX.own {w : World} {L : LayD} {bF B : Nat} (cd : Code) (hB : w.heap.size ≤ B) : OwnFrom B (FX w L bF cd) := fun _ _ _ _ h hg hr => by
  obtain ⟨h0, p, x, h1, h2, h3, h4, h5⟩ := h
  exact ⟨h0, p, x, h1, h2, h3, blk_row h4 hg (fun r e => (hr r e).2), ext_row h5 hg (fun r e => Nat.le_trans hB (hr r e).1)⟩

set_option maxRecDepth 100000 in
set_option maxHeartbeats 8000000 in
theorem from_any (L : LayD) (A : Option Addr) (c : Nat) (w : World) (ok : LayOk L c) (sn : SeenP w A L.n L.sh) (hT : Home w) :
    Calls Tryd.prog 9 #[.agg (layC L A c).toArray] w (Ret w (.int .i64 (fromZ L))) := by
  obtain ⟨W1, hW1⟩ : ∃ W1, W1 = w.alloc (.cells (layC L A c).toArray 24) := ⟨_, rfl⟩
  have x0 : Ext w W1 := by rw [hW1]; exact (Ext.refl _).alloc _
  have K0 := Lib.hid (show Blk W1 w.heap.size 24 (layC L A c) by rw [hW1]; exact Blk.lit _ _ _ _ rfl)
  have SN := Lib.hid (sn.ext x0)
  have X := Lib.hid x0
  have RC := Lib.hid (show Calls Tryd.prog 12 #[.agg (layC L A c).toArray] W1 (Ret W1 (.bool (mayL L))) from check_any L A c W1 ok SN.out (hT.ext x0))
  have MN := Lib.hid (show mayL L = true → MayN L from may_nums)
  have E := Lib.hid (show fromZ L = if mayL L = true then (fromV L : Int) else 0 from rfl)
  have HW1 := Lib.hid hW1
  have SN0 := Lib.hid sn
  clear sn x0 ok hT hW1
  refine (callsIn_wide (n := 9)).1 (callsIn_of_wp_marks Tryd.func9 rfl trivial ?_ rfl)
  refine wpIn_wide.2 ?_
  simp only [Tryd.ntmps9, List.size_toArray, List.length_cons, List.length_nil, Nat.reduceAdd, Nat.reduceSub, Array.replicate_succ, Array.replicate_zero, List.push_toArray, List.append_toArray, List.nil_append, List.cons_append]
  go_wp2_with fail
  rw [← HW1.out]
  clear HW1
  generalize w.heap.size = b0 at *
  refine scope_on 0 rfl ?_
  go_wp2_with (first | (refine wpList_getW (by kernel_rfl) _ rfl b0 rfl K0.out ?_) | fail)
  refine RC.out.mono ?_
  rintro e w2 ⟨rfl, x2⟩
  have K0 := Lib.hid (K0.out.ext x2)
  have SN := Lib.hid (SN.out.ext x2)
  have X := Lib.hid (X.out.trans x2)
  clear x2 RC
  cases hm : mayL L with
  | false =>
    have EV := Lib.hid (show fromZ L = 0 by rw [E.out, hm]; rfl)
    clear E MN hm
    go_wp2_with fail
    rw [jump_ret]
    exact ⟨_, results_tmp rfl _ _ _, by rw [EV.out]; rfl, X.out⟩
  | true =>
  have EV := Lib.hid (show fromZ L = (fromV L : Int) by rw [E.out, hm]; rfl)
  have M := Lib.hid (MN.out hm)
  have LF := Lib.hid (lleft_any L A c w2 M.out SN.out 200 (by decide) (by decide))
  clear E MN hm
  go_wp2_with (first | (refine wpList_getW (by kernel_rfl) _ rfl b0 rfl K0.out ?_) | fail)
  refine LF.out.mono ?_
  rintro e w3 ⟨rfl, x3⟩
  have K0 := Lib.hid (K0.out.ext x3)
  have X := Lib.hid (X.out.trans x3)
  clear x3 LF
  obtain ⟨q1, hq1⟩ : ∃ q, q = (leftV L 200).1 := ⟨_, rfl⟩
  obtain ⟨q2, hq2⟩ : ∃ q, q = (leftV L 200).2 := ⟨_, rfl⟩
  have hlv : lineV (leftV L 200) = .agg #[.int .i64 q1, .int .i64 q2] := by rw [hq1, hq2]; rfl
  have HQ := Lib.hid (show leftV L 200 = (q1, q2) by rw [hq1, hq2])
  rw [hlv]
  clear hq1 hq2 hlv
  obtain ⟨W4, hW4⟩ : ∃ W4, W4 = (w3.alloc (.cells #[.int .i64 200] 3)).alloc (.cells #[.int .i64 q1, .int .i64 q2] 27) := ⟨_, rfl⟩
  have x4 : Ext w3 W4 := by rw [hW4]; exact ((Ext.refl _).alloc _).alloc _
  have KF := Lib.hid (show Blk W4 w3.heap.size 3 [.int .i64 200] by rw [hW4]; exact (Blk.lit _ _ _ _ rfl).ext ((Ext.refl _).alloc _))
  have KL := Lib.hid (show Blk W4 (w3.heap.size + 1) 27 [.int .i64 q1, .int .i64 q2] by rw [hW4]; exact Blk.lit _ _ _ _ (by simp))
  have K0 := Lib.hid (K0.out.ext x4)
  have hF := Lib.hid (show w.heap.size ≤ w3.heap.size from X.out.size)
  have X := Lib.hid (X.out.trans x4)
  have HW4 := Lib.hid hW4
  obtain ⟨bF, hbF⟩ : ∃ bF, w3.heap.size = bF := ⟨_, rfl⟩
  obtain ⟨bL, hbL⟩ : ∃ bL, bF + 1 = bL := ⟨_, rfl⟩
  have HF := Lib.hid hbF
  have HL := Lib.hid hbL
  rw [hbF] at KF KL hF
  rw [hbL] at KL
  have hFL := Lib.hid (show bF ≠ bL by omega)
  clear hW4 x4 hbF hbL
  go_upto_region 4 with (fail)
  rw [← HW4.out]
  rw [HF.out]
  rw [HL.out]
  clear HW4 HF HL
  go_wp2_with (first | (refine wpList_getW (by kernel_rfl) _ rfl b0 rfl K0.out ?_) | fail)
  refine (down_any L A c W4).mono ?_
  rintro e w5 ⟨rfl, x5, KD, sz5⟩
  have h45 := Lib.hid (show bF < W4.heap.size from KF.out.lt)
  have KF := Lib.hid (KF.out.ext x5)
  have KL := Lib.hid (KL.out.ext x5)
  have X := Lib.hid (X.out.trans x5)
  have KD := Lib.hid KD
  clear x5 K0 SN
  generalize W4.heap.size = bD at *
  go_wp2_with fail
  have hDF : bD ≠ bF := by have := h45.out; omega
  have hsz : w.heap.size ≤ w5.heap.size := X.out.size
  have hFs : bF < w5.heap.size := KF.out.lt
  obtain ⟨V, hV⟩ : ∃ V, V = Value.agg (layC L A c).toArray := ⟨_, rfl⟩
  rw [← hV]
  clear hV h45 sz5
  refine wpIn_wide.1 (range_over (n := 9) (F := Fence.wide) rfl (by omega) (gf := 19) (lb := #[.pointer (some ⟨bD, 0, none⟩)]) rfl trivial (enters_of Tryd.func19 (by kernel_rfl) rfl)
    (encs := encD L) (fun _ => rfl) (V := fun x _ => 1 ≤ x ∧ x ≤ 200) (Kp := Keep 5 bF w.heap.size) (S := fun xs => xs = downs 200) (Sp := fun pre => pre <+: downs 200) (N := 200)
    (FI w L bF bL) (FX w L bF)
    (fun x a' W' => ∃ bs : Nat, Blk W' bs 27 [.int .i64 (leftV L x).1, .int .i64 (leftV L x).2] ∧ (1 ≤ x ∧ x ≤ 200) ∧ a' = { tmps := #[V, .pointer (some ⟨b0, 0, none⟩), .int .i64 0, .pointer (some ⟨bF, 0, none⟩), .pointer (some ⟨bL, 0, none⟩), .int .i64 (x : Int), .pointer (some ⟨bs, 0, none⟩), V, .bool true, .bool false, V, .agg #[.int .i64 q1, .int .i64 q2], V, .func (.func 19) #[] #[.pointer (some ⟨bD, 0, none⟩)], .int .i64 (x : Int), .agg #[.int .i64 (leftV L x).1, .int .i64 (leftV L x).2], undef, undef, undef, undef, undef], defers := [] })
    (FI.own hsz) (fun cd => FX.own cd hsz)
    (fun x a' u X Y row h hg hr => by
      obtain ⟨bs, h1, h2⟩ := h
      exact ⟨bs, blk_row h1 hg (fun r e => (hr r e).2), h2⟩)
    (fun h k => Keep.trans h k) (fun W' r r' h => keep_loop W' r r' (by omega) h)
    ⟨fun x h => by simp at h, KF.out, by rw [HQ.out]; exact KL.out, X.out⟩ ?call ?assign ?body ?done ?stop)
  case call =>
    intro W' J' Jx' x' hz' hJ' hJx' hY' h0'
    exact down_in 8 (w5.heap.size + 1) bD bF (w5.heap.size + 2) (by omega) L A c M.out w SN0.out W' J' Jx' (X.out.trans x') (KD.out.ext x') hDF hJ'
      (fun pre x W2 h1 h2 h3 => hY' pre x W2 h1 h2 h3) h0'
  case assign =>
    rintro pre x W' K hi hx hK
    have x9 : Ext W' (W'.alloc (.cells #[.int .i64 (leftV L x).1, .int .i64 (leftV L x).2] 27)) := (Ext.refl _).alloc _
    have GO := Lib.hid (fun a' h => hK a' _ (keeps_ext x9) (Keep.of_ext x9) ⟨hi.1, hi.2.1.ext x9, hi.2.2.1.ext x9, hi.2.2.2.trans x9⟩ ⟨W'.heap.size, Blk.lit _ _ _ _ rfl, hx, h⟩)
    clear hi hK x9
    simp only [encD, lineV]
    gi_wp2
    exact GO.out _ rfl
  case body =>
    rintro pre x a' W' ⟨hok, kF, kL, X'⟩ ⟨bs, kS, hx, rfl⟩ hlt
    have YES := Lib.hid (fun (he : leftV L x = leftV L 200) => show ownPostG w5.heap.size (Keep 5 bF w.heap.size) (FI w L bF bL) (FX w L bF) (pre ++ [x]) W' .normal { tmps := #[], defers := [] } (W'.setCell ⟨bF, 0, none⟩ (.int .i64 (x : Int))) from
      ⟨(KeepsOthers.setCell _ _ _).from _, Keep.set hF.out _ _ _, fun y hy => by
        rcases List.mem_append.1 hy with h | h
        · exact hok y h
        · rw [List.mem_singleton.1 h]; exact he,
       by rw [List.getLastD_concat]; exact kF.set 0 _, kL.far (p := ⟨bF, 0, none⟩) hFL.out _, X'.setCell (by have := hF.out; show _ ≤ bF; omega) _⟩)
    have NO := Lib.hid (fun (he : leftV L x ≠ leftV L 200) => show ownPostG w5.heap.size (Keep 5 bF w.heap.size) (FI w L bF bL) (FX w L bF) (pre ++ [x]) W' (.goto 0) { tmps := #[], defers := [] } W' from
      ⟨KeepsFrom.refl _ _, rfl, pre, x, rfl, hok, he, kF, X'⟩)
    have f1 : W'.cell? ⟨bF, 0, none⟩ = some (.int .i64 (pre.getLastD 200 : Nat)) := kF.cell 0
    have f2 : W'.frozen? ⟨bF, 0, none⟩ = false := kF.free 0
    rw [HQ.out] at kL YES NO
    have l0 : W'.cell? ⟨bL, 0, none⟩ = some (.int .i64 q1) := kL.cell 0
    have l1 : W'.cell? ⟨bL, 1, none⟩ = some (.int .i64 q2) := kL.cell 1
    have s0 : W'.cell? ⟨bs, 0, none⟩ = some (.int .i64 (leftV L x).1) := kS.cell 0
    have s1 : W'.cell? ⟨bs, 1, none⟩ = some (.int .i64 (leftV L x).2) := kS.cell 1
    clear kF kL kS hok X' hx hlt KF KL X KD
    generalize leftV L x = lx at *
    generalize pre.getLastD 200 = pl at *
    obtain ⟨p1, p2⟩ := lx
    dsimp only at s0 s1 ⊢
    by_cases h1 : p1 = q1
    · subst h1
      by_cases h2 : p2 = q2
      · subst h2
        have GO := Lib.hid (YES.out rfl)
        clear YES NO
        gi_wp2
        exact GO.out
      · have GO := Lib.hid (NO.out (fun h => h2 (Prod.ext_iff.1 h).2))
        clear YES NO
        gi_wp2
        refine wpIn_goto ?_
        gi_wp2
        exact GO.out
    · have GO := Lib.hid (NO.out (fun h => h1 (Prod.ext_iff.1 h).1))
      clear YES NO
      gi_wp2
      refine wpIn_goto ?_
      gi_wp2
      exact GO.out
  case done =>
    rintro xs W' rfl ⟨hok, kF, _, X'⟩ hK
    have EN := Lib.hid (show fromZ L = ((downs 200).getLastD 200 : Nat) by rw [EV.out, from_all hok])
    generalize (downs 200).getLastD 200 = m at *
    have r0 : W'.cell? ⟨bF, 0, none⟩ = some (.int .i64 (m : Nat)) := kF.cell 0
    have HK := Lib.hid hK
    have HX := Lib.hid X'
    clear hok kF X' hK KF KL KD X EV
    go_wp2_with (apply wp_label)
    rw [jump_ret]
    refine ⟨by simp, .inl ⟨_, _, rfl, run_takeDeferred HK.out, ⟨_, results_tmp rfl _ _ _, by rw [EN.out]; rfl, ext_put _ HX.out hsz⟩⟩⟩
  case stop =>
    rintro cd pre W' hSp ⟨rfl, p, x, rfl, h1, h2, kF, X'⟩ hK
    have EN := Lib.hid (show fromZ L = (p.getLastD 200 : Nat) by rw [EV.out, from_some hSp h1 h2])
    generalize p.getLastD 200 = m at *
    have r0 : W'.cell? ⟨bF, 0, none⟩ = some (.int .i64 (m : Nat)) := kF.cell 0
    have HK := Lib.hid hK
    have HX := Lib.hid X'
    clear hSp h1 h2 kF X' hK KF KL KD X EV
    refine wpIn_goto ?_
    go_wp2_with fail
    refine ⟨rfl, ?_⟩
    go_wp2_with fail
    rw [Exit.noGoto_ret]
    refine ⟨by simp, .inl ⟨_, _, rfl, run_takeDeferred HK.out, ⟨_, results_tmp rfl _ _ _, by rw [EN.out]; rfl, ext_put _ HX.out hsz⟩⟩⟩
end L15
end Go.Proofs.YtaieafmgeheomaaDoor

