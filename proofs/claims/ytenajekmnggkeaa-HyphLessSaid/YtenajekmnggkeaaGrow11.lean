/- The landed grow of layer 11. -/
import Derived.Test.YtenajekmnggkeaaLift11
import Derived.Test.YtenajekmnggkeaaOnce11
import Derived.Test.YtenajekmnggkeaaKeep
import Derived.Deep.Cut
import Derived.BigQuiet
import Derived.StillTailTactics
namespace Go.Proofs.Ytenajekmnggkeaa
open Go.RowKit
namespace L11

/-- A trie's variable. -/
def trieC (vl : Value) (d st n : Int) (bs bv : Nat) : List Value := [vl, .int .u32 d, .int .i32 st, .int .u32 0, .int .i64 n, .map (some bs), .map (some bv)]
theorem StepsAt.keepB {S : Nat → Prop} {w w' : World} {bs n : Nat} {ns : List (List UInt8)} (h : StepsAt w bs n ns) (x : But S w w') (hs : ¬ S bs) : StepsAt w' bs n ns := h.block (x.block bs h.lt hs)
theorem StepsAt.ext {w w' : World} {bs n : Nat} {ns : List (List UInt8)} (h : StepsAt w bs n ns) (x : Ext w w') : StepsAt w' bs n ns := h.block (x.block bs h.lt)
theorem StepsAt.mono {w : World} {bs n m : Nat} {ns : List (List UInt8)} (h : StepsAt w bs n ns) (hn : n ≤ m) : StepsAt w bs m ns := by
  obtain ⟨x, hm, q⟩ := h
  exact ⟨x, hm.mono hn, q⟩
def GrowQ (w : World) (B bs bv n : Nat) (vl : Value) (d st : Int) (ns : List (List UInt8)) (r : List UInt8) (e : Ending) (w' : World) : Prop :=
  e = .returned (.int .i64 (num ns r)) ∧ But (fun k => k = B ∨ k = bs) w w' ∧ Blk w' B 73 (trieC vl d st ns.length bs bv) ∧ StepsAt w' bs n ns

set_option maxRecDepth 100000 in
set_option maxHeartbeats 4000000 in
theorem grow_any (B bs bv n : Nat) (vl : Value) (d st : Int) (ns : List (List UInt8)) (q : List UInt8) (b : UInt8) (w : World) (N : Nds ns) (hq : q ∈ ns) (kb : Blk w B 73 (trieC vl d st ns.length bs bv)) (ks : StepsAt w bs n ns) (hn : n < 900000) (hl : ns.length < 900000) :
    Calls Try.prog 61 #[.pointer (some ⟨B, 0, none⟩), .agg #[.int .i64 (num ns q), .int .u8 (b.toNat : Int)]] w (GrowQ w B bs bv (n + 1) vl d st (addQ ns (q ++ [b])) (q ++ [b])) := by
  have n1 := num_pos ns q
  have n2 := num_le hq
  have hne : B ≠ bs := ks.not_block kb
  obtain ⟨V, hV⟩ : ∃ V, V = w.alloc (.cells #[.int .i64 (num ns q), .int .u8 (b.toNat : Int)] 94) := ⟨_, rfl⟩
  have W0 : Ext w V := by rw [hV]; exact (Ext.refl _).alloc _
  have kS : Blk V w.heap.size 94 [.int .i64 (num ns q), .int .u8 (b.toNat : Int)] := by rw [hV]; exact Blk.lit _ _ _ _ rfl
  have hR : w.heap.size ≠ bs := by have := ks.lt; omega
  have hRB : w.heap.size ≠ B := by have := kb.lt; omega
  have KB := kb.ext W0
  have KS := ks.ext W0
  have LK := fun m => (KS.ext ((Ext.refl V).drewN m)).look (num ns q) b (by omega)
  have HX := Lib.hid W0
  have HST := Lib.hid (stepN_num hq b)
  have KBH := Lib.hid KB
  have KSH := Lib.hid KS
  have KSV := Lib.hid kS
  have q0 := KB.cell 0
  have q4 := KB.cell 4
  have q5 := KB.cell 5
  have z4 := KB.free 4
  have s0 := kS.cell 0
  have s1 := kS.cell 1
  simp only [trieC, List.getElem?_cons_zero, List.getElem?_cons_succ] at q0 q4 q5 s0 s1
  generalize hnum : num ns q = a at *
  have HN := Lib.hid hnum
  clear hnum
  obtain ⟨x, hx⟩ : ∃ x, stepN ns a b = x := ⟨_, rfl⟩
  rw [hx] at LK HST
  generalize hbz : (b.toNat : Int) = z at *
  have HZ := Lib.hid hbz
  clear KB KS kS kb ks W0 hx hbz
  go_enter Try.func61, Try.ntmps61
  go_upto_region 1 with (fail)
  rw [← hV]
  clear hV
  generalize w.heap.size = R at *
  by_cases hm : q ++ [b] ∈ ns
  · have E1 := Lib.hid (show addQ ns (q ++ [b]) = ns by unfold addQ; rw [if_pos hm])
    have hx : x = some (num ns (q ++ [b])) := by rw [HST.out, if_pos hm]
    clear HST hm
    subst hx
    simp only [Option.getD_some, Option.isSome_some] at LK
    go_quiet (fail)
    rename_i nq
    go_wp2_with fail
    go_ret
    have X2 := (Ext.refl V).drewN nq
    exact ⟨ret_int (show num ns (q ++ [b]) = num (addQ ns (q ++ [b])) (q ++ [b]) by rw [E1.out]), But.of_ext (HX.out.trans X2), by rw [E1.out]; exact KBH.out.ext X2, by rw [E1.out]; exact (KSH.out.ext X2).mono (by omega)⟩
  · have E1 := Lib.hid (show addQ ns (q ++ [b]) = ns ++ [q ++ [b]] by unfold addQ; rw [if_neg hm])
    have hx : x = none := by rw [HST.out, if_neg hm]
    have HM := Lib.hid hm
    clear HST hm
    subst hx
    simp only [Option.getD_none, Option.isSome_none] at LK
    go_quiet (fail)
    rename_i nq
    have X2 := (Ext.refl V).drewN nq
    have q4 := X2.at q4
    have z4 : (V.drewN nq).frozen? ⟨B, 4, none⟩ = false := z4
    have q5 := X2.at q5
    have s0 := X2.at s0
    have s1 := X2.at s1
    have KBH := Lib.hid (KBH.out.ext X2)
    have KSH := Lib.hid (KSH.out.ext X2)
    have KSV := Lib.hid (KSV.out.ext X2)
    have HX := Lib.hid (HX.out.trans X2)
    generalize V.drewN nq = V2 at *
    clear LK X2
    have AD := Lib.hid (add64_any ⟨B, 4, none⟩ (ns.length : Int) V2 q4 z4 (by omega) (by omega))
    go_wp2_with fail
    refine AD.out.mono ?_; rintro e w3 ⟨rfl, hw3⟩
    have BT : But (Only B) V2 w3 := by rw [hw3]; exact But.set (S := Only B) V2 ⟨B, 4, none⟩ _ rfl
    have kb3 : Blk w3 B 73 (trieC vl d st ((ns.length : Int) + 1) bs bv) := by rw [hw3]; exact KBH.out.set 4 _
    have ks3 := KSH.out.keepB BT (fun e => hne e.symm)
    have q5 : w3.cell? ⟨B, 5, none⟩ = some (.map (some bs)) := kb3.cell 5
    have kv3 := BT.blk KSV.out hRB
    have s0 : w3.cell? ⟨R, 0, none⟩ = some (.int .i64 a) := kv3.cell 0
    have s1 : w3.cell? ⟨R, 1, none⟩ = some (.int .u8 z) := kv3.cell 1
    obtain ⟨w5, hst, ks5, hg5⟩ := (ks3.ext ((Ext.refl w3).drew)).store N hq HM.out (by omega) (by omega)
    have hst : (Instr.mapUpdate 70 (.map (some bs)) (.agg #[.int .i64 a, .int .u8 z]) (.int .i64 ((ns.length : Int) + 1))).run Try.prog w3.drew = .ok () w5 := by
      rw [← HZ.out, ← HN.out]; exact hst
    have FIN := Lib.hid (show But (fun k => k = B ∨ k = bs) w w5 ∧ Blk w5 B 73 (trieC vl d st ((ns.length : Int) + 1) bs bv) ∧ StepsAt w5 bs (n + 1) (ns ++ [q ++ [b]]) from by
      have b1 : But (fun k => k = B ∨ k = bs) w w3 := (But.of_ext HX.out).trans (BT.mono (T := fun k => k = B ∨ k = bs) (fun i _ hi => .inl hi)) (fun i hi => .inl hi)
      have b2 : But (Only bs) w3 w5 := ((But.refl (Only bs) w3).drew).trans (But.of_grown (S := Only bs) hg5 (fun g hg => by cases hg; rfl)) (fun i hi => .inl hi)
      exact ⟨b1.trans b2 (fun i hi => .inl (.inr hi)), b2.blk kb3 hne, ks5⟩)
    have HNN := Lib.hid (num_new HM.out)
    clear hw3 BT kb3 ks3 kv3 KBH KSH KSV HX AD q4 z4 ks5 hg5
    go_wp2_with fail
    go_still_tail 6, (by kernel_rfl)
    change wpList _ _ _ _ _ w3.drew
    go_wp2_with fail
    go_ret
    obtain ⟨f1, f2, f3⟩ := FIN.out
    exact ⟨ret_int (show (ns.length : Int) + 1 = num (addQ ns (q ++ [b])) (q ++ [b]) by rw [E1.out, HNN.out]), f1, by rw [E1.out]; simpa using f2, by rw [E1.out]; exact f3⟩
end L11
end Go.Proofs.Ytenajekmnggkeaa

