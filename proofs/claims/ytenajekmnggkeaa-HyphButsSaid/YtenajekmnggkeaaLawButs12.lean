/- HyphButs: a word that is an exception is parted where that says, as far as left and right let it, whatever patterns there are. For every input, without a condition. -/
import Derived.Test.YtenajekmnggkeaaAwake12
import Derived.Test.YtenajekmnggkeaaPlain12
import Derived.Test.YtenajekmnggkeaaExcs12
import Derived.Test.YtenajekmnggkeaaRoom12
import Derived.Test.YtenajekmnggkeaaDocC10
import Derived.ChangeMaps5
namespace Go.Proofs.Ytenajekmnggkeaa
open Go.ChangeShapes Go.WideShapes Go.ChangeAt Go.RowKit
open Go.Lib hiding intOf
namespace HyphButs
open L10 (TN plainB patB tn rd patsB excB fewD fewp_any few_len)
open L11 (NewQ new_yes new_no list_size same_lists)
open L12

/-- The list of the one exception. -/
theorem seen_one {w : World} {s : ByteArray} {A : Option Addr} {ns : List Int} {c : Nat} (sx : SeenL w A ns) :
    SeenW (w.alloc (.cells #[.string s, .slice A ns.length c] 46)) (some ⟨w.heap.size, 0, none⟩) [⟨s, ns, A, c⟩] :=
  L11.blk_seenW (Blk.lit w w.heap.size 46 #[.string s, .slice A ns.length c] rfl) rfl (fun y hy => by rw [List.mem_singleton.1 hy]; exact sx.ext ((Ext.refl w).alloc _))
/-- May it be? -/
theorem check_one (x : WP) (ok : x.Ok) (w : World) (sx : SeenL w x.A x.ns) :
    Calls Try.prog 17 #[.agg #[.slice none 0 0, .slice (some ⟨w.heap.size, 0, none⟩) 1 1]] (w.alloc (.cells #[.string x.s, .slice x.A x.ns.length x.c] 46))
      (Ret (w.alloc (.cells #[.string x.s, .slice x.A x.ns.length x.c] 46)) (.bool (excB (tn x)))) := by
  have h := L10.rcheck_wide ⟨[], [x]⟩ ⟨none, 0, some ⟨w.heap.size, 0, none⟩, 1⟩ (fun y hy => by simp at hy) (fun y hy => by rw [List.mem_singleton.1 hy]; exact ok) (fun y hy => by simp at hy) _ ⟨SeenW.nil, seen_one sx⟩ (by simp) (by simp)
  have e : patsB (rd ⟨[], [x]⟩) = excB (tn x) := by
    rw [L10.patsB_rd]
    simp
  rw [e] at h
  exact h

theorem few_no (D : PatsD) (P : PatsP) (x : WP) (okx : x.Ok) (left right : Int) (w : World) (sn : SeenPats w D P) (sx : SeenL w x.A x.ns) (hf : fewD D = false) :
    Calls Try.prog 6 #[patsV D P, wpV x, .int .u8 left, .int .u8 right] w (Ret w (.bool true)) := by
  obtain ⟨V, hV⟩ : ∃ V, V = (w.alloc (.cells #[.slice P.x D.l.length P.c, .slice P.y D.m.length P.d] 25)).alloc (.cells #[.string x.s, .slice x.A x.ns.length x.c] 46) := ⟨_, rfl⟩
  have W0 : Ext w V := by rw [hV]; exact ((Ext.refl _).alloc _).alloc _
  have kB : Blk V w.heap.size 25 [.slice P.x D.l.length P.c, .slice P.y D.m.length P.d] := by rw [hV]; exact (Blk.lit w _ _ _ rfl).ext ((Ext.refl _).alloc _)
  have kE : Blk V (w.heap.size + 1) 46 [.string x.s, .slice x.A x.ns.length x.c] := by rw [hV]; exact Blk.lit _ _ _ _ (by simp)
  have FEW := Lib.hid (fun w' (x : Ext V w') => by have := fewp_any D P w' ((sn.ext W0).ext x); rw [hf] at this; exact this)
  have CHK := Lib.hid (fun w' (y : Ext V w') => check_one x okx w' ((sx.ext W0).ext y))
  have AW := Lib.hid (awake_any V)
  have HX := Lib.hid W0
  unfold patsV at FEW ⊢
  unfold wpV at ⊢
  clear sn sx okx hf
  obtain ⟨s, ns, xA, xc⟩ := x
  obtain ⟨A, c, A2, d2⟩ := P
  dsimp only at *
  generalize D.l.length = n at *
  generalize D.m.length = q at *
  generalize ns.length = xn at *
  go_enter Try.func6, Try.ntmps6
  go_upto_region 1 with (fail)
  rw [← hV]
  clear hV
  have KB := Lib.hid kB
  have KE := Lib.hid kE
  generalize hR : w.heap.size = R at *
  clear hR kB kE
  go_wp2_with fail
  refine AW.out.mono ?_; rintro e w1 ⟨rfl, x1⟩
  have q0 := (KB.out.ext x1).cell 0
  have q1 := (KB.out.ext x1).cell 1
  have r0 := (KE.out.ext x1).cell 0
  have r1 := (KE.out.ext x1).cell 1
  dsimp only [List.getElem?_cons_zero, List.getElem?_cons_succ] at q0 q1 r0 r1
  have X1 := Lib.hid x1
  clear x1 AW
  go_wp2_with fail
  refine (FEW.out _ X1.out).mono ?_; rintro e w2 ⟨rfl, x2⟩
  have q0 := x2.at q0
  have q1 := x2.at q1
  have r0 := x2.at r0
  have r1 := x2.at r1
  have X2 := Lib.hid (X1.out.trans x2)
  clear x2 X1 FEW
  go_wp2_with fail
  go_ret
  exact ⟨rfl, HX.out.trans X2.out⟩
theorem exc_no (D : PatsD) (P : PatsP) (x : WP) (okx : x.Ok) (left right : Int) (w : World) (sn : SeenPats w D P) (sx : SeenL w x.A x.ns) (hf : fewD D = true) (he : excB (tn x) = false) :
    Calls Try.prog 6 #[patsV D P, wpV x, .int .u8 left, .int .u8 right] w (Ret w (.bool true)) := by
  obtain ⟨V, hV⟩ : ∃ V, V = (w.alloc (.cells #[.slice P.x D.l.length P.c, .slice P.y D.m.length P.d] 25)).alloc (.cells #[.string x.s, .slice x.A x.ns.length x.c] 46) := ⟨_, rfl⟩
  have W0 : Ext w V := by rw [hV]; exact ((Ext.refl _).alloc _).alloc _
  have kB : Blk V w.heap.size 25 [.slice P.x D.l.length P.c, .slice P.y D.m.length P.d] := by rw [hV]; exact (Blk.lit w _ _ _ rfl).ext ((Ext.refl _).alloc _)
  have kE : Blk V (w.heap.size + 1) 46 [.string x.s, .slice x.A x.ns.length x.c] := by rw [hV]; exact Blk.lit _ _ _ _ (by simp)
  have FEW := Lib.hid (fun w' (x : Ext V w') => by have := fewp_any D P w' ((sn.ext W0).ext x); rw [hf] at this; exact this)
  have CHK := Lib.hid (fun w' (y : Ext V w') => check_one x okx w' ((sx.ext W0).ext y))
  have AW := Lib.hid (awake_any V)
  have HX := Lib.hid W0
  rw [he] at CHK
  unfold patsV at FEW ⊢
  unfold wpV at ⊢
  clear sn sx okx hf he
  obtain ⟨s, ns, xA, xc⟩ := x
  obtain ⟨A, c, A2, d2⟩ := P
  dsimp only at *
  generalize D.l.length = n at *
  generalize D.m.length = q at *
  generalize ns.length = xn at *
  go_enter Try.func6, Try.ntmps6
  go_upto_region 1 with (fail)
  rw [← hV]
  clear hV
  have KB := Lib.hid kB
  have KE := Lib.hid kE
  generalize hR : w.heap.size = R at *
  clear hR kB kE
  go_wp2_with fail
  refine AW.out.mono ?_; rintro e w1 ⟨rfl, x1⟩
  have q0 := (KB.out.ext x1).cell 0
  have q1 := (KB.out.ext x1).cell 1
  have r0 := (KE.out.ext x1).cell 0
  have r1 := (KE.out.ext x1).cell 1
  dsimp only [List.getElem?_cons_zero, List.getElem?_cons_succ] at q0 q1 r0 r1
  have X1 := Lib.hid x1
  clear x1 AW
  go_wp2_with fail
  refine (FEW.out _ X1.out).mono ?_; rintro e w2 ⟨rfl, x2⟩
  have q0 := x2.at q0
  have q1 := x2.at q1
  have r0 := x2.at r0
  have r1 := x2.at r1
  have X2 := Lib.hid (X1.out.trans x2)
  clear x2 X1 FEW
  go_wp2_with fail
  have y2 : Ext w2 (w2.alloc (.cells #[.string s, .slice xA xn xc] 46)) := (Ext.refl _).alloc _
  have q0 := y2.at q0
  have q1 := y2.at q1
  have r0 := y2.at r0
  have r1 := y2.at r1
  refine (CHK.out _ X2.out).mono ?_; rintro e w3 ⟨rfl, x3⟩
  have q0 := x3.at q0
  have q1 := x3.at q1
  have r0 := x3.at r0
  have r1 := x3.at r1
  have X3 := Lib.hid ((X2.out.trans y2).trans x3)
  clear x3 y2 CHK X2
  go_wp2_with fail
  go_ret
  exact ⟨rfl, HX.out.trans X3.out⟩
theorem none_ (D : PatsD) (P : PatsP) (okp : PatsOk D P) (x : WP) (okx : x.Ok) (left right : Int) (w : World) (sn : SeenPats w D P) (sx : SeenL w x.A x.ns) (hf : fewD D = true) (he : excB (tn x) = true) (hp : patsB (rd D) = false) :
    Calls Try.prog 6 #[patsV D P, wpV x, .int .u8 left, .int .u8 right] w (Ret w (.bool true)) := by
  obtain ⟨f1, f2, _⟩ := few_len hf
  obtain ⟨V, hV⟩ : ∃ V, V = (w.alloc (.cells #[.slice P.x D.l.length P.c, .slice P.y D.m.length P.d] 25)).alloc (.cells #[.string x.s, .slice x.A x.ns.length x.c] 46) := ⟨_, rfl⟩
  have W0 : Ext w V := by rw [hV]; exact ((Ext.refl _).alloc _).alloc _
  have kB : Blk V w.heap.size 25 [.slice P.x D.l.length P.c, .slice P.y D.m.length P.d] := by rw [hV]; exact (Blk.lit w _ _ _ rfl).ext ((Ext.refl _).alloc _)
  have kE : Blk V (w.heap.size + 1) 46 [.string x.s, .slice x.A x.ns.length x.c] := by rw [hV]; exact Blk.lit _ _ _ _ (by simp)
  have FEW := Lib.hid (fun w' (x : Ext V w') => by have := fewp_any D P w' ((sn.ext W0).ext x); rw [hf] at this; exact this)
  have CHK := Lib.hid (fun w' (y : Ext V w') => check_one x okx w' ((sx.ext W0).ext y))
  have AW := Lib.hid (awake_any V)
  have HX := Lib.hid W0
  have NEW := Lib.hid (fun w' (x : Ext V w') => new_no D P okp.li okp.mi w' ((sn.ext W0).ext x) (by omega) (by omega) hp)
  rw [he] at CHK
  unfold patsV at FEW NEW ⊢
  unfold wpV at ⊢
  clear sn sx okx okp hf he hp f1 f2
  obtain ⟨s, ns, xA, xc⟩ := x
  obtain ⟨A, c, A2, d2⟩ := P
  dsimp only at *
  generalize D.l.length = n at *
  generalize D.m.length = q at *
  generalize ns.length = xn at *
  go_enter Try.func6, Try.ntmps6
  go_upto_region 1 with (fail)
  rw [← hV]
  clear hV
  have KB := Lib.hid kB
  have KE := Lib.hid kE
  generalize hR : w.heap.size = R at *
  clear hR kB kE
  go_wp2_with fail
  refine AW.out.mono ?_; rintro e w1 ⟨rfl, x1⟩
  have q0 := (KB.out.ext x1).cell 0
  have q1 := (KB.out.ext x1).cell 1
  have r0 := (KE.out.ext x1).cell 0
  have r1 := (KE.out.ext x1).cell 1
  dsimp only [List.getElem?_cons_zero, List.getElem?_cons_succ] at q0 q1 r0 r1
  have X1 := Lib.hid x1
  clear x1 AW
  go_wp2_with fail
  refine (FEW.out _ X1.out).mono ?_; rintro e w2 ⟨rfl, x2⟩
  have q0 := x2.at q0
  have q1 := x2.at q1
  have r0 := x2.at r0
  have r1 := x2.at r1
  have X2 := Lib.hid (X1.out.trans x2)
  clear x2 X1 FEW
  go_wp2_with fail
  have y2 : Ext w2 (w2.alloc (.cells #[.string s, .slice xA xn xc] 46)) := (Ext.refl _).alloc _
  have q0 := y2.at q0
  have q1 := y2.at q1
  have r0 := y2.at r0
  have r1 := y2.at r1
  refine (CHK.out _ X2.out).mono ?_; rintro e w3 ⟨rfl, x3⟩
  have q0 := x3.at q0
  have q1 := x3.at q1
  have r0 := x3.at r0
  have r1 := x3.at r1
  have X3 := Lib.hid ((X2.out.trans y2).trans x3)
  clear x3 y2 CHK X2
  go_wp2_with fail
  refine (NEW.out _ X3.out).mono ?_; rintro e w4 ⟨rfl, x4⟩
  have X4 := Lib.hid ((HX.out.trans X3.out).trans x4)
  clear x4 NEW q0 q1 r0 r1
  go_wp2_with fail
  go_ret
  exact ⟨rfl, X4.out⟩
/-- What is wanted, of the places ahead of k. -/
def wantL (ns : List Int) (n : Nat) (left right : Int) (k : Nat) : List Int := (ns.take k).filter (endsB n left right)
theorem want_succ (ns : List Int) (n : Nat) (left right : Int) {k : Nat} (h : k < ns.length) : wantL ns n left right (k + 1) = wantL ns n left right k ++ if endsB n left right (ns.getD k 0) = true then [ns.getD k 0] else [] := by
  unfold wantL
  rw [take_snoc h, List.filter_append]
  congr 1
  simp only [List.filter_cons, List.filter_nil]
theorem want_length (ns : List Int) (n : Nat) (left right : Int) (k : Nat) : (wantL ns n left right k).length ≤ k := by
  unfold wantL
  exact Nat.le_trans (List.length_filter_le _ _) (by rw [List.length_take]; omega)
theorem word_succ (l : List UInt8) {k : Nat} (h : k < l.length) : asInts (l.take (k + 1)) = asInts (l.take k) ++ [(l[k].toNat : Int)] := by
  rw [List.take_succ_eq_append_getElem h]
  unfold asInts
  rw [List.map_append]
  rfl

set_option maxRecDepth 100000 in
set_option maxHeartbeats 16000000 in
theorem main (D : PatsD) (P : PatsP) (okp : PatsOk D P) (x : WP) (okx : x.Ok) (left right : Int) (hl : 0 ≤ left ∧ left ≤ 255) (hr : 0 ≤ right ∧ right ≤ 255) (w : World) (sn : SeenPats w D P) (sx : SeenL w x.A x.ns) (hf : fewD D = true) (he : excB (tn x) = true) (hp : patsB (rd D) = true) :
    Calls Try.prog 6 #[patsV D P, wpV x, .int .u8 left, .int .u8 right] w (Ret w (.bool true)) := by
  obtain ⟨f1, f2, _⟩ := few_len hf
  obtain ⟨he1, _, he3⟩ := L10.exc_parts he
  have hz := L11.plain_len he1
  have hnl := L10.rises_length _ _ he3 (by omega)
  simp only [tn] at hz hnl
  rw [list_size] at hz hnl
  obtain ⟨V, hV⟩ : ∃ V, V = (w.alloc (.cells #[.slice P.x D.l.length P.c, .slice P.y D.m.length P.d] 25)).alloc (.cells #[.string x.s, .slice x.A x.ns.length x.c] 46) := ⟨_, rfl⟩
  have W0 : Ext w V := by rw [hV]; exact ((Ext.refl _).alloc _).alloc _
  have kB : Blk V w.heap.size 25 [.slice P.x D.l.length P.c, .slice P.y D.m.length P.d] := by rw [hV]; exact (Blk.lit w _ _ _ rfl).ext ((Ext.refl _).alloc _)
  have kE : Blk V (w.heap.size + 1) 46 [.string x.s, .slice x.A x.ns.length x.c] := by rw [hV]; exact Blk.lit _ _ _ _ (by simp)
  have FEW := Lib.hid (fun w' (x : Ext V w') => by have := fewp_any D P w' ((sn.ext W0).ext x); rw [hf] at this; exact this)
  have CHK := Lib.hid (fun w' (y : Ext V w') => check_one x okx w' ((sx.ext W0).ext y))
  have AW := Lib.hid (awake_any V)
  have HX := Lib.hid W0
  have NEW := Lib.hid (fun w' (x : Ext V w') => new_yes D P okp.li okp.mi w' ((sn.ext W0).ext x) (by omega) (by omega) hp)
  have PT := Lib.hid (fun (w' : World) (B : Nat) (U : Option Addr) (d m : Nat) (h : St V w' B (D.l.map tn)) (su : SeenL (w'.alloc (.cells #[.string x.s, .slice x.A x.ns.length x.c] 46)) U (asInts x.s.data.toList)) (hm : m = (asInts x.s.data.toList).length) (hmd : m ≤ d) (hd : d ≤ maxLen) =>
    show Calls Try.prog 15 #[.pointer (some ⟨B, 0, none⟩), .slice (some ⟨w'.heap.size, 0, none⟩) 1 1, .slice U m d, .int .i64 left, .int .i64 right] (w'.alloc (.cells #[.string x.s, .slice x.A x.ns.length x.c] 46)) (StP V (w'.alloc (.cells #[.string x.s, .slice x.A x.ns.length x.c] 46)) B (D.l.map tn) (x.ns.filter (endsB x.s.size left right))) from by
      have g := (h.ext ((Ext.refl w').alloc (.cells #[.string x.s, .slice x.A x.ns.length x.c] 46))).points (some ⟨w'.heap.size, 0, none⟩) [x] 1 1 U (asInts x.s.data.toList) m d left right (seen_one ((sx.ext W0).ext h.x)) rfl (by omega)
        (fun y hy => by rw [List.mem_singleton.1 hy]; exact ⟨okx, by omega⟩) su hm hmd hd
      rw [show [x].map tn = [tn x] from rfl, show asInts x.s.data.toList = asInts (tn x).1 from rfl, exc_points he] at g
      have e : (tn x).1.length = x.s.size := list_size x.s
      rw [e] at g
      exact g)
  have SX := Lib.hid (fun w' (y : Ext V w') => (sx.ext W0).ext y)
  have HNI := Lib.hid (fun v (h : v ∈ x.ns) => L10.rises_mem _ _ he3 v h)
  have e0 : ((tn x).1.length : Int) = x.s.size := by rw [show (tn x).1 = x.s.data.toList from rfl, list_size]
  rw [e0] at HNI
  have WS := Lib.hid (fun k (h : k < x.s.data.toList.length) => word_succ x.s.data.toList h)
  have WG := Lib.hid (fun k (h : k < x.s.size) => show x.s.data.toList[k]'(by rw [list_size]; exact h) = x.s[k] by
    simp
    rfl)
  have TS := Lib.hid (fun k => want_succ x.ns x.s.size left right (k := k))
  have TL := Lib.hid (fun k => want_length x.ns x.s.size left right k)
  have TE := Lib.hid (show wantL x.ns x.s.size left right x.ns.length = x.ns.filter (endsB x.s.size left right) by simp [wantL])
  have T0 := Lib.hid (show wantL x.ns x.s.size left right 0 = [] by simp [wantL])
  rw [he] at CHK
  have EB := Lib.hid (fun v => show endsB x.s.size left right v = (decide (left ≤ v) && decide (right ≤ x.s.size - v)) from rfl)
  generalize x.ns.filter (endsB x.s.size left right) = ww at *
  generalize wantL x.ns x.s.size left right = wl at *
  generalize endsB x.s.size left right = eb at *
  unfold StP at PT
  clear sn sx okx okp hf he hp f1 f2 he1 he3 e0
  unfold patsV at FEW NEW ⊢
  unfold wpV at ⊢
  obtain ⟨s, ns, xA, xc⟩ := x
  obtain ⟨A, c, A2, d2⟩ := P
  dsimp only at *
  generalize D.l.map tn = p at *
  generalize D.l.length = n at *
  generalize D.m.length = q at *
  generalize hxn : ns.length = xn at *
  have HXN := Lib.hid hxn
  clear hxn
  have hxn64 : (xn : Int) ≤ 40 := by omega
  have hs64 : (s.size : Int) ≤ 40 := by omega
  have c1 : IntKind.i64.wrap left = left := IntWalk.i64_in _ (by omega)
  have c2 : IntKind.i64.wrap right = right := IntWalk.i64_in _ (by omega)
  go_enter Try.func6, Try.ntmps6
  go_upto_region 1 with (fail)
  rw [← hV]
  clear hV
  have KB := Lib.hid kB
  have KE := Lib.hid kE
  generalize hR : w.heap.size = R at *
  clear hR kB kE
  go_wp2_with fail
  refine AW.out.mono ?_; rintro e w1 ⟨rfl, x1⟩
  have q0 := (KB.out.ext x1).cell 0
  have q1 := (KB.out.ext x1).cell 1
  have r0 := (KE.out.ext x1).cell 0
  have r1 := (KE.out.ext x1).cell 1
  dsimp only [List.getElem?_cons_zero, List.getElem?_cons_succ] at q0 q1 r0 r1
  have X1 := Lib.hid x1
  clear x1 AW
  go_wp2_with fail
  refine (FEW.out _ X1.out).mono ?_; rintro e w2 ⟨rfl, x2⟩
  have q0 := x2.at q0
  have q1 := x2.at q1
  have r0 := x2.at r0
  have r1 := x2.at r1
  have X2 := Lib.hid (X1.out.trans x2)
  clear x2 X1 FEW
  go_wp2_with fail
  have y2 : Ext w2 (w2.alloc (.cells #[.string s, .slice xA xn xc] 46)) := (Ext.refl _).alloc _
  have q0 := y2.at q0
  have q1 := y2.at q1
  have r0 := y2.at r0
  have r1 := y2.at r1
  refine (CHK.out _ X2.out).mono ?_; rintro e w3 ⟨rfl, x3⟩
  have q0 := x3.at q0
  have q1 := x3.at q1
  have r0 := x3.at r0
  have r1 := x3.at r1
  have X3 := Lib.hid ((X2.out.trans y2).trans x3)
  clear x3 y2 CHK X2
  go_wp2_with fail
  refine (NEW.out _ X3.out).mono ?_; rintro e w4 hq
  obtain ⟨B, rfl, s4, x4, _⟩ := St.new X3.out hq
  have r0 := x4.at r0
  have r1 := x4.at r1
  have S4 := Lib.hid s4
  clear x4 X3 NEW hq s4 q0 q1
  go_wp2_with fail
  have HSZ := Lib.hid (list_size s)
  go_loopw [12, 13] (fun v i wr => ∃ (vv : Value) (k : Nat), vv = v ∧ k ≤ s.size ∧ i = .int .i64 k ∧ Hid (OwnI w4 wr vv (asInts (s.data.toList.take k)))) (fun _ i _ => s.size - (intOf i).toNat)
  case atStart => exact ⟨_, 0, rfl, Nat.zero_le _, rfl, Lib.hid (OwnI.nil (Ext.refl _))⟩
  case round =>
    obtain ⟨vv, k, hvv, hk, rfl, ho⟩ := hrel
    subst hvv
    have r0 := ho.out.2.at r0
    have r1 := ho.out.2.at r1
    by_cases hlt : k < s.size
    · have hkl : k < s.data.toList.length := by rw [HSZ.out]; exact hlt
      have H2 := Lib.hid (WS.out k hkl)
      have hg := WG.out k hlt
      rw [hg] at H2
      have hlen : (asInts (s.data.toList.take k)).length + 1 ≤ 1000000 := by rw [asInts_length, List.length_take]; omega
      have hk64 : (k : Int) < (s.size : Int) := by omega
      have hb := s[k].toNat_lt
      have cw : IntKind.i64.wrap (s[k].toNat : Int) = s[k].toNat := IntWalk.i64_in _ (by omega)
      obtain ⟨v3, w6, g3, o3⟩ := ho.out.put (s[k].toNat : Int) hlen 26
      have O3 := Lib.hid o3
      clear hlen o3 hb hg
      go_wp2_with (at_builtin; refine wpList_ran rfl _ _ rfl g3 ?_)
      go_roundw
      case rel => exact ⟨_, k + 1, rfl, by omega, by go_num, Lib.hid (by rw [H2.out]; exact O3.out)⟩
      case measure => simp [intOf]; omega
    · obtain rfl : k = s.size := by omega
      obtain ⟨wo, hwo⟩ : ∃ wo : World, wo = wr := ⟨_, rfl⟩
      subst hwo
      have ho := Lib.hid (show OwnI w4 wo vv (asInts s.data.toList) by have h := ho.out; rw [List.take_of_length_le (by rw [HSZ.out]; omega)] at h; exact h)
      have XO := Lib.hid ho.out.2
      obtain ⟨Au, cu, hvu, su, au⟩ := ho.out.seen
      rw [asInts_length, HSZ.out] at hvu
      subst hvu
      have SU := Lib.hid su
      have AU := Lib.hid au
      have CU := Lib.hid (OwnI.room ho.out)
      clear ho su au
      go_wp2_with fail
      go_loopw [14, 15] (fun v i wr => ∃ (vv : Value) (k : Nat), vv = v ∧ k ≤ xn ∧ i = .int .i64 k ∧ Hid (OwnI wo wr vv (wl k))) (fun _ i _ => xn - (intOf i).toNat)
      case atStart => exact ⟨_, 0, rfl, Nat.zero_le _, rfl, Lib.hid (by rw [T0.out]; exact OwnI.nil (Ext.refl _))⟩
      case round =>
        obtain ⟨vv, k, hvv, hk, rfl, ho⟩ := hrel
        subst hvv
        have r0 := ho.out.2.at r0
        have r1 := ho.out.2.at r1
        by_cases hlt : k < xn
        · have hkl : k < ns.length := by rw [HXN.out]; exact hlt
          obtain ⟨ad, rfl, hc⟩ := (SX.out _ ((S4.out.x.trans XO.out).trans ho.out.2)).get hkl
          obtain ⟨v1, v2⟩ := HNI.out (ns.getD k 0) (by rw [List.getD, List.getElem?_eq_getElem hkl]; exact List.getElem_mem hkl)
          have hs := TS.out k hlt
          have hol := TL.out k
          have heb := EB.out (ns.getD k 0)
          generalize ns.getD k 0 = v at *
          have w1 : IntKind.i64.wrap ((s.size : Int) - v) = s.size - v := IntWalk.i64_in _ (by omega)
          by_cases h1 : left ≤ v
          · have g1 : decide (left ≤ v) = true := decide_eq_true h1
            by_cases h2 : right ≤ (s.size : Int) - v
            · have g2 : decide (right ≤ (s.size : Int) - v) = true := decide_eq_true h2
              have H2 := Lib.hid (show wl (k + 1) = wl k ++ [v] by rw [hs, heb, g1, g2]; rfl)
              clear hs heb h1 h2
              go_wp2_with fail
              go_quiet (fail)
              rename_i nq
              obtain ⟨v3, w6, g3, o3⟩ := (ho.out.over ((Ext.refl _).drewN nq)).put v (by omega) 26
              have O3 := Lib.hid o3
              clear o3
              go_wp2_with (at_builtin; refine wpList_ran rfl _ _ rfl g3 ?_)
              go_roundw
              case rel => exact ⟨_, k + 1, rfl, by omega, by go_num, Lib.hid (by rw [H2.out]; exact O3.out)⟩
              case measure => simp [intOf]; omega
            · have g2 : decide (right ≤ (s.size : Int) - v) = false := decide_eq_false h2
              have H2 := Lib.hid (show wl (k + 1) = wl k by rw [hs, heb, g1, g2]; simp)
              clear hs heb h1 h2
              go_wp2_with fail
              go_quiet (fail)
              rename_i nq
              have O3 := Lib.hid (ho.out.over ((Ext.refl _).drewN nq))
              go_wp2_with fail
              go_roundw
              case rel => exact ⟨_, k + 1, rfl, by omega, by go_num, Lib.hid (by rw [H2.out]; exact O3.out)⟩
              case measure => simp [intOf]; omega
          · have g1 : decide (left ≤ v) = false := decide_eq_false h1
            have H2 := Lib.hid (show wl (k + 1) = wl k by rw [hs, heb, g1]; simp)
            clear hs heb h1
            go_wp2_with fail
            go_quiet (fail)
            rename_i nq
            have O3 := Lib.hid (ho.out.over ((Ext.refl _).drewN nq))
            go_wp2_with fail
            go_roundw
            case rel => exact ⟨_, k + 1, rfl, by omega, by go_num, Lib.hid (by rw [H2.out]; exact O3.out)⟩
            case measure => simp [intOf]; omega
        · obtain rfl : k = xn := by omega
          have hwl := TE.out
          obtain ⟨Aw, cw, rfl, sw, aw⟩ := ho.out.seen
          rw [hwl] at sw ⊢
          have SW := Lib.hid sw
          have S9 := Lib.hid (S4.out.ext (XO.out.trans ho.out.2))
          have AW2 := Lib.hid (show ∀ ad, Aw = some ad → ad.block ≠ B from fun ad e h => by have := aw ad e; have := S4.out.lt; have := XO.out.size; omega)
          have SU := Lib.hid (SU.out.ext ho.out.2)
          obtain ⟨zw, hzw⟩ : ∃ zw, zw = ww.length := ⟨_, rfl⟩
          have HZW := Lib.hid hzw
          have hzw64 := TL.out k
          rw [hwl, ← hzw] at hzw64
          rw [← hzw]
          clear sw aw ho hzw hwl
          go_wp2_with fail
          refine (PT.out _ _ _ _ _ S9.out (SU.out.ext ((Ext.refl _).alloc _)) (by rw [asInts_length, HSZ.out]) CU.out.1 CU.out.2).mono ?_; rintro e w9 ⟨s9, b9, Al, cl, rfl, kl⟩
          have XE := Lib.hid (HX.out.trans s9.x)
          have SM := Lib.hid (show Calls Try.prog 14 #[.slice Al zw cl, .slice Aw zw cw] w9 (Ret w9 (.bool true)) from by
            have h := same_lists Al Aw ww ww cl cw w9 kl.1 (L11.seenL_but (SW.out.ext ((Ext.refl _).alloc _)) b9 (fun ad e => AW2.out ad e)) (by rw [← HZW.out]; omega)
            rw [decide_eq_true rfl, ← HZW.out] at h
            exact h)
          rw [← HZW.out]
          clear s9 b9 kl PT S9
          go_wp2_with fail
          refine SM.out.mono ?_; rintro e w10 ⟨rfl, x10⟩
          have X10 := Lib.hid (XE.out.trans x10)
          clear SM x10
          go_wp2_with fail
          go_ret
          exact ⟨rfl, X10.out⟩
theorem walk (D : PatsD) (P : PatsP) (okp : PatsOk D P) (x : WP) (okx : x.Ok) (left : Int) (hl : 0 ≤ left ∧ left ≤ 255) (right : Int) (hr : 0 ≤ right ∧ right ≤ 255) (w : World) (sn : SeenPats w D P) (sx : SeenL w x.A x.ns) :
    Calls Try.prog 6 #[patsV D P, wpV x, .int .u8 left, .int .u8 right] w (Ret w (.bool true)) := by
  cases hf : fewD D with
  | false => exact few_no D P x okx left right w sn sx hf
  | true =>
    cases he : excB (tn x) with
    | false => exact exc_no D P x okx left right w sn sx hf he
    | true =>
      cases hp : patsB (rd D) with
      | false => exact none_ D P okp x okx left right w sn sx hf he hp
      | true => exact main D P okp x okx left right hl hr w sn sx hf he hp

set_option maxRecDepth 100000 in
theorem lifted (os : Os) (started : os.Started) (H : Type) (enc : TypeId × Value → H) :
    ReturnsInHanded {} Try.checked os 6 .any (Rows.hyphButsSpec.pre6 enc Try.prog Try.f6 [] false) (Rows.hyphButsSpec.post enc Try.prog Try.f6 false true false false) := by
  refine law_lift (C := Try.checked) own started (by kernel_rfl) Try.func6 laidOut rfl rfl Try.underlying4 (by kernel_rfl) ?_
    (ChangeSpec.witness6 (enc := enc) (C := Try.checked) false ⟨#[], #[.agg #[.slice none 0 0, .slice none 0 0], .agg #[.string ByteArray.empty, .slice none 0 0], .int .u8 0, .int .u8 0], []⟩ 8 (by kernel_rfl) (by kernel_rfl) (by kernel_rfl) (by kernel_rfl)) ?_
  · intro H ds h
    match ds, h with
    | [_, _, _, _], _ => rfl
  · intro W base args ds p hval hA hlt hwt hsh
    rw [Try.params6] at hA hval
    obtain ⟨v0, vs0, d0, ds0, p0, q0, hargs, rfl, rfl, h0, r0⟩ := trodAll_cons hA
    obtain ⟨v1, vs1, d1, ds1, p1, q1, rfl, rfl, rfl, h1, r1⟩ := trodAll_cons r0
    obtain ⟨v2, vs2, d2, ds2, p2, q2, rfl, rfl, rfl, h2, r2⟩ := trodAll_cons r1
    obtain ⟨v3, vs3, d3, ds3, p3, q3, rfl, rfl, rfl, h3, r3⟩ := trodAll_cons r2
    obtain ⟨rfl, rfl, rfl⟩ := trodAll_nil r3
    obtain rfl : args = #[v0, v1, v2, v3] := by cases args; simp_all
    obtain ⟨D0, P0, rfl, ok0, hs0⟩ := arg_pats (hval 0 25 v0 rfl rfl) h0
    obtain ⟨x1, rfl, ok1, hs1⟩ := arg_exc (hval 1 46 v1 rfl rfl) h1
    obtain ⟨a2, rfl, rfl, rfl, wf2⟩ := open_int Try.underlying5 (hval 2 5 v2 rfl rfl) h2
    obtain ⟨a3, rfl, rfl, rfl, wf3⟩ := open_int Try.underlying5 (hval 3 5 v3 rfl rfl) h3
    exact walk D0 P0 ok0 x1 ok1 a2 (bounds_u8 wf2) a3 (bounds_u8 wf3) W hs0 hs1

theorem holds : Rows.HyphButsSaid :=
  OpenClaim.holds_of_wide 6 Try.f6 rfl rfl rfl rfl rfl rfl rfl ⟨rfl, rfl, rfl, rfl, rfl⟩ rfl rfl rfl rfl rfl (by kernel_rfl) Try.func6 (by kernel_rfl)
    (of_decide_eq_true (by kernel_rfl)) (by unfold Func.isWrapper; first | (rw [if_pos (by decide +kernel)]; kernel_rfl) | (rw [if_neg (by decide +kernel)]; exact ⟨rfl, rfl⟩))
    (fun os started H enc _ => lifted os started H enc)
end HyphButs
end Go.Proofs.Ytenajekmnggkeaa

