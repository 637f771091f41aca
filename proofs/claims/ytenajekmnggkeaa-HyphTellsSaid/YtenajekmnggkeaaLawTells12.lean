/- HyphTells: any word's core, and where it may be parted, by any patterns and exceptions, are what the document says. For every input, without a condition. -/
import Derived.Test.YtenajekmnggkeaaAwake12
import Derived.Test.YtenajekmnggkeaaDocB12
import Derived.Test.YtenajekmnggkeaaExcs12
import Derived.ChangeMaps5
import Derived.Deep.RegionHeld3
namespace Go.Proofs.Ytenajekmnggkeaa
open Go.ChangeShapes Go.WideShapes Go.ChangeAt Go.RowKit
open Go.Lib hiding intOf
namespace HyphTells
open L10 (TN plainB patB tn rd patsB fewD fewp_any few_len)
open L11 (NewQ new_yes new_no list_size same_lists)
open L12

/-- At most so many exceptions, of sixty bytes, and a hundred codes. -/
def fewB (l : List WP) (m : Nat) : Bool := decide (m ≤ 100) && fewD ⟨[], l⟩
theorem few_any (A : Option Addr) (l : List WP) (n c : Nat) (U : Option Addr) (m d : Nat) (w : World) (hs : SeenW w A l) (hn : n = l.length) :
    Calls Try.prog 10 #[.slice A n c, .slice U m d] w (Ret w (.bool (fewB l m))) := by
  have FEW := Lib.hid (show Calls Try.prog 9 #[.agg #[.slice none 0 0, .slice A n c]] w (Ret w (.bool (fewD ⟨[], l⟩))) from by
    have h := fewp_any ⟨[], l⟩ ⟨none, 0, A, c⟩ w ⟨SeenW.nil, hs⟩
    rw [hn]
    exact h)
  unfold fewB
  clear hs hn
  by_cases h : m ≤ 100
  · rw [decide_eq_true h, Bool.true_and]
    have h1 : (m : Int) ≤ 100 := by omega
    clear h
    generalize fewD ⟨[], l⟩ = b at *
    go_enter Try.func10, Try.ntmps10
    go_wp2_with fail
    refine FEW.out.mono ?_; rintro e w1 ⟨rfl, x1⟩
    go_wp2_with fail
    go_ret
    exact ⟨rfl, x1⟩
  · rw [decide_eq_false h, Bool.false_and]
    have h1 : ¬ (m : Int) ≤ 100 := by omega
    clear h FEW
    go_enter Try.func10, Try.ntmps10
    go_wp2_with fail
    go_ret
    exact ⟨rfl, Ext.refl _⟩

theorem few_no (D : PatsD) (P : PatsP) (A : Option Addr) (l : List WP) (c : Nat) (U : Option Addr) (u : List Int) (d : Nat) (left right : Int) (w : World) (sn : SeenPats w D P) (hf : fewD D = false) : Calls Try.prog 3 #[patsV D P, .slice A l.length c, .slice U u.length d, .int .i64 left, .int .i64 right] w (Ret w (.bool true)) := by
  obtain ⟨V, hV⟩ : ∃ V, V = w.alloc (.cells #[.slice P.x D.l.length P.c, .slice P.y D.m.length P.d] 25) := ⟨_, rfl⟩
  have W0 : Ext w V := by rw [hV]; exact (Ext.refl _).alloc _
  have kB : Blk V w.heap.size 25 [.slice P.x D.l.length P.c, .slice P.y D.m.length P.d] := by rw [hV]; exact Blk.lit _ _ _ _ rfl
  have FEW := Lib.hid (fun w' (x : Ext V w') => by have := fewp_any D P w' ((sn.ext W0).ext x); rw [hf] at this; exact this)
  have AW := Lib.hid (awake_any V)
  have HX := Lib.hid W0
  unfold patsV at FEW ⊢
  clear sn hf
  generalize l.length = n at *
  generalize u.length = m at *
  generalize D.l.length = dl at *
  generalize D.m.length = dm at *
  obtain ⟨PA, Pc, PA2, Pd⟩ := P
  dsimp only at *
  go_enter Try.func3, Try.ntmps3
  go_upto_region 1 with (fail)
  rw [← hV]
  clear hV
  have KB := Lib.hid kB
  generalize hR : w.heap.size = R at *
  clear hR kB
  go_wp2_with fail
  refine AW.out.mono ?_; rintro e w1 ⟨rfl, x1⟩
  have q0 := (KB.out.ext x1).cell 0
  have q1 := (KB.out.ext x1).cell 1
  dsimp only [List.getElem?_cons_zero, List.getElem?_cons_succ] at q0 q1
  have X1 := Lib.hid x1
  clear x1 AW
  go_wp2_with fail
  refine (FEW.out _ X1.out).mono ?_; rintro e w2 ⟨rfl, x2⟩
  have q0 := x2.at q0
  have q1 := x2.at q1
  have X2 := Lib.hid (X1.out.trans x2)
  clear x2 X1 FEW
  go_wp2_with fail
  go_ret
  exact ⟨rfl, HX.out.trans X2.out⟩
theorem few_no2 (D : PatsD) (P : PatsP) (A : Option Addr) (l : List WP) (c : Nat) (U : Option Addr) (u : List Int) (d : Nat) (left right : Int) (w : World) (sn : SeenPats w D P) (sl : SeenW w A l) (hf : fewD D = true) (hg : fewB l u.length = false) : Calls Try.prog 3 #[patsV D P, .slice A l.length c, .slice U u.length d, .int .i64 left, .int .i64 right] w (Ret w (.bool true)) := by
  obtain ⟨V, hV⟩ : ∃ V, V = w.alloc (.cells #[.slice P.x D.l.length P.c, .slice P.y D.m.length P.d] 25) := ⟨_, rfl⟩
  have W0 : Ext w V := by rw [hV]; exact (Ext.refl _).alloc _
  have kB : Blk V w.heap.size 25 [.slice P.x D.l.length P.c, .slice P.y D.m.length P.d] := by rw [hV]; exact Blk.lit _ _ _ _ rfl
  have FEW := Lib.hid (fun w' (x : Ext V w') => by have := fewp_any D P w' ((sn.ext W0).ext x); rw [hf] at this; exact this)
  have AW := Lib.hid (awake_any V)
  have HX := Lib.hid W0
  have FW2 := Lib.hid (fun w' (x : Ext V w') => by have := few_any A l l.length c U u.length d w' ((sl.ext W0).ext x) rfl; rw [hg] at this; exact this)
  unfold patsV at FEW ⊢
  clear sn hf sl hg
  generalize l.length = n at *
  generalize u.length = m at *
  generalize D.l.length = dl at *
  generalize D.m.length = dm at *
  obtain ⟨PA, Pc, PA2, Pd⟩ := P
  dsimp only at *
  go_enter Try.func3, Try.ntmps3
  go_upto_region 1 with (fail)
  rw [← hV]
  clear hV
  have KB := Lib.hid kB
  generalize hR : w.heap.size = R at *
  clear hR kB
  go_wp2_with fail
  refine AW.out.mono ?_; rintro e w1 ⟨rfl, x1⟩
  have q0 := (KB.out.ext x1).cell 0
  have q1 := (KB.out.ext x1).cell 1
  dsimp only [List.getElem?_cons_zero, List.getElem?_cons_succ] at q0 q1
  have X1 := Lib.hid x1
  clear x1 AW
  go_wp2_with fail
  refine (FEW.out _ X1.out).mono ?_; rintro e w2 ⟨rfl, x2⟩
  have q0 := x2.at q0
  have q1 := x2.at q1
  have X2 := Lib.hid (X1.out.trans x2)
  clear x2 X1 FEW
  go_wp2_with fail
  refine (FW2.out _ X2.out).mono ?_; rintro e w3 ⟨rfl, x3⟩
  have X3 := Lib.hid (X2.out.trans x3)
  clear x3 FW2
  go_wp2_with fail
  go_ret
  exact ⟨rfl, HX.out.trans X3.out⟩
theorem none_ (D : PatsD) (P : PatsP) (A : Option Addr) (l : List WP) (c : Nat) (U : Option Addr) (u : List Int) (d : Nat) (left right : Int) (hud : u.length ≤ d) (hdm : d ≤ maxLen) (okp : PatsOk D P) (w : World) (sn : SeenPats w D P) (sl : SeenW w A l) (su : SeenL w U u) (hf : fewD D = true) (hg : fewB l u.length = true) (hp : patsB (rd D) = false) : Calls Try.prog 3 #[patsV D P, .slice A l.length c, .slice U u.length d, .int .i64 left, .int .i64 right] w (Ret w (.bool true)) := by
  obtain ⟨f1, f2, f3⟩ := few_len hf
  obtain ⟨g1, g2⟩ : u.length ≤ 100 ∧ fewD ⟨[], l⟩ = true := by
    unfold fewB at hg
    simpa using hg
  obtain ⟨_, g3, g4⟩ := few_len g2
  simp only [List.nil_append] at g3 g4
  obtain ⟨V, hV⟩ : ∃ V, V = w.alloc (.cells #[.slice P.x D.l.length P.c, .slice P.y D.m.length P.d] 25) := ⟨_, rfl⟩
  have W0 : Ext w V := by rw [hV]; exact (Ext.refl _).alloc _
  have kB : Blk V w.heap.size 25 [.slice P.x D.l.length P.c, .slice P.y D.m.length P.d] := by rw [hV]; exact Blk.lit _ _ _ _ rfl
  have FEW := Lib.hid (fun w' (x : Ext V w') => by have := fewp_any D P w' ((sn.ext W0).ext x); rw [hf] at this; exact this)
  have AW := Lib.hid (awake_any V)
  have HX := Lib.hid W0
  have FW2 := Lib.hid (fun w' (x : Ext V w') => by have := few_any A l l.length c U u.length d w' ((sl.ext W0).ext x) rfl; rw [hg] at this; exact this)
  have CO := Lib.hid (fun w' (x : Ext V w') => core_any U u u.length d w' ((su.ext W0).ext x) rfl hud hdm)
  have RCO := Lib.hid (fun w' (x : Ext V w') => rcore_any U u u.length d w' ((su.ext W0).ext x) rfl (by omega))
  have NEW := Lib.hid (fun w' (x : Ext V w') => new_no D P okp.li okp.mi w' ((sn.ext W0).ext x) (by omega) (by omega) hp)
  generalize (⟨(coreL u).toArray⟩ : ByteArray) = s at *
  generalize coreN u = cn at *
  unfold patsV at FEW NEW ⊢
  clear sn hf sl hg su hp okp f1 f2 f3 g1 g2 g3 g4 hud hdm
  generalize l.length = n at *
  generalize u.length = m at *
  generalize D.l.length = dl at *
  generalize D.m.length = dm at *
  obtain ⟨PA, Pc, PA2, Pd⟩ := P
  dsimp only at *
  go_enter Try.func3, Try.ntmps3
  go_upto_region 1 with (fail)
  rw [← hV]
  clear hV
  have KB := Lib.hid kB
  generalize hR : w.heap.size = R at *
  clear hR kB
  go_wp2_with fail
  refine AW.out.mono ?_; rintro e w1 ⟨rfl, x1⟩
  have q0 := (KB.out.ext x1).cell 0
  have q1 := (KB.out.ext x1).cell 1
  dsimp only [List.getElem?_cons_zero, List.getElem?_cons_succ] at q0 q1
  have X1 := Lib.hid x1
  clear x1 AW
  go_wp2_with fail
  refine (FEW.out _ X1.out).mono ?_; rintro e w2 ⟨rfl, x2⟩
  have q0 := x2.at q0
  have q1 := x2.at q1
  have X2 := Lib.hid (X1.out.trans x2)
  clear x2 X1 FEW
  go_wp2_with fail
  refine (FW2.out _ X2.out).mono ?_; rintro e w3 ⟨rfl, x3⟩
  have q0 := x3.at q0
  have q1 := x3.at q1
  have X3 := Lib.hid (X2.out.trans x3)
  clear x3 FW2 X2
  go_wp2_with fail
  refine (CO.out _ X3.out).mono ?_; rintro e w4 ⟨rfl, x4⟩
  have q0 := x4.at q0
  have q1 := x4.at q1
  have X4 := Lib.hid (X3.out.trans x4)
  clear x4 CO X3
  go_wp2_with fail
  refine (RCO.out _ X4.out).mono ?_; rintro e w5 ⟨rfl, x5⟩
  have q0 := x5.at q0
  have q1 := x5.at q1
  have X5 := Lib.hid (X4.out.trans x5)
  clear x5 RCO X4
  go_wp2_with fail
  refine (NEW.out _ X5.out).mono ?_; rintro e w6 ⟨rfl, x6⟩
  have X6 := Lib.hid ((HX.out.trans X5.out).trans x6)
  clear x6 NEW q0 q1
  go_wp2_with fail
  go_ret
  exact ⟨rfl, X6.out⟩
set_option maxRecDepth 100000 in
set_option maxHeartbeats 16000000 in
theorem main (D : PatsD) (P : PatsP) (A : Option Addr) (l : List WP) (c : Nat) (U : Option Addr) (u : List Int) (d : Nat) (left right : Int) (hud : u.length ≤ d) (hdm : d ≤ maxLen) (okp : PatsOk D P) (okl : ∀ x ∈ l, x.Ok) (w : World) (sn : SeenPats w D P) (sl : SeenW w A l) (su : SeenL w U u) (hf : fewD D = true) (hg : fewB l u.length = true) (hp : patsB (rd D) = true) : Calls Try.prog 3 #[patsV D P, .slice A l.length c, .slice U u.length d, .int .i64 left, .int .i64 right] w (Ret w (.bool true)) := by
  obtain ⟨f1, f2, f3⟩ := few_len hf
  obtain ⟨g1, g2⟩ : u.length ≤ 100 ∧ fewD ⟨[], l⟩ = true := by
    unfold fewB at hg
    simpa using hg
  obtain ⟨_, g3, g4⟩ := few_len g2
  simp only [List.nil_append] at g3 g4
  obtain ⟨V, hV⟩ : ∃ V, V = w.alloc (.cells #[.slice P.x D.l.length P.c, .slice P.y D.m.length P.d] 25) := ⟨_, rfl⟩
  have W0 : Ext w V := by rw [hV]; exact (Ext.refl _).alloc _
  have kB : Blk V w.heap.size 25 [.slice P.x D.l.length P.c, .slice P.y D.m.length P.d] := by rw [hV]; exact Blk.lit _ _ _ _ rfl
  have FEW := Lib.hid (fun w' (x : Ext V w') => by have := fewp_any D P w' ((sn.ext W0).ext x); rw [hf] at this; exact this)
  have AW := Lib.hid (awake_any V)
  have HX := Lib.hid W0
  have FW2 := Lib.hid (fun w' (x : Ext V w') => by have := few_any A l l.length c U u.length d w' ((sl.ext W0).ext x) rfl; rw [hg] at this; exact this)
  have CO := Lib.hid (fun w' (x : Ext V w') => core_any U u u.length d w' ((su.ext W0).ext x) rfl hud hdm)
  have RCO := Lib.hid (fun w' (x : Ext V w') => rcore_any U u u.length d w' ((su.ext W0).ext x) rfl (by omega))
  have NEW := Lib.hid (fun w' (x : Ext V w') => new_yes D P okp.li okp.mi w' ((sn.ext W0).ext x) (by omega) (by omega) hp)
  have hpat : ∀ y ∈ D.l, patB (tn y) = true := by
    have h1 := L10.patsB_rd D
    rw [hp] at h1
    have h2 := h1.symm
    simp only [Bool.and_eq_true, decide_eq_true_eq, List.all_eq_true] at h2
    exact h2.2.1
  have PT := Lib.hid (fun (w' : World) (B : Nat) (h : St V w' B (D.l.map tn)) => h.points A l l.length c U u u.length d left right ((sl.ext W0).ext h.x) rfl (by omega) (fun x hx => ⟨okl x hx, by have := g4 x hx; omega⟩) ((su.ext W0).ext h.x) rfl hud hdm)
  have RPT := Lib.hid (fun w' (x : Ext V w') => rpoints_any D P w' ((sn.ext W0).ext x) hpat (by omega) A l l.length c ((sl.ext W0).ext x) rfl (by omega) (fun x hx => ⟨okl x hx, by have := g4 x hx; omega⟩) U u u.length d ((su.ext W0).ext x) rfl (by omega) left right)
  have HSH := Lib.hid (show (pointsL (D.l.map tn) (l.map tn) u left right).length ≤ 1000000 by
    cases hb : coreB u with
    | false => rw [points_no hb]; simp
    | true =>
      rw [points_yes hb, List.length_map]
      refine Nat.le_trans (List.length_filter_le _ _) ?_
      by_cases hh : atE l (coreL u) < l.length
      · rw [places_hit hh]
        have := (g4 _ (List.getElem_mem hh)).2
        omega
      · rw [places_none hh]
        unfold oddL
        rw [List.length_map]
        refine Nat.le_trans (List.length_filter_le _ _) ?_
        rw [List.length_range]
        have := core_most u
        omega)
  generalize (⟨(coreL u).toArray⟩ : ByteArray) = s at *
  generalize coreN u = cn at *
  unfold StP at PT
  unfold RPointsQ at RPT
  generalize pointsL (D.l.map tn) (l.map tn) u left right = pa at *
  unfold patsV at FEW NEW RPT ⊢
  clear sn hf sl hg su hp okp f1 f2 f3 g1 g2 g3 g4 hud hdm hpat okl
  generalize D.l.map tn = p at *
  generalize l.length = n at *
  generalize u.length = m at *
  generalize D.l.length = dl at *
  generalize D.m.length = dm at *
  obtain ⟨PA, Pc, PA2, Pd⟩ := P
  dsimp only at *
  go_enter Try.func3, Try.ntmps3
  go_upto_region 1 with (fail)
  rw [← hV]
  clear hV
  have KB := Lib.hid kB
  generalize hR : w.heap.size = R at *
  clear hR kB
  go_wp2_with fail
  refine AW.out.mono ?_; rintro e w1 ⟨rfl, x1⟩
  have q0 := (KB.out.ext x1).cell 0
  have q1 := (KB.out.ext x1).cell 1
  dsimp only [List.getElem?_cons_zero, List.getElem?_cons_succ] at q0 q1
  have X1 := Lib.hid x1
  clear x1 AW
  go_wp2_with fail
  refine (FEW.out _ X1.out).mono ?_; rintro e w2 ⟨rfl, x2⟩
  have q0 := x2.at q0
  have q1 := x2.at q1
  have X2 := Lib.hid (X1.out.trans x2)
  clear x2 X1 FEW
  go_wp2_with fail
  refine (FW2.out _ X2.out).mono ?_; rintro e w3 ⟨rfl, x3⟩
  have q0 := x3.at q0
  have q1 := x3.at q1
  have X3 := Lib.hid (X2.out.trans x3)
  clear x3 FW2 X2
  go_wp2_with fail
  refine (CO.out _ X3.out).mono ?_; rintro e w4 ⟨rfl, x4⟩
  have q0 := x4.at q0
  have q1 := x4.at q1
  have X4 := Lib.hid (X3.out.trans x4)
  clear x4 CO X3
  go_wp2_with fail
  refine (RCO.out _ X4.out).mono ?_; rintro e w5 ⟨rfl, x5⟩
  have q0 := x5.at q0
  have q1 := x5.at q1
  have X5 := Lib.hid (X4.out.trans x5)
  clear x5 RCO X4
  go_wp2_with fail
  refine (NEW.out _ X5.out).mono ?_; rintro e w6 hq
  obtain ⟨B, rfl, s6, _, _⟩ := St.new X5.out hq
  have S6 := Lib.hid s6
  have S0 := Lib.hid (fun w' (x : Ext V w') => show w'.cell? ⟨R, 0, none⟩ = some (.slice PA dl Pc) ∧ w'.cell? ⟨R, 1, none⟩ = some (.slice PA2 dm Pd) from ⟨(KB.out.ext x).cell 0, (KB.out.ext x).cell 1⟩)
  obtain ⟨q0, q1⟩ := S0.out _ s6.x
  have S6D := Lib.hid (S6.out.ext (Ext.refl w6).drew)
  obtain ⟨d0, d1⟩ := S0.out _ S6D.out.x
  clear X5 NEW hq s6
  obtain ⟨za, hza⟩ : ∃ za, za = pa.length := ⟨_, rfl⟩
  have HZA := Lib.hid hza
  rw [← hza] at HSH PT RPT
  have SM := Lib.hid (fun Aa ca Ab cb w' (ha : SeenL w' Aa pa) (hb : SeenL w' Ab pa) => show Calls Try.prog 14 #[.slice Aa za ca, .slice Ab za cb] w' (Ret w' (.bool true)) from by
    have h := same_lists Aa Ab pa pa ca cb w' ha hb (by rw [← HZA.out]; exact HSH.out)
    rw [decide_eq_true rfl, ← HZA.out] at h
    exact h)
  clear hza
  go_wp2_with fail
  go_region_held3 (fun w' => w'.cell? ⟨R, 0, none⟩ = some (.slice PA dl Pc) ∧ w'.cell? ⟨R, 1, none⟩ = some (.slice PA2 dm Pd))
    (exact ⟨by with_reducible assumption, by with_reducible assumption⟩)
    (first
      | (go_at_call 15; refine (PT.out _ _ S6D.out).mono ?_; rintro e w7 ⟨s7, b7, Aa, ca, rfl, ka⟩; obtain ⟨q0, q1⟩ := S0.out _ s7.x)
      | (go_at_call 16; refine (RPT.out _ s7.x).mono ?_; rintro e w8 ⟨x8, Ab, cb, rfl, kb⟩; obtain ⟨q0, q1⟩ := S0.out _ (s7.x.trans x8))
      | (go_at_call 14; refine (SM.out Aa ca Ab cb _ (ka.1.ext x8) kb).mono ?_; rintro e w9 ⟨rfl, x9⟩; obtain ⟨q0, q1⟩ := S0.out _ ((s7.x.trans x8).trans x9)))
  go_wp2_with fail
  go_ret
  exact ⟨rfl, HX.out.trans ((s7.x.trans x8).trans x9)⟩
theorem walk (D : PatsD) (P : PatsP) (okp : PatsOk D P) (A : Option Addr) (l : List WP) (c : Nat) (_ : l.length ≤ c) (_ : c ≤ maxLen) (okl : ∀ x ∈ l, x.Ok) (U : Option Addr) (u : List Int) (d : Nat) (hud : u.length ≤ d) (hdm : d ≤ maxLen) (_ : ∀ n ∈ u, (Lit.int .i64 n).wf = true)
    (left : Int) (_ : -9223372036854775808 ≤ left ∧ left ≤ 9223372036854775807) (right : Int) (_ : -9223372036854775808 ≤ right ∧ right ≤ 9223372036854775807) (w : World) (sn : SeenPats w D P) (sl : SeenW w A l) (su : SeenL w U u) :
    Calls Try.prog 3 #[patsV D P, .slice A l.length c, .slice U u.length d, .int .i64 left, .int .i64 right] w (Ret w (.bool true)) := by
  cases hf : fewD D with
  | false => exact few_no D P A l c U u d left right w sn hf
  | true =>
    cases hg : fewB l u.length with
    | false => exact few_no2 D P A l c U u d left right w sn sl hf hg
    | true =>
      cases hp : patsB (rd D) with
      | false => exact none_ D P A l c U u d left right hud hdm okp w sn sl su hf hg hp
      | true => exact main D P A l c U u d left right hud hdm okp okl w sn sl su hf hg hp

set_option maxRecDepth 100000 in
theorem lifted (os : Os) (started : os.Started) (H : Type) (enc : TypeId × Value → H) :
    ReturnsInHanded {} Try.checked os 3 .any (Rows.hyphTellsSpec.pre6 enc Try.prog Try.f3 [] false) (Rows.hyphTellsSpec.post enc Try.prog Try.f3 false true false false) := by
  refine law_lift (C := Try.checked) own started (by kernel_rfl) Try.func3 laidOut rfl rfl Try.underlying4 (by kernel_rfl) ?_
    (ChangeSpec.witness6 (enc := enc) (C := Try.checked) false ⟨#[], #[.agg #[.slice none 0 0, .slice none 0 0], .slice none 0 0, .slice none 0 0, .int .i64 0, .int .i64 0], []⟩ 8 (by kernel_rfl) (by kernel_rfl) (by kernel_rfl) (by kernel_rfl)) ?_
  · intro H ds h
    match ds, h with
    | [_, _, _, _, _], _ => rfl
  · intro W base args ds p hval hA hlt hwt hsh
    rw [Try.params3] at hA hval
    obtain ⟨v0, vs0, d0, ds0, p0, q0, hargs, rfl, rfl, h0, r0⟩ := trodAll_cons hA
    obtain ⟨v1, vs1, d1, ds1, p1, q1, rfl, rfl, rfl, h1, r1⟩ := trodAll_cons r0
    obtain ⟨v2, vs2, d2, ds2, p2, q2, rfl, rfl, rfl, h2, r2⟩ := trodAll_cons r1
    obtain ⟨v3, vs3, d3, ds3, p3, q3, rfl, rfl, rfl, h3, r3⟩ := trodAll_cons r2
    obtain ⟨v4, vs4, d4, ds4, p4, q4, rfl, rfl, rfl, h4, r4⟩ := trodAll_cons r3
    obtain ⟨rfl, rfl, rfl⟩ := trodAll_nil r4
    obtain rfl : args = #[v0, v1, v2, v3, v4] := by cases args; simp_all
    obtain ⟨D0, P0, rfl, ok0, hs0⟩ := arg_pats (hval 0 25 v0 rfl rfl) h0
    obtain ⟨A1, l1, c1, rfl, hc1, hm1, ok1, hs1⟩ := arg_excs (hval 1 23 v1 rfl rfl) h1
    obtain ⟨A2, l2, c2, rfl, hc2, hm2, wf2, hs2⟩ := seen_ints Try.underlying26 Try.underlying3 (by kernel_rfl) (hval 2 26 v2 rfl rfl) h2
    obtain ⟨a3, rfl, rfl, rfl, wf3⟩ := open_int Try.underlying3 (hval 3 3 v3 rfl rfl) h3
    obtain ⟨a4, rfl, rfl, rfl, wf4⟩ := open_int Try.underlying3 (hval 4 3 v4 rfl rfl) h4
    exact walk D0 P0 ok0 A1 l1 c1 hc1 hm1 ok1 A2 l2 c2 hc2 hm2 wf2 a3 (bounds_i64 wf3) a4 (bounds_i64 wf4) W hs0 hs1 hs2

theorem holds : Rows.HyphTellsSaid :=
  OpenClaim.holds_of_wide 3 Try.f3 rfl rfl rfl rfl rfl rfl rfl ⟨rfl, rfl, rfl, rfl, rfl⟩ rfl rfl rfl rfl rfl (by kernel_rfl) Try.func3 (by kernel_rfl)
    (of_decide_eq_true (by kernel_rfl)) (by unfold Func.isWrapper; first | (rw [if_pos (by decide +kernel)]; kernel_rfl) | (rw [if_neg (by decide +kernel)]; exact ⟨rfl, rfl⟩))
    (fun os started H enc _ => lifted os started H enc)
end HyphTells
end Go.Proofs.Ytenajekmnggkeaa

