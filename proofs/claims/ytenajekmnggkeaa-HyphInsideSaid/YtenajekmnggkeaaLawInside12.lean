/- HyphInside: points are in the core, so many letters from its ends, and rise, by patterns alone; greater ends have no more points. For every input, without a condition. -/
import Derived.Test.YtenajekmnggkeaaAwake12
import Derived.Test.YtenajekmnggkeaaPlain12
import Derived.ChangeMaps5
namespace Go.Proofs.Ytenajekmnggkeaa
open Go.ChangeShapes Go.WideShapes Go.ChangeAt Go.RowKit
open Go.Lib hiding intOf
namespace HyphInside
open L10 (TN plainB patB tn rd patsB fewD fewp_any few_len)
open L11 (NewQ new_yes new_no)
open L12

/-- The ways out ahead of New. -/
theorem short (D : PatsD) (P : PatsP) (U : Option Addr) (m d : Nat) (left right : Int) (w : World) (sn : SeenPats w D P) (h : fewD D = false ∨ 100 < m) :
    Calls Try.prog 4 #[patsV D P, .slice U m d, .int .u8 left, .int .u8 right] w (Ret w (.bool true)) := by
  obtain ⟨V, hV⟩ : ∃ V, V = w.alloc (.cells #[.slice P.x D.l.length P.c, .slice P.y D.m.length P.d] 25) := ⟨_, rfl⟩
  have W0 : Ext w V := by rw [hV]; exact (Ext.refl _).alloc _
  have kB : Blk V w.heap.size 25 [.slice P.x D.l.length P.c, .slice P.y D.m.length P.d] := by rw [hV]; exact Blk.lit _ _ _ _ rfl
  obtain ⟨b, hb⟩ : ∃ b, fewD D = b := ⟨_, rfl⟩
  have FEW := Lib.hid (fun w' (x : Ext V w') => by have := fewp_any D P w' ((sn.ext W0).ext x); rw [hb] at this; exact this)
  have HB := Lib.hid (show b = false ∨ (b = true ∧ 100 < m) by
    cases b with
    | false => exact .inl rfl
    | true => exact .inr ⟨rfl, h.resolve_left (by rw [hb]; simp)⟩)
  have AW := Lib.hid (awake_any V)
  unfold patsV at FEW ⊢
  have HX := Lib.hid W0
  clear sn hb h W0
  generalize D.l.length = n at *
  generalize D.m.length = q at *
  obtain ⟨A, c, A2, d2⟩ := P
  dsimp only at *
  go_enter Try.func4, Try.ntmps4
  go_upto_region 1 with (fail)
  rw [← hV]
  clear hV
  have KB := Lib.hid kB
  generalize hR : w.heap.size = R at *
  clear hR kB
  go_wp2_with fail
  refine AW.out.mono ?_; rintro e w1 ⟨rfl, x1⟩
  have q0 := (KB.out.ext x1).cell 0
  have q1 := (KB.out.ext x1).cell 1
  dsimp only [List.getElem?_cons_zero, List.getElem?_cons_succ] at q0 q1
  have X1 := Lib.hid x1
  clear x1 AW
  go_wp2_with fail
  refine (FEW.out _ X1.out).mono ?_; rintro e w2 ⟨rfl, x2⟩
  have q0 := x2.at q0
  have q1 := x2.at q1
  have X2 := Lib.hid (X1.out.trans x2)
  clear x2 X1 FEW
  have FIN := Lib.hid (HX.out.trans X2.out)
  rcases HB.out with rfl | ⟨rfl, hs⟩
  all_goals
    clear X2 q0 q1 HB
    go_wp2_with fail
    go_ret
    exact ⟨rfl, FIN.out⟩
theorem none_ (D : PatsD) (P : PatsP) (ok : PatsOk D P) (U : Option Addr) (m d : Nat) (left right : Int) (hs : ¬ 100 < m) (w : World) (sn : SeenPats w D P) (hf : fewD D = true) (hp : patsB (rd D) = false) :
    Calls Try.prog 4 #[patsV D P, .slice U m d, .int .u8 left, .int .u8 right] w (Ret w (.bool true)) := by
  obtain ⟨f1, f2, f3⟩ := few_len hf
  obtain ⟨V, hV⟩ : ∃ V, V = w.alloc (.cells #[.slice P.x D.l.length P.c, .slice P.y D.m.length P.d] 25) := ⟨_, rfl⟩
  have W0 : Ext w V := by rw [hV]; exact (Ext.refl _).alloc _
  have kB : Blk V w.heap.size 25 [.slice P.x D.l.length P.c, .slice P.y D.m.length P.d] := by rw [hV]; exact Blk.lit _ _ _ _ rfl
  have FEW := Lib.hid (fun w' (x : Ext V w') => by have := fewp_any D P w' ((sn.ext W0).ext x); rw [hf] at this; exact this)
  have AW := Lib.hid (awake_any V)
  have HX := Lib.hid W0
  have NEW := Lib.hid (fun w' (x : Ext V w') => new_no D P ok.li ok.mi w' ((sn.ext W0).ext x) (by omega) (by omega) hp)
  unfold patsV at FEW NEW ⊢
  clear sn ok hp hf f1 f2 f3 W0
  generalize D.l.length = n at *
  generalize D.m.length = q at *
  obtain ⟨A, c, A2, d2⟩ := P
  dsimp only at *
  go_enter Try.func4, Try.ntmps4
  go_upto_region 1 with (fail)
  rw [← hV]
  clear hV
  have KB := Lib.hid kB
  generalize hR : w.heap.size = R at *
  clear hR kB
  go_wp2_with fail
  refine AW.out.mono ?_; rintro e w1 ⟨rfl, x1⟩
  have q0 := (KB.out.ext x1).cell 0
  have q1 := (KB.out.ext x1).cell 1
  dsimp only [List.getElem?_cons_zero, List.getElem?_cons_succ] at q0 q1
  have X1 := Lib.hid x1
  clear x1 AW
  go_wp2_with fail
  refine (FEW.out _ X1.out).mono ?_; rintro e w2 ⟨rfl, x2⟩
  have q0 := x2.at q0
  have q1 := x2.at q1
  have X2 := Lib.hid (X1.out.trans x2)
  clear x2 X1 FEW
  go_wp2_with fail
  refine (NEW.out _ X2.out).mono ?_; rintro e w3 ⟨rfl, x3⟩
  have X3 := Lib.hid ((HX.out.trans X2.out).trans x3)
  clear x3 NEW q0 q1
  go_wp2_with fail
  go_ret
  exact ⟨rfl, X3.out⟩
theorem drop_cons {l : List Int} {j : Nat} (h : j < l.length) : l.drop j = l.getD j 0 :: l.drop (j + 1) := by
  rw [List.drop_eq_getElem_cons h]; simp [List.getD, h]
theorem sub_pos {a b : List Int} {j k : Nat} (h : (a.drop j).Sublist (b.drop k)) (hj : j < a.length) : k < b.length := by
  have h1 := h.length_le
  rw [List.length_drop, List.length_drop] at h1
  omega
theorem sub_skip {a b : List Int} {j k : Nat} (h : (a.drop j).Sublist (b.drop k)) (hj : j < a.length) (hne : b.getD k 0 ≠ a.getD j 0) : (a.drop j).Sublist (b.drop (k + 1)) := by
  have hk := sub_pos h hj
  rw [drop_cons hk] at h
  rcases List.sublist_cons_iff.1 h with h1 | ⟨r, h1, _⟩
  · exact h1
  · rw [drop_cons hj] at h1
    simp only [List.cons.injEq] at h1
    exact absurd h1.1.symm hne
theorem sub_next {a b : List Int} {j k : Nat} (h : (a.drop j).Sublist (b.drop k)) : (a.drop (j + 1)).Sublist (b.drop k) := by
  refine List.Sublist.trans ?_ h
  rw [show j + 1 = 1 + j by omega, Nat.add_comm, ← List.drop_drop]
  exact List.drop_sublist _ _
theorem bare_short {p : List TN} {u : List Int} {left right : Int} : (pointsL p [] u left right).length ≤ 60 := by
  cases hb : coreB u with
  | false => rw [points_no hb]; simp
  | true =>
    rw [points_yes hb, List.length_map]
    refine Nat.le_trans (List.length_filter_le _ _) ?_
    show (oddL p (coreL u)).length ≤ 60
    unfold oddL
    rw [List.length_map]
    refine Nat.le_trans (List.length_filter_le _ _) ?_
    rw [List.length_range]
    have := core_most u
    omega
set_option maxRecDepth 100000 in
set_option maxHeartbeats 16000000 in
theorem main (D : PatsD) (P : PatsP) (ok : PatsOk D P) (U : Option Addr) (u : List Int) (m d : Nat) (left right : Int) (hm : m = u.length) (hm1 : m ≤ 100) (hmd : m ≤ d) (hd : d ≤ maxLen) (hl : 0 ≤ left ∧ left ≤ 255) (hr : 0 ≤ right ∧ right ≤ 255)
    (w : World) (sn : SeenPats w D P) (su : SeenL w U u) (hf : fewD D = true) (hp : patsB (rd D) = true) :
    Calls Try.prog 4 #[patsV D P, .slice U m d, .int .u8 left, .int .u8 right] w (Ret w (.bool true)) := by
  obtain ⟨f1, f2, f3⟩ := few_len hf
  obtain ⟨V, hV⟩ : ∃ V, V = w.alloc (.cells #[.slice P.x D.l.length P.c, .slice P.y D.m.length P.d] 25) := ⟨_, rfl⟩
  have W0 : Ext w V := by rw [hV]; exact (Ext.refl _).alloc _
  have kB : Blk V w.heap.size 25 [.slice P.x D.l.length P.c, .slice P.y D.m.length P.d] := by rw [hV]; exact Blk.lit _ _ _ _ rfl
  have FEW := Lib.hid (fun w' (x : Ext V w') => by have := fewp_any D P w' ((sn.ext W0).ext x); rw [hf] at this; exact this)
  have AW := Lib.hid (awake_any V)
  have HX := Lib.hid W0
  have NEW := Lib.hid (fun w' (x : Ext V w') => new_yes D P ok.li ok.mi w' ((sn.ext W0).ext x) (by omega) (by omega) hp)
  have CO := Lib.hid (fun w' (x : Ext V w') => core_any U u m d w' ((su.ext W0).ext x) hm hmd hd)
  have PT := Lib.hid (fun (w' : World) (B : Nat) (l r : Int) (h : St V w' B (D.l.map tn)) => h.bare U u m d l r ((su.ext W0).ext h.x) hm hmd hd)
  have HSA := Lib.hid (bare_short (p := D.l.map tn) (u := u) (left := left) (right := right))
  have HSB := Lib.hid (bare_short (p := D.l.map tn) (u := u) (left := 0) (right := 0))
  have HSUB := Lib.hid (bare_sub (D.l.map tn) u hl.1 hr.1)
  have HRI := Lib.hid (fun i => rises_at (bare_rises (D.l.map tn) u left right) (i := i))
  have HV := Lib.hid (fun v => bare_mem (p := D.l.map tn) (u := u) (left := left) (right := right) (v := v))
  have HE := Lib.hid (points_bound (p := D.l.map tn) (but := []) (u := u) (left := 0) (right := 0))
  have HI := Lib.hid (show coreN u + (coreL u).length ≤ m by rw [hm]; exact core_in u)
  have HZ := Lib.hid (core_most u)
  obtain ⟨s, hs⟩ : ∃ s : ByteArray, s = ⟨(coreL u).toArray⟩ := ⟨_, rfl⟩
  have hsz : (coreL u).length = s.size := by rw [hs]; rfl
  rw [← hs] at CO
  rw [hsz] at HI HZ HV HE
  clear hs hsz
  generalize coreN u = cn at *
  unfold StP at PT
  generalize hpa : pointsL (D.l.map tn) [] u left right = pa at *
  generalize hpb : pointsL (D.l.map tn) [] u 0 0 = pb at *
  have HPA := Lib.hid hpa
  have HPB := Lib.hid hpb
  unfold patsV at FEW NEW ⊢
  generalize D.l.map tn = p at *
  generalize D.l.length = n at *
  generalize D.m.length = q at *
  obtain ⟨A, c, A2, d2⟩ := P
  dsimp only at kB hV FEW NEW PT ⊢
  clear sn ok hp hf f1 f2 f3 W0 su hpa hpb hm hd hmd
  have c1 : IntKind.i64.wrap left = left := IntWalk.i64_in _ (by omega)
  have c2 : IntKind.i64.wrap right = right := IntWalk.i64_in _ (by omega)
  have hm64 : (m : Int) ≤ 100 := by omega
  go_enter Try.func4, Try.ntmps4
  go_upto_region 1 with (fail)
  rw [← hV]
  clear hV
  have KB := Lib.hid kB
  generalize hR : w.heap.size = R at *
  clear hR kB
  go_wp2_with fail
  refine AW.out.mono ?_; rintro e w1 ⟨rfl, x1⟩
  have q0 := (KB.out.ext x1).cell 0
  have q1 := (KB.out.ext x1).cell 1
  dsimp only [List.getElem?_cons_zero, List.getElem?_cons_succ] at q0 q1
  have X1 := Lib.hid x1
  clear x1 AW
  go_wp2_with fail
  refine (FEW.out _ X1.out).mono ?_; rintro e w2 ⟨rfl, x2⟩
  have q0 := x2.at q0
  have q1 := x2.at q1
  have X2 := Lib.hid (X1.out.trans x2)
  clear x2 X1 FEW
  go_wp2_with fail
  refine (NEW.out _ X2.out).mono ?_; rintro e w3 hq
  obtain ⟨B, rfl, s3, x3, _⟩ := St.new X2.out hq
  have S3 := Lib.hid s3
  clear x3 X2 NEW hq s3 q0 q1
  go_wp2_with fail
  refine (CO.out _ S3.out.x).mono ?_; rintro e w4 ⟨rfl, x4⟩
  have S4 := Lib.hid (S3.out.ext x4)
  clear x4 S3 CO
  go_wp2_with fail
  refine (PT.out _ _ left right S4.out).mono ?_; rintro e w5 ⟨s5, b5, Aa, ca, rfl, ka⟩
  rw [HPA.out] at ka ⊢
  have S5 := Lib.hid s5
  have KA := Lib.hid ka
  clear s5 b5 ka S4
  obtain ⟨za, hza⟩ : ∃ za, za = pa.length := ⟨_, rfl⟩
  have HZA := Lib.hid hza
  rw [← hza]
  clear hza
  go_wp2_with fail
  refine (PT.out _ _ 0 0 S5.out).mono ?_; rintro e w6 ⟨s6, b6, Ab, cb, rfl, kb⟩
  rw [HPB.out] at kb ⊢
  have XF := Lib.hid (HX.out.trans s6.x)
  have KA := Lib.hid (KA.out.ask b6).1
  have KC := Lib.hid kb.1
  clear s6 b6 kb S5
  obtain ⟨zb, hzb⟩ : ∃ zb, zb = pb.length := ⟨_, rfl⟩
  have HZB := Lib.hid hzb
  rw [← hzb]
  clear hzb PT
  have hz64 : (za : Int) ≤ 60 := by have := HSA.out; have := HZA.out; omega
  have hb64 : (zb : Int) ≤ 60 := by have := HSB.out; have := HZB.out; omega
  go_wp2_with fail
  go_loopw [16, 17] (fun ki i wr => ∃ j k : Nat, j ≤ za ∧ k ≤ zb ∧ i = .int .i64 j ∧ ki = .int .i64 k ∧ Hid ((pa.drop j).Sublist (pb.drop k)) ∧ Hid (Ext w6 wr)) (fun _ i _ => za - (intOf i).toNat)
  case atStart => exact ⟨0, 0, Nat.zero_le _, Nat.zero_le _, rfl, rfl, Lib.hid (by simpa using HSUB.out), Lib.hid (Ext.refl _)⟩
  case round =>
    obtain ⟨j, k, hj, hk, rfl, rfl, hsub, X⟩ := hrel
    obtain ⟨wo, hwo⟩ : ∃ wo : World, wo = wr := ⟨_, rfl⟩
    subst hwo
    by_cases hlt : j < za
    · have hjl : j < pa.length := by rw [← HZA.out]; exact hlt
      obtain ⟨ad, rfl, ha⟩ := (KA.out.ext X.out).get hjl
      obtain ⟨v1, v2, v3, v4⟩ := HV.out (pa.getD j 0) (by rw [List.getD, List.getElem?_eq_getElem hjl]; exact List.getElem_mem hjl)
      have hprev := fun (h : 0 < j) => KA.out.ext X.out |>.get (k := j - 1) (by omega)
      have hrise := fun (h : 0 < j) => HRI.out (j - 1) (by omega)
      have SKIP := Lib.hid (fun k (h : (pa.drop j).Sublist (pb.drop k)) => sub_skip h hjl)
      have POS := Lib.hid (fun k (h : (pa.drop j).Sublist (pb.drop k)) => show k < zb by rw [HZB.out]; exact sub_pos h hjl)
      obtain ⟨v, hv⟩ : ∃ v, pa.getD j 0 = v := ⟨_, rfl⟩
      rw [hv] at v1 v2 v3 v4 ha SKIP
      have HVJ := Lib.hid hv
      clear hv
      obtain ⟨t, ht⟩ : ∃ t, t = v - (cn : Int) := ⟨_, rfl⟩
      have hin := HI.out
      have w1 : IntKind.i64.wrap (v - (cn : Int)) = t := by rw [IntWalk.i64_in _ (by omega), ht]
      rw [← ht] at v1 v2 v3 v4
      have hz40 := HZ.out
      have w2 : IntKind.i64.wrap ((s.size : Int) - t) = s.size - t := IntWalk.i64_in _ (by omega)
      have g1 : decide (t < 1) = false := decide_eq_false (by omega)
      have g2 : decide ((s.size : Int) ≤ t) = false := decide_eq_false (by omega)
      have g3 : decide (t < left) = false := decide_eq_false (by omega)
      have g4 : decide ((s.size : Int) - t < right) = false := decide_eq_false (by omega)
      clear ht hin hz40
      by_cases h0 : 0 < j
      · obtain ⟨ad', e, hpv⟩ := hprev h0
        cases e
        have hr0 := hrise h0
        rw [show j - 1 + 1 = j by omega, HVJ.out] at hr0
        generalize pa.getD (j - 1) 0 = v0 at *
        have w3 : IntKind.i64.wrap ((j : Int) - 1) = ((j - 1 : Nat) : Int) := by rw [IntWalk.i64_in _ (by omega)]; omega
        have g5 : decide (0 < j) = true := decide_eq_true h0
        have g6 : decide (v ≤ v0) = false := decide_eq_false (by omega)
        have g7 : ((j - 1 : Nat) : Int) < za := by omega
        clear hprev hrise v1 v2 v3 v4 hr0 h0
        go_wp2_with fail
        go_quiet (fail)
        go_wp2_with fail
        go_loopw [16] (fun ki wr => ∃ k : Nat, k ≤ zb ∧ ki = .int .i64 k ∧ Hid ((pa.drop j).Sublist (pb.drop k)) ∧ Hid (Ext w6 wr)) (fun ki _ => zb - (intOf ki).toNat)
        case atStart => exact ⟨k, hk, rfl, hsub, Lib.hid (X.out.drewN _)⟩
        case round =>
          clear hsub X ha
          obtain ⟨k, hk, rfl, hsub, X⟩ := hrel
          have hkz := POS.out k hsub.out
          obtain ⟨ad2, rfl, hb⟩ := (KC.out.ext X.out).get (k := k) (by rw [← HZB.out]; exact hkz)
          obtain ⟨ad3, e, ha⟩ := (KA.out.ext X.out).get hjl
          cases e
          rw [HVJ.out] at ha
          have gk : decide (k < zb) = true := decide_eq_true hkz
          have ge : ((k : Int) == (zb : Int)) = false := by simp; omega
          by_cases hy : pb.getD k 0 = v
          · rw [hy] at hb
            have NX := Lib.hid (sub_next hsub.out)
            clear hy
            go_wp2_with fail
            go_quiet (fail)
            go_wp2_with fail
            go_roundw
            case rel => exact ⟨j + 1, k, by omega, hk, by go_num, rfl, NX, Lib.hid (X.out.drewN _)⟩
            case measure => simp [intOf]; omega
          · have hyb : (pb.getD k 0 != v) = true := by simpa using hy
            have NX := Lib.hid (SKIP.out k hsub.out hy)
            clear hy
            generalize pb.getD k 0 = y at *
            go_wp2_with fail
            go_quiet (fail)
            go_wp2_with fail
            go_roundw
            case rel => exact ⟨k + 1, by omega, by go_num, NX, Lib.hid (X.out.drewN _)⟩
            case measure => simp [intOf]; omega
      · have g5 : decide (0 < j) = false := decide_eq_false h0
        clear hprev hrise v1 v2 v3 v4 h0
        go_wp2_with fail
        go_quiet (fail)
        go_wp2_with fail
        go_loopw [16] (fun ki wr => ∃ k : Nat, k ≤ zb ∧ ki = .int .i64 k ∧ Hid ((pa.drop j).Sublist (pb.drop k)) ∧ Hid (Ext w6 wr)) (fun ki _ => zb - (intOf ki).toNat)
        case atStart => exact ⟨k, hk, rfl, hsub, Lib.hid (X.out.drewN _)⟩
        case round =>
          clear hsub X ha
          obtain ⟨k, hk, rfl, hsub, X⟩ := hrel
          have hkz := POS.out k hsub.out
          obtain ⟨ad2, rfl, hb⟩ := (KC.out.ext X.out).get (k := k) (by rw [← HZB.out]; exact hkz)
          obtain ⟨ad3, e, ha⟩ := (KA.out.ext X.out).get hjl
          cases e
          rw [HVJ.out] at ha
          have gk : decide (k < zb) = true := decide_eq_true hkz
          have ge : ((k : Int) == (zb : Int)) = false := by simp; omega
          by_cases hy : pb.getD k 0 = v
          · rw [hy] at hb
            have NX := Lib.hid (sub_next hsub.out)
            clear hy
            go_wp2_with fail
            go_quiet (fail)
            go_wp2_with fail
            go_roundw
            case rel => exact ⟨j + 1, k, by omega, hk, by go_num, rfl, NX, Lib.hid (X.out.drewN _)⟩
            case measure => simp [intOf]; omega
          · have hyb : (pb.getD k 0 != v) = true := by simpa using hy
            have NX := Lib.hid (SKIP.out k hsub.out hy)
            clear hy
            generalize pb.getD k 0 = y at *
            go_wp2_with fail
            go_quiet (fail)
            go_wp2_with fail
            go_roundw
            case rel => exact ⟨k + 1, by omega, by go_num, NX, Lib.hid (X.out.drewN _)⟩
            case measure => simp [intOf]; omega
    · obtain rfl : j = za := by omega
      have XE := Lib.hid (XF.out.trans X.out)
      have hin := HI.out
      have hin64 : (cn : Int) + s.size ≤ m := by omega
      have w9 : IntKind.i64.wrap ((cn : Int) + s.size) = cn + s.size := IntWalk.i64_in _ (by omega)
      by_cases hs0 : 0 < s.size
      · have g1 : ¬ s = ByteArray.empty := by
          intro h
          rw [h] at hs0
          simp at hs0
        have g3 : decide (0 < s.size) = true := decide_eq_true hs0
        clear hs0
        go_wp2_with fail
        go_ret
        exact ⟨rfl, XE.out⟩
      · have hz0 : zb = 0 := by
          rw [HZB.out]
          cases hpb : pb with
          | nil => rfl
          | cons a r => exact absurd (HE.out (by rw [hpb]; simp)) hs0
        have HZ0 := Lib.hid hz0
        have g1 : s = ByteArray.empty := ByteArray.size_eq_zero_iff.1 (by omega)
        have g2 : ((zb : Int) == 0) = true := by simp; exact hz0
        clear hs0 hz0
        subst g1
        go_wp2_with fail
        go_ret
        exact ⟨rfl, XE.out⟩
theorem walk (D : PatsD) (P : PatsP) (ok : PatsOk D P) (A : Option Addr) (u : List Int) (c : Nat) (hc : u.length ≤ c) (hcm : c ≤ maxLen) (_ : ∀ n ∈ u, (Lit.int .i64 n).wf = true)
    (left : Int) (hl : 0 ≤ left ∧ left ≤ 255) (right : Int) (hr : 0 ≤ right ∧ right ≤ 255) (w : World) (sn : SeenPats w D P) (su : SeenL w A u) :
    Calls Try.prog 4 #[patsV D P, .slice A u.length c, .int .u8 left, .int .u8 right] w (Ret w (.bool true)) := by
  cases hf : fewD D with
  | false => exact short D P A u.length c left right w sn (.inl hf)
  | true =>
    by_cases h1 : u.length ≤ 100
    · cases hp : patsB (rd D) with
      | false => exact none_ D P ok A u.length c left right (by omega) w sn hf hp
      | true => exact main D P ok A u u.length c left right rfl h1 hc hcm hl hr w sn su hf hp
    · exact short D P A u.length c left right w sn (.inr (by omega))

set_option maxRecDepth 100000 in
theorem lifted (os : Os) (started : os.Started) (H : Type) (enc : TypeId × Value → H) :
    ReturnsInHanded {} Try.checked os 4 .any (Rows.hyphInsideSpec.pre6 enc Try.prog Try.f4 [] false) (Rows.hyphInsideSpec.post enc Try.prog Try.f4 false true false false) := by
  refine law_lift (C := Try.checked) own started (by kernel_rfl) Try.func4 laidOut rfl rfl Try.underlying4 (by kernel_rfl) ?_
    (ChangeSpec.witness6 (enc := enc) (C := Try.checked) false ⟨#[], #[.agg #[.slice none 0 0, .slice none 0 0], .slice none 0 0, .int .u8 0, .int .u8 0], []⟩ 8 (by kernel_rfl) (by kernel_rfl) (by kernel_rfl) (by kernel_rfl)) ?_
  · intro H ds h
    match ds, h with
    | [_, _, _, _], _ => rfl
  · intro W base args ds p hval hA hlt hwt hsh
    rw [Try.params4] at hA hval
    obtain ⟨v0, vs0, d0, ds0, p0, q0, hargs, rfl, rfl, h0, r0⟩ := trodAll_cons hA
    obtain ⟨v1, vs1, d1, ds1, p1, q1, rfl, rfl, rfl, h1, r1⟩ := trodAll_cons r0
    obtain ⟨v2, vs2, d2, ds2, p2, q2, rfl, rfl, rfl, h2, r2⟩ := trodAll_cons r1
    obtain ⟨v3, vs3, d3, ds3, p3, q3, rfl, rfl, rfl, h3, r3⟩ := trodAll_cons r2
    obtain ⟨rfl, rfl, rfl⟩ := trodAll_nil r3
    obtain rfl : args = #[v0, v1, v2, v3] := by cases args; simp_all
    obtain ⟨D0, P0, rfl, ok0, hs0⟩ := arg_pats (hval 0 25 v0 rfl rfl) h0
    obtain ⟨A1, l1, c1, rfl, hc1, hm1, wf1, hs1⟩ := seen_ints Try.underlying26 Try.underlying3 (by kernel_rfl) (hval 1 26 v1 rfl rfl) h1
    obtain ⟨a2, rfl, rfl, rfl, wf2⟩ := open_int Try.underlying5 (hval 2 5 v2 rfl rfl) h2
    obtain ⟨a3, rfl, rfl, rfl, wf3⟩ := open_int Try.underlying5 (hval 3 5 v3 rfl rfl) h3
    exact walk D0 P0 ok0 A1 l1 c1 hc1 hm1 wf1 a2 (bounds_u8 wf2) a3 (bounds_u8 wf3) W hs0 hs1

theorem holds : Rows.HyphInsideSaid :=
  OpenClaim.holds_of_wide 4 Try.f4 rfl rfl rfl rfl rfl rfl rfl ⟨rfl, rfl, rfl, rfl, rfl⟩ rfl rfl rfl rfl rfl (by kernel_rfl) Try.func4 (by kernel_rfl)
    (of_decide_eq_true (by kernel_rfl)) (by unfold Func.isWrapper; first | (rw [if_pos (by decide +kernel)]; kernel_rfl) | (rw [if_neg (by decide +kernel)]; exact ⟨rfl, rfl⟩))
    (fun os started H enc _ => lifted os started H enc)
end HyphInside
end Go.Proofs.Ytenajekmnggkeaa

