/- HyphLess: with more letters that are to stand at either end there are no other points, and those that there are are all that stand so far from both ends. For every input, without a condition. -/
import Derived.Test.YtenajekmnggkeaaAwake12
import Derived.Test.YtenajekmnggkeaaPlain12
import Derived.ChangeMaps5
namespace Go.Proofs.Ytenajekmnggkeaa
open Go.ChangeShapes Go.WideShapes Go.ChangeAt Go.RowKit
open Go.Lib hiding intOf
namespace HyphLess
open L10 (TN plainB patB tn rd patsB fewD fewp_any few_len)
open L11 (NewQ new_yes new_no)
open L12

/-- The ways out ahead of New. -/
theorem short (D : PatsD) (P : PatsP) (U : Option Addr) (m d : Nat) (left right more : Int) (w : World) (sn : SeenPats w D P) (h : fewD D = false ∨ 100 < m) :
    Calls Try.prog 7 #[patsV D P, .slice U m d, .int .u8 left, .int .u8 right, .int .u8 more] w (Ret w (.bool true)) := by
  obtain ⟨V, hV⟩ : ∃ V, V = w.alloc (.cells #[.slice P.x D.l.length P.c, .slice P.y D.m.length P.d] 25) := ⟨_, rfl⟩
  have W0 : Ext w V := by rw [hV]; exact (Ext.refl _).alloc _
  have kB : Blk V w.heap.size 25 [.slice P.x D.l.length P.c, .slice P.y D.m.length P.d] := by rw [hV]; exact Blk.lit _ _ _ _ rfl
  obtain ⟨b, hb⟩ : ∃ b, fewD D = b := ⟨_, rfl⟩
  have FEW := Lib.hid (fun w' (x : Ext V w') => by have := fewp_any D P w' ((sn.ext W0).ext x); rw [hb] at this; exact this)
  have HB := Lib.hid (show b = false ∨ (b = true ∧ 100 < m) by
    cases b with
    | false => exact .inl rfl
    | true => exact .inr ⟨rfl, h.resolve_left (by rw [hb]; simp)⟩)
  have AW := Lib.hid (awake_any V)
  unfold patsV at FEW ⊢
  have HX := Lib.hid W0
  clear sn hb h W0
  generalize D.l.length = n at *
  generalize D.m.length = q at *
  obtain ⟨A, c, A2, d2⟩ := P
  dsimp only at *
  go_enter Try.func7, Try.ntmps7
  go_upto_region 1 with (fail)
  rw [← hV]
  clear hV
  have KB := Lib.hid kB
  generalize hR : w.heap.size = R at *
  clear hR kB
  go_wp2_with fail
  refine AW.out.mono ?_; rintro e w1 ⟨rfl, x1⟩
  have q0 := (KB.out.ext x1).cell 0
  have q1 := (KB.out.ext x1).cell 1
  dsimp only [List.getElem?_cons_zero, List.getElem?_cons_succ] at q0 q1
  have X1 := Lib.hid x1
  clear x1 AW
  go_wp2_with fail
  refine (FEW.out _ X1.out).mono ?_; rintro e w2 ⟨rfl, x2⟩
  have q0 := x2.at q0
  have q1 := x2.at q1
  have X2 := Lib.hid (X1.out.trans x2)
  clear x2 X1 FEW
  have FIN := Lib.hid (HX.out.trans X2.out)
  rcases HB.out with rfl | ⟨rfl, hs⟩
  all_goals
    clear X2 q0 q1 HB
    go_wp2_with fail
    go_ret
    exact ⟨rfl, FIN.out⟩
theorem none_ (D : PatsD) (P : PatsP) (ok : PatsOk D P) (U : Option Addr) (m d : Nat) (left right more : Int) (hs : ¬ 100 < m) (w : World) (sn : SeenPats w D P) (hf : fewD D = true) (hp : patsB (rd D) = false) :
    Calls Try.prog 7 #[patsV D P, .slice U m d, .int .u8 left, .int .u8 right, .int .u8 more] w (Ret w (.bool true)) := by
  obtain ⟨f1, f2, f3⟩ := few_len hf
  obtain ⟨V, hV⟩ : ∃ V, V = w.alloc (.cells #[.slice P.x D.l.length P.c, .slice P.y D.m.length P.d] 25) := ⟨_, rfl⟩
  have W0 : Ext w V := by rw [hV]; exact (Ext.refl _).alloc _
  have kB : Blk V w.heap.size 25 [.slice P.x D.l.length P.c, .slice P.y D.m.length P.d] := by rw [hV]; exact Blk.lit _ _ _ _ rfl
  have FEW := Lib.hid (fun w' (x : Ext V w') => by have := fewp_any D P w' ((sn.ext W0).ext x); rw [hf] at this; exact this)
  have AW := Lib.hid (awake_any V)
  have HX := Lib.hid W0
  have NEW := Lib.hid (fun w' (x : Ext V w') => new_no D P ok.li ok.mi w' ((sn.ext W0).ext x) (by omega) (by omega) hp)
  unfold patsV at FEW NEW ⊢
  clear sn ok hp hf f1 f2 f3 W0
  generalize D.l.length = n at *
  generalize D.m.length = q at *
  obtain ⟨A, c, A2, d2⟩ := P
  dsimp only at *
  go_enter Try.func7, Try.ntmps7
  go_upto_region 1 with (fail)
  rw [← hV]
  clear hV
  have KB := Lib.hid kB
  generalize hR : w.heap.size = R at *
  clear hR kB
  go_wp2_with fail
  refine AW.out.mono ?_; rintro e w1 ⟨rfl, x1⟩
  have q0 := (KB.out.ext x1).cell 0
  have q1 := (KB.out.ext x1).cell 1
  dsimp only [List.getElem?_cons_zero, List.getElem?_cons_succ] at q0 q1
  have X1 := Lib.hid x1
  clear x1 AW
  go_wp2_with fail
  refine (FEW.out _ X1.out).mono ?_; rintro e w2 ⟨rfl, x2⟩
  have q0 := x2.at q0
  have q1 := x2.at q1
  have X2 := Lib.hid (X1.out.trans x2)
  clear x2 X1 FEW
  go_wp2_with fail
  refine (NEW.out _ X2.out).mono ?_; rintro e w3 ⟨rfl, x3⟩
  have X3 := Lib.hid ((HX.out.trans X2.out).trans x3)
  clear x3 NEW q0 q1
  go_wp2_with fail
  go_ret
  exact ⟨rfl, X3.out⟩
theorem points_short {p : List TN} {l : List WP} {u : List Int} {left right : Int} (hl : ∀ x ∈ l, x.ns.length ≤ 60) : (pointsL p (l.map tn) u left right).length ≤ 60 := by
  cases hb : coreB u with
  | false => rw [points_no hb]; simp
  | true =>
    rw [points_yes hb, List.length_map]
    refine Nat.le_trans (List.length_filter_le _ _) ?_
    by_cases hh : atE l (coreL u) < l.length
    · rw [places_hit hh]
      exact hl _ (List.getElem_mem hh)
    · rw [places_none hh]
      unfold oddL
      rw [List.length_map]
      refine Nat.le_trans (List.length_filter_le _ _) ?_
      rw [List.length_range]
      have := core_most u
      omega
set_option maxRecDepth 100000 in
set_option maxHeartbeats 16000000 in
theorem main (D : PatsD) (P : PatsP) (ok : PatsOk D P) (U : Option Addr) (u : List Int) (m d : Nat) (left right more : Int) (hm : m = u.length) (hm1 : m ≤ 100) (hmd : m ≤ d) (hd : d ≤ maxLen) (hl : 0 ≤ left ∧ left ≤ 255) (hr : 0 ≤ right ∧ right ≤ 255) (ho : 0 ≤ more ∧ more ≤ 255)
    (w : World) (sn : SeenPats w D P) (su : SeenL w U u) (hf : fewD D = true) (hp : patsB (rd D) = true) :
    Calls Try.prog 7 #[patsV D P, .slice U m d, .int .u8 left, .int .u8 right, .int .u8 more] w (Ret w (.bool true)) := by
  obtain ⟨f1, f2, f3⟩ := few_len hf
  obtain ⟨V, hV⟩ : ∃ V, V = w.alloc (.cells #[.slice P.x D.l.length P.c, .slice P.y D.m.length P.d] 25) := ⟨_, rfl⟩
  have W0 : Ext w V := by rw [hV]; exact (Ext.refl _).alloc _
  have kB : Blk V w.heap.size 25 [.slice P.x D.l.length P.c, .slice P.y D.m.length P.d] := by rw [hV]; exact Blk.lit _ _ _ _ rfl
  have FEW := Lib.hid (fun w' (x : Ext V w') => by have := fewp_any D P w' ((sn.ext W0).ext x); rw [hf] at this; exact this)
  have AW := Lib.hid (awake_any V)
  have HX := Lib.hid W0
  have NEW := Lib.hid (fun w' (x : Ext V w') => new_yes D P ok.li ok.mi w' ((sn.ext W0).ext x) (by omega) (by omega) hp)
  have CO := Lib.hid (fun w' (x : Ext V w') => core_any U u m d w' ((su.ext W0).ext x) hm hmd hd)
  have PT := Lib.hid (fun (w' : World) (B : Nat) (l r : Int) (h : St V w' B (D.l.map tn)) => h.points P.y D.m D.m.length P.d U u m d l r ((sn.ext W0).ext h.x).m rfl (by omega) (fun x hx => ⟨ok.mi x hx, by have := f3 x (by simp [hx]); omega⟩) ((su.ext W0).ext h.x) hm hmd hd)
  obtain ⟨m1, hm9⟩ : ∃ m1, m1 = more % 9 := ⟨_, rfl⟩
  obtain ⟨m2, hm2⟩ : ∃ m2, m2 = more / 32 := ⟨_, rfl⟩
  have b1 : 0 ≤ m1 ∧ m1 ≤ 8 := by omega
  have b2 : 0 ≤ m2 ∧ m2 ≤ 7 := by omega
  have et : more.tmod 9 = m1 := by rw [Int.tmod_eq_emod_of_nonneg ho.1, hm9]
  have ed : more.tdiv 32 = m2 := by rw [Int.tdiv_eq_ediv_of_nonneg ho.1, hm2]
  have HQ := Lib.hid (points_less (D.l.map tn) (D.m.map tn) u (left := left) (right := right) (m1 := m1) (m2 := m2) hl.1 b1.1 b2.1)
  have HSH := Lib.hid (points_short (p := D.l.map tn) (u := u) (left := left) (right := right) (l := D.m) (fun x hx => (f3 x (by simp [hx])).2))
  have HI := Lib.hid (core_in u)
  have HZ := Lib.hid (core_most u)
  have HV := Lib.hid (fun v (h : v ∈ pointsL (D.l.map tn) (D.m.map tn) u left right) => show (coreN u : Int) ≤ v ∧ v ≤ coreN u + (coreL u).length by
    obtain ⟨_, x, _, hx, rfl⟩ := points_mem h
    simp only [mayB, Bool.and_eq_true, decide_eq_true_eq] at hx
    omega)
  obtain ⟨s, hs⟩ : ∃ s : ByteArray, s = ⟨(coreL u).toArray⟩ := ⟨_, rfl⟩
  have hsz : (coreL u).length = s.size := by rw [hs]; rfl
  have HF := Lib.hid (fun v => show farB (coreN u) (coreL u).length (left + m1) (right + m2) v = (decide (left + m1 ≤ v - coreN u) && decide (right + m2 ≤ (coreL u).length - (v - coreN u))) from rfl)
  rw [← hs] at CO
  rw [hsz] at HI HZ HF HQ HV
  clear hs hsz
  generalize farB (coreN u) s.size (left + m1) (right + m2) = fq at *
  generalize coreN u = cn at *
  unfold StP at PT
  generalize hpa : pointsL (D.l.map tn) (D.m.map tn) u left right = pa at *
  generalize hpb : pointsL (D.l.map tn) (D.m.map tn) u (left + m1) (right + m2) = pb at *
  have HPA := Lib.hid hpa
  have HPB := Lib.hid hpb
  have PY := Lib.hid (fun i (h : i < pa.length) => passed_yes (q := fq) h)
  have PN := Lib.hid (fun i (h : i < pa.length) => passed_no (q := fq) h)
  have PG := Lib.hid (fun i (h : i < pa.length) => passed_get (q := fq) h)
  have PE := Lib.hid (passed_full fq pa)
  have P0 := Lib.hid (passed_zero fq pa)
  rw [← HQ.out] at PG PE
  generalize passed fq pa = fk at *
  unfold patsV at FEW NEW ⊢
  generalize D.l.map tn = p at *
  generalize D.m.map tn = bt at *
  generalize D.l.length = n at *
  generalize D.m.length = q at *
  obtain ⟨A, c, A2, d2⟩ := P
  dsimp only at kB hV FEW NEW PT ⊢
  have HM := Lib.hid hm
  clear sn ok hp hf f1 f2 f3 W0 su hpa hpb hm hd hmd hm9 hm2
  have c1 : IntKind.i64.wrap left = left := IntWalk.i64_in _ (by omega)
  have c2 : IntKind.i64.wrap right = right := IntWalk.i64_in _ (by omega)
  have c3 : IntKind.i64.wrap m1 = m1 := IntWalk.i64_in _ (by omega)
  have c4 : IntKind.i64.wrap m2 = m2 := IntWalk.i64_in _ (by omega)
  have c5 : IntKind.i64.wrap (left + m1) = left + m1 := IntWalk.i64_in _ (by omega)
  have c6 : IntKind.i64.wrap (right + m2) = right + m2 := IntWalk.i64_in _ (by omega)
  have c7 : IntKind.u8.wrap m2 = m2 := u8_in _ (by omega)
  have c8 : IntKind.u8.wrap m1 = m1 := u8_in _ (by omega)
  have hm64 : (m : Int) ≤ 100 := by omega
  go_enter Try.func7, Try.ntmps7
  go_upto_region 1 with (fail)
  rw [← hV]
  clear hV
  have KB := Lib.hid kB
  generalize hR : w.heap.size = R at *
  clear hR kB
  go_wp2_with fail
  refine AW.out.mono ?_; rintro e w1 ⟨rfl, x1⟩
  have q0 := (KB.out.ext x1).cell 0
  have q1 := (KB.out.ext x1).cell 1
  dsimp only [List.getElem?_cons_zero, List.getElem?_cons_succ] at q0 q1
  have X1 := Lib.hid x1
  clear x1 AW
  go_wp2_with fail
  refine (FEW.out _ X1.out).mono ?_; rintro e w2 ⟨rfl, x2⟩
  have q0 := x2.at q0
  have q1 := x2.at q1
  have X2 := Lib.hid (X1.out.trans x2)
  clear x2 X1 FEW
  go_wp2_with fail
  refine (NEW.out _ X2.out).mono ?_; rintro e w3 hq
  obtain ⟨B, rfl, s3, x3, _⟩ := St.new X2.out hq
  have q1 := x3.at q1
  have S3 := Lib.hid s3
  clear x3 X2 NEW hq s3 q0
  go_wp2_with fail
  refine (CO.out _ S3.out.x).mono ?_; rintro e w4 ⟨rfl, x4⟩
  have S4 := Lib.hid (S3.out.ext x4)
  have q1 := x4.at q1
  clear x4 S3 CO
  go_wp2_with fail
  refine (PT.out _ _ left right S4.out).mono ?_; rintro e w5 ⟨s5, b5, Aa, ca, rfl, ka⟩
  rw [HPA.out] at ka ⊢
  have S5 := Lib.hid s5
  have KA := Lib.hid ka
  have q1 := (KB.out.ext s5.x).cell 1
  dsimp only [List.getElem?_cons_zero, List.getElem?_cons_succ] at q1
  clear s5 b5 ka S4
  obtain ⟨za, hza⟩ : ∃ za, za = pa.length := ⟨_, rfl⟩
  have HZA := Lib.hid hza
  rw [← hza]
  clear hza
  go_wp2_with fail
  refine (PT.out _ _ (left + m1) (right + m2) S5.out).mono ?_; rintro e w6 ⟨s6, b6, Ab, cb, rfl, kb⟩
  rw [HPB.out] at kb ⊢
  have XF := Lib.hid (HX.out.trans s6.x)
  have KA := Lib.hid (KA.out.ask b6).1
  have KC := Lib.hid kb.1
  clear s6 b6 kb S5 q1
  obtain ⟨zb, hzb⟩ : ∃ zb, zb = pb.length := ⟨_, rfl⟩
  have HZB := Lib.hid hzb
  rw [← hzb] at PG PE ⊢
  clear hzb PT
  have hz40 := HZ.out
  have hcn := HI.out
  have HBD := Lib.hid (And.intro hz40 hcn)
  clear hz40 hcn
  rw [← HZA.out] at PY PN PG PE
  have HFK := Lib.hid (show ∀ i, i ≤ za → fk i ≤ i from fun i => by
    induction i with
    | zero => intro _; rw [P0.out]; omega
    | succ i ih =>
      intro h
      have := ih (by omega)
      cases hq : fq (pa.getD i 0) with
      | true => have := PY.out i (by omega) hq; omega
      | false => have := PN.out i (by omega) hq; omega)
  have hz64 : (za : Int) ≤ 60 := by have := HSH.out; have := HZA.out; omega
  go_wp2_with fail
  go_loopw [18, 19] (fun k i wr => ∃ j : Nat, j ≤ za ∧ i = .int .i64 j ∧ k = .int .i64 (fk j) ∧ Hid (Ext w6 wr)) (fun _ i _ => za - (intOf i).toNat)
  case atStart => exact ⟨0, Nat.zero_le _, rfl, by rw [P0.out]; rfl, Lib.hid (Ext.refl _)⟩
  case round =>
    obtain ⟨j, hj, rfl, rfl, X⟩ := hrel
    by_cases hlt : j < za
    · have hjl : j < pa.length := by rw [← HZA.out]; exact hlt
      obtain ⟨ad, rfl, ha⟩ := (KA.out.ext X.out).get hjl
      have hv := HV.out (pa.getD j 0) (by rw [List.getD, List.getElem?_eq_getElem hjl]; exact List.getElem_mem hjl)
      have hfq := HF.out (pa.getD j 0)
      have hy := PY.out j hlt
      have hn := PN.out j hlt
      have hg := PG.out j hlt
      have hfj := HFK.out j hj
      have hbd := HBD.out
      generalize pa.getD j 0 = v at *
      obtain ⟨t, ht⟩ : ∃ t, t = v - (cn : Int) := ⟨_, rfl⟩
      have w1 : IntKind.i64.wrap (v - (cn : Int)) = t := by rw [IntWalk.i64_in _ (by omega), ht]
      rw [← ht] at hfq
      have w2 : IntKind.i64.wrap ((s.size : Int) - t) = s.size - t := IntWalk.i64_in _ (by omega)
      have HGV := Lib.hid hg
      have HYV := Lib.hid hy
      have HNV := Lib.hid hn
      clear hg hy hn hv ht
      by_cases h1 : left + m1 ≤ t
      · by_cases h2 : right + m2 ≤ (s.size : Int) - t
        · have hft : fq v = true := by rw [hfq, decide_eq_true h1, decide_eq_true h2]; rfl
          obtain ⟨g1, g2⟩ := HGV.out hft
          obtain ⟨ad2, rfl, hb⟩ := (KC.out.ext X.out).get (k := fk j) (by rw [← HZB.out]; exact g1)
          rw [g2] at hb
          have H2 := Lib.hid (HYV.out hft)
          have g64 : ((fk j : Nat) : Int) < zb := by omega
          have g65 : ((fk j : Nat) : Int) < 1000000000 := by omega
          clear g1 g2 hfq hft hbd
          go_wp2_with fail
          have gd : decide (zb ≤ fk j) = false := decide_eq_false (by omega)
          go_quiet (fail)
          go_wp2_with fail
          go_roundw
          case rel => exact ⟨j + 1, by omega, by go_num, by rw [H2.out]; go_num, Lib.hid (X.out.drewN _)⟩
          case measure => simp [intOf]; omega
        · have H2 := Lib.hid (HNV.out (by rw [hfq, decide_eq_false h2]; simp))
          clear hfq hbd
          go_wp2_with fail
          go_roundw
          case rel => exact ⟨j + 1, by omega, by go_num, by rw [H2.out], X⟩
          case measure => simp [intOf]; omega
      · have H2 := Lib.hid (HNV.out (by rw [hfq, decide_eq_false h1]; simp))
        clear hfq hbd
        go_wp2_with fail
        go_roundw
        case rel => exact ⟨j + 1, by omega, by go_num, by rw [H2.out], X⟩
        case measure => simp [intOf]; omega
    · obtain rfl : j = za := by omega
      have hpe := PE.out
      rw [hpe]
      have XE := Lib.hid (XF.out.trans X.out)
      go_wp2_with fail
      go_ret
      exact ⟨rfl, XE.out⟩
theorem walk (D : PatsD) (P : PatsP) (ok : PatsOk D P) (A : Option Addr) (u : List Int) (c : Nat) (hc : u.length ≤ c) (hcm : c ≤ maxLen) (_ : ∀ n ∈ u, (Lit.int .i64 n).wf = true)
    (left : Int) (hl : 0 ≤ left ∧ left ≤ 255) (right : Int) (hr : 0 ≤ right ∧ right ≤ 255) (more : Int) (ho : 0 ≤ more ∧ more ≤ 255) (w : World) (sn : SeenPats w D P) (su : SeenL w A u) :
    Calls Try.prog 7 #[patsV D P, .slice A u.length c, .int .u8 left, .int .u8 right, .int .u8 more] w (Ret w (.bool true)) := by
  cases hf : fewD D with
  | false => exact short D P A u.length c left right more w sn (.inl hf)
  | true =>
    by_cases h1 : u.length ≤ 100
    · cases hp : patsB (rd D) with
      | false => exact none_ D P ok A u.length c left right more (by omega) w sn hf hp
      | true => exact main D P ok A u u.length c left right more rfl h1 hc hcm hl hr ho w sn su hf hp
    · exact short D P A u.length c left right more w sn (.inr (by omega))

set_option maxRecDepth 100000 in
theorem lifted (os : Os) (started : os.Started) (H : Type) (enc : TypeId × Value → H) :
    ReturnsInHanded {} Try.checked os 7 .any (Rows.hyphLessSpec.pre6 enc Try.prog Try.f7 [] false) (Rows.hyphLessSpec.post enc Try.prog Try.f7 false true false false) := by
  refine law_lift (C := Try.checked) own started (by kernel_rfl) Try.func7 laidOut rfl rfl Try.underlying4 (by kernel_rfl) ?_
    (ChangeSpec.witness6 (enc := enc) (C := Try.checked) false ⟨#[], #[.agg #[.slice none 0 0, .slice none 0 0], .slice none 0 0, .int .u8 0, .int .u8 0, .int .u8 0], []⟩ 8 (by kernel_rfl) (by kernel_rfl) (by kernel_rfl) (by kernel_rfl)) ?_
  · intro H ds h
    match ds, h with
    | [_, _, _, _, _], _ => rfl
  · intro W base args ds p hval hA hlt hwt hsh
    rw [Try.params7] at hA hval
    obtain ⟨v0, vs0, d0, ds0, p0, q0, hargs, rfl, rfl, h0, r0⟩ := trodAll_cons hA
    obtain ⟨v1, vs1, d1, ds1, p1, q1, rfl, rfl, rfl, h1, r1⟩ := trodAll_cons r0
    obtain ⟨v2, vs2, d2, ds2, p2, q2, rfl, rfl, rfl, h2, r2⟩ := trodAll_cons r1
    obtain ⟨v3, vs3, d3, ds3, p3, q3, rfl, rfl, rfl, h3, r3⟩ := trodAll_cons r2
    obtain ⟨v4, vs4, d4, ds4, p4, q4, rfl, rfl, rfl, h4, r4⟩ := trodAll_cons r3
    obtain ⟨rfl, rfl, rfl⟩ := trodAll_nil r4
    obtain rfl : args = #[v0, v1, v2, v3, v4] := by cases args; simp_all
    obtain ⟨D0, P0, rfl, ok0, hs0⟩ := arg_pats (hval 0 25 v0 rfl rfl) h0
    obtain ⟨A1, l1, c1, rfl, hc1, hm1, wf1, hs1⟩ := seen_ints Try.underlying26 Try.underlying3 (by kernel_rfl) (hval 1 26 v1 rfl rfl) h1
    obtain ⟨a2, rfl, rfl, rfl, wf2⟩ := open_int Try.underlying5 (hval 2 5 v2 rfl rfl) h2
    obtain ⟨a3, rfl, rfl, rfl, wf3⟩ := open_int Try.underlying5 (hval 3 5 v3 rfl rfl) h3
    obtain ⟨a4, rfl, rfl, rfl, wf4⟩ := open_int Try.underlying5 (hval 4 5 v4 rfl rfl) h4
    exact walk D0 P0 ok0 A1 l1 c1 hc1 hm1 wf1 a2 (bounds_u8 wf2) a3 (bounds_u8 wf3) a4 (bounds_u8 wf4) W hs0 hs1

theorem holds : Rows.HyphLessSaid :=
  OpenClaim.holds_of_wide 7 Try.f7 rfl rfl rfl rfl rfl rfl rfl ⟨rfl, rfl, rfl, rfl, rfl⟩ rfl rfl rfl rfl rfl (by kernel_rfl) Try.func7 (by kernel_rfl)
    (of_decide_eq_true (by kernel_rfl)) (by unfold Func.isWrapper; first | (rw [if_pos (by decide +kernel)]; kernel_rfl) | (rw [if_neg (by decide +kernel)]; exact ⟨rfl, rfl⟩))
    (fun os started H enc _ => lifted os started H enc)
end HyphLess
end Go.Proofs.Ytenajekmnggkeaa

