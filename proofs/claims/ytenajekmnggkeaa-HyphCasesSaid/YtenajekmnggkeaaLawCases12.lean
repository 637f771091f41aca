/- HyphCases: great letters are as small ones, and codes that are no letters ahead, and behind, move points alone. For every input, without a condition. -/
import Derived.Test.YtenajekmnggkeaaAwake12
import Derived.Test.YtenajekmnggkeaaCases12
import Derived.ChangeMaps5
namespace Go.Proofs.Ytenajekmnggkeaa
open Go.ChangeShapes Go.WideShapes Go.ChangeAt Go.RowKit
open Go.Lib hiding intOf
namespace HyphCases
open L10 (TN plainB patB tn rd patsB fewD fewp_any few_len)
open L11 (NewQ new_yes new_no)
open L12

/-- The ways out ahead of New. -/
theorem short (D : PatsD) (P : PatsP) (A : Option Addr) (m d : Nat) (great ahead : Int) (w : World) (sn : SeenPats w D P) (h : fewD D = false ∨ 40 < m) :
    Calls Try.prog 5 #[patsV D P, .slice A m d, .int .u64 great, .int .u8 ahead] w (Ret w (.bool true)) := by
  obtain ⟨V, hV⟩ : ∃ V, V = w.alloc (.cells #[.slice P.x D.l.length P.c, .slice P.y D.m.length P.d] 25) := ⟨_, rfl⟩
  have W0 : Ext w V := by rw [hV]; exact (Ext.refl _).alloc _
  have kB : Blk V w.heap.size 25 [.slice P.x D.l.length P.c, .slice P.y D.m.length P.d] := by rw [hV]; exact Blk.lit _ _ _ _ rfl
  obtain ⟨b, hb⟩ : ∃ b, fewD D = b := ⟨_, rfl⟩
  have FEW := Lib.hid (fun w' (x : Ext V w') => by have := fewp_any D P w' ((sn.ext W0).ext x); rw [hb] at this; exact this)
  have HB := Lib.hid (show b = false ∨ (b = true ∧ 40 < m) by
    cases b with
    | false => exact .inl rfl
    | true => exact .inr ⟨rfl, h.resolve_left (by rw [hb]; simp)⟩)
  have AW := Lib.hid (awake_any V)
  unfold patsV at FEW ⊢
  have HX := Lib.hid W0
  clear sn hb h W0
  generalize D.l.length = n at *
  generalize D.m.length = q at *
  obtain ⟨A, c, A2, d2⟩ := P
  dsimp only at *
  go_enter Try.func5, Try.ntmps5
  go_upto_region 1 with (fail)
  rw [← hV]
  clear hV
  have KB := Lib.hid kB
  generalize hR : w.heap.size = R at *
  clear hR kB
  go_wp2_with fail
  refine AW.out.mono ?_; rintro e w1 ⟨rfl, x1⟩
  have q0 := (KB.out.ext x1).cell 0
  have q1 := (KB.out.ext x1).cell 1
  dsimp only [List.getElem?_cons_zero, List.getElem?_cons_succ] at q0 q1
  have X1 := Lib.hid x1
  clear x1 AW
  go_wp2_with fail
  refine (FEW.out _ X1.out).mono ?_; rintro e w2 ⟨rfl, x2⟩
  have q0 := x2.at q0
  have q1 := x2.at q1
  have X2 := Lib.hid (X1.out.trans x2)
  clear x2 X1 FEW
  have FIN := Lib.hid (HX.out.trans X2.out)
  rcases HB.out with rfl | ⟨rfl, hs⟩
  all_goals
    clear X2 q0 q1 HB
    go_wp2_with fail
    go_ret
    exact ⟨rfl, FIN.out⟩
theorem none_ (D : PatsD) (P : PatsP) (ok : PatsOk D P) (A : Option Addr) (m d : Nat) (great ahead : Int) (hs : ¬ 40 < m) (w : World) (sn : SeenPats w D P) (hf : fewD D = true) (hp : patsB (rd D) = false) :
    Calls Try.prog 5 #[patsV D P, .slice A m d, .int .u64 great, .int .u8 ahead] w (Ret w (.bool true)) := by
  obtain ⟨f1, f2, f3⟩ := few_len hf
  obtain ⟨V, hV⟩ : ∃ V, V = w.alloc (.cells #[.slice P.x D.l.length P.c, .slice P.y D.m.length P.d] 25) := ⟨_, rfl⟩
  have W0 : Ext w V := by rw [hV]; exact (Ext.refl _).alloc _
  have kB : Blk V w.heap.size 25 [.slice P.x D.l.length P.c, .slice P.y D.m.length P.d] := by rw [hV]; exact Blk.lit _ _ _ _ rfl
  have FEW := Lib.hid (fun w' (x : Ext V w') => by have := fewp_any D P w' ((sn.ext W0).ext x); rw [hf] at this; exact this)
  have AW := Lib.hid (awake_any V)
  have HX := Lib.hid W0
  have NEW := Lib.hid (fun w' (x : Ext V w') => new_no D P ok.li ok.mi w' ((sn.ext W0).ext x) (by omega) (by omega) hp)
  unfold patsV at FEW NEW ⊢
  clear sn ok hp hf f1 f2 f3 W0
  generalize D.l.length = n at *
  generalize D.m.length = q at *
  obtain ⟨A, c, A2, d2⟩ := P
  dsimp only at *
  go_enter Try.func5, Try.ntmps5
  go_upto_region 1 with (fail)
  rw [← hV]
  clear hV
  have KB := Lib.hid kB
  generalize hR : w.heap.size = R at *
  clear hR kB
  go_wp2_with fail
  refine AW.out.mono ?_; rintro e w1 ⟨rfl, x1⟩
  have q0 := (KB.out.ext x1).cell 0
  have q1 := (KB.out.ext x1).cell 1
  dsimp only [List.getElem?_cons_zero, List.getElem?_cons_succ] at q0 q1
  have X1 := Lib.hid x1
  clear x1 AW
  go_wp2_with fail
  refine (FEW.out _ X1.out).mono ?_; rintro e w2 ⟨rfl, x2⟩
  have q0 := x2.at q0
  have q1 := x2.at q1
  have X2 := Lib.hid (X1.out.trans x2)
  clear x2 X1 FEW
  go_wp2_with fail
  refine (NEW.out _ X2.out).mono ?_; rintro e w3 ⟨rfl, x3⟩
  have X3 := Lib.hid ((HX.out.trans X2.out).trans x3)
  clear x3 NEW q0 q1
  go_wp2_with fail
  go_ret
  exact ⟨rfl, X3.out⟩
theorem points_few {p : List TN} {u : List Int} {left right : Int} : (pointsL p [] u left right).length ≤ 60 := by
  cases hb : coreB u with
  | false => rw [points_no hb]; simp
  | true =>
    rw [points_yes hb, List.length_map]
    refine Nat.le_trans (List.length_filter_le _ _) ?_
    show (oddL p (coreL u)).length ≤ 60
    unfold oddL
    rw [List.length_map]
    refine Nat.le_trans (List.length_filter_le _ _) ?_
    rw [List.length_range]
    have := core_most u
    omega
set_option maxRecDepth 100000 in
set_option maxHeartbeats 16000000 in
theorem main (D : PatsD) (P : PatsP) (ok : PatsOk D P) (A : Option Addr) (l : List UInt8) (m d : Nat) (great ahead : Int) (hm : m = l.length) (hm1 : m ≤ 40) (ho : 0 ≤ ahead ∧ ahead ≤ 255)
    (w : World) (sn : SeenPats w D P) (sl : SeenB w A l) (hf : fewD D = true) (hp : patsB (rd D) = true) :
    Calls Try.prog 5 #[patsV D P, .slice A m d, .int .u64 great, .int .u8 ahead] w (Ret w (.bool true)) := by
  obtain ⟨f1, f2, f3⟩ := few_len hf
  obtain ⟨V, hV⟩ : ∃ V, V = w.alloc (.cells #[.slice P.x D.l.length P.c, .slice P.y D.m.length P.d] 25) := ⟨_, rfl⟩
  have W0 : Ext w V := by rw [hV]; exact (Ext.refl _).alloc _
  have kB : Blk V w.heap.size 25 [.slice P.x D.l.length P.c, .slice P.y D.m.length P.d] := by rw [hV]; exact Blk.lit _ _ _ _ rfl
  have FEW := Lib.hid (fun w' (x : Ext V w') => by have := fewp_any D P w' ((sn.ext W0).ext x); rw [hf] at this; exact this)
  have AW := Lib.hid (awake_any V)
  have HX := Lib.hid W0
  have NEW := Lib.hid (fun w' (x : Ext V w') => new_yes D P ok.li ok.mi w' ((sn.ext W0).ext x) (by omega) (by omega) hp)
  have SL := Lib.hid (fun w' (x : Ext V w') => SeenB.ext (sl.ext W0) x)
  obtain ⟨na, hna⟩ : ∃ na : Nat, (na : Int) = ahead % 10 := ⟨(ahead % 10).toNat, by omega⟩
  have hna9 : na ≤ 9 := by omega
  have et : ahead.tmod 10 = na := by rw [Int.tmod_eq_emod_of_nonneg ho.1, hna]
  have LE := Lib.hid (fun b => letN_small b)
  unfold patsV at FEW NEW ⊢
  generalize D.l.map tn = p at *
  generalize D.l.length = n at *
  generalize D.m.length = q at *
  obtain ⟨PA, Pc, PA2, Pd⟩ := P
  dsimp only at kB hV FEW NEW ⊢
  have HM := Lib.hid hm
  clear sn ok hp hf f1 f2 f3 W0 sl hm hna
  have c1 : IntKind.i64.wrap (na : Int) = na := IntWalk.i64_in _ (by omega)
  have c2 : IntKind.u8.wrap (na : Int) = na := u8_in _ (by omega)
  have hm64 : (m : Int) ≤ 40 := by omega
  have hn64 : (na : Int) ≤ 9 := by omega
  go_enter Try.func5, Try.ntmps5
  go_upto_region 1 with (fail)
  rw [← hV]
  clear hV
  have KB := Lib.hid kB
  generalize hR : w.heap.size = R at *
  clear hR kB
  go_wp2_with fail
  refine AW.out.mono ?_; rintro e w1 ⟨rfl, x1⟩
  have q0 := (KB.out.ext x1).cell 0
  have q1 := (KB.out.ext x1).cell 1
  dsimp only [List.getElem?_cons_zero, List.getElem?_cons_succ] at q0 q1
  have X1 := Lib.hid x1
  clear x1 AW
  go_wp2_with fail
  refine (FEW.out _ X1.out).mono ?_; rintro e w2 ⟨rfl, x2⟩
  have q0 := x2.at q0
  have q1 := x2.at q1
  have X2 := Lib.hid (X1.out.trans x2)
  clear x2 X1 FEW
  go_wp2_with fail
  refine (NEW.out _ X2.out).mono ?_; rintro e w3 hq
  obtain ⟨B, rfl, s3, x3, _⟩ := St.new X2.out hq
  have S3 := Lib.hid s3
  clear x3 X2 NEW hq s3 q0 q1
  go_wp2_with fail
  go_loopw [14, 15] (fun v i wr => ∃ (vv : Value) (k : Nat), vv = v ∧ k ≤ na ∧ i = .int .i64 k ∧ Hid (Two w3 wr vv (.slice none 0 0) ((List.range k).map fun (j : Nat) => 48 + (j : Int)) [])) (fun _ i _ => na - (intOf i).toNat)
  case atStart => exact ⟨_, 0, rfl, Nat.zero_le _, rfl, Lib.hid (Two.nil w3)⟩
  case round =>
    obtain ⟨vv, k, hvv, hk, rfl, ho⟩ := hrel
    subst hvv
    by_cases hlt : k < na
    · have cw : IntKind.i64.wrap (48 + (k : Int)) = 48 + k := IntWalk.i64_in _ (by omega)
      obtain ⟨v3, w6, g3, o3⟩ := ho.out.put (48 + (k : Int)) (by simp; omega) 26
      have O3 := Lib.hid (show Two w3 w6 v3 (.slice none 0 0) ((List.range (k + 1)).map fun (j : Nat) => 48 + (j : Int)) [] by rw [List.range_succ, List.map_append]; exact o3)
      clear o3
      go_wp2_with (at_builtin; refine wpList_ran rfl _ _ rfl g3 ?_)
      go_roundw
      case rel => exact ⟨_, k + 1, rfl, by omega, by go_num, O3⟩
      case measure => simp [intOf]; omega
    · obtain rfl : k = na := by omega
      obtain ⟨wo, hwo⟩ : ∃ wo : World, wo = wr := ⟨_, rfl⟩
      subst hwo
      have HPL := Lib.hid (show ((List.range k).map fun (j : Nat) => 48 + (j : Int)).length = k by simp)
      have HPN := Lib.hid (show ∀ c ∈ ((List.range k).map fun (j : Nat) => 48 + (j : Int)), isL c = false from fun c hc => by
        obtain ⟨j, hj, rfl⟩ := List.mem_map.1 hc
        rw [List.mem_range] at hj
        exact isL_no (by omega))
      generalize ((List.range k).map fun (j : Nat) => 48 + (j : Int)) = pre at *
      go_wp2_with fail
      go_loopw [13, 14, 16] (fun u v i wr => ∃ (vu vv : Value) (j : Nat) (mid : List Int), vu = u ∧ vv = v ∧ j ≤ m ∧ i = .int .i64 j ∧ Hid (SameLet ((l.take j).map letN) mid) ∧ Hid (Two w3 wr vv vu (pre ++ mid) ((l.take j).map letN))) (fun _ _ i _ => m - (intOf i).toNat)
      case atStart => exact ⟨_, _, 0, [], rfl, rfl, Nat.zero_le _, rfl, Lib.hid SameLet.nil, Lib.hid (by rw [List.append_nil]; exact ho.out)⟩
      case round =>
        clear ho
        obtain ⟨vu, vv, j, mid, hvu, hvv, hj, rfl, hal, ho⟩ := hrel
        subst hvu hvv
        by_cases hlt : j < m
        · have hjl : j < l.length := by rw [← HM.out]; exact hlt
          obtain ⟨ad, rfl, _, hc⟩ := (SL.out _ (S3.out.x.trans ho.out.x)).get hjl
          have ET := Lib.hid (show (l.take (j + 1)).map letN = (l.take j).map letN ++ [letN l[j]] by rw [List.take_succ_eq_append_getElem hjl, List.map_append]; rfl)
          have hbt := l[j].toNat_lt
          have HLE := Lib.hid (LE.out l[j])
          have hlen1 := (show ((l.take j).map letN).length = j by rw [List.length_map, List.length_take]; omega)
          have hlen2 := hal.out.len
          have e1 : ((l[j].toNat : Int)).tmod 26 = (l[j].toNat : Int) % 26 := Int.tmod_eq_emod_of_nonneg (by omega)
          have e2 : letN l[j] = 97 + (l[j].toNat : Int) % 26 := rfl
          generalize letN l[j] = c at *
          generalize (l[j].toNat : Int) = bt at *
          obtain ⟨r, hr⟩ : ∃ r, bt % 26 = r := ⟨_, rfl⟩
          rw [hr] at e1 e2
          have c3 : IntKind.u8.wrap r = r := u8_in _ (by omega)
          have c4 : IntKind.i64.wrap r = r := IntWalk.i64_in _ (by omega)
          have c5 : IntKind.i64.wrap (97 + r) = c := by rw [IntWalk.i64_in _ (by omega), e2]
          have c6 : IntKind.i64.wrap (c - 32) = c - 32 := IntWalk.i64_in _ (by omega)
          clear hr e2 hbt
          obtain ⟨v3, w6, g3, o3⟩ := ho.out.swap.put c (by omega) 26
          cases hbit : ((great / 2 ^ j).tmod 2 == 1) with
          | true =>
            obtain ⟨v4, w7, g4, o4⟩ := o3.swap.put (c - 32) (by rw [List.length_append, HPL.out, hlen2, hlen1]; omega) 26
            have O4 := Lib.hid (show Two w3 w7 v4 v3 (pre ++ (mid ++ [c - 32])) ((l.take (j + 1)).map letN) by rw [← List.append_assoc, ET.out]; exact o4)
            have AL := Lib.hid (show SameLet ((l.take (j + 1)).map letN) (mid ++ [c - 32]) by rw [ET.out]; exact hal.out.snoc (by rw [HLE.out.2.2.1, HLE.out.1]) HLE.out.2.1 HLE.out.2.2.2)
            clear o3 o4 hlen1 hlen2
            go_wp2_with (first | (at_builtin; refine wpList_ran rfl _ _ rfl g3 ?_) | (at_builtin; refine wpList_ran rfl _ _ rfl g4 ?_))
            go_roundw
            case rel => exact ⟨_, _, j + 1, mid ++ [c - 32], rfl, rfl, by omega, by go_num, AL, O4⟩
            case measure => simp [intOf]; omega
          | false =>
            obtain ⟨v4, w7, g4, o4⟩ := o3.swap.put c (by rw [List.length_append, HPL.out, hlen2, hlen1]; omega) 26
            have O4 := Lib.hid (show Two w3 w7 v4 v3 (pre ++ (mid ++ [c])) ((l.take (j + 1)).map letN) by rw [← List.append_assoc, ET.out]; exact o4)
            have AL := Lib.hid (show SameLet ((l.take (j + 1)).map letN) (mid ++ [c]) by rw [ET.out]; exact hal.out.snoc rfl HLE.out.2.1 HLE.out.2.1)
            clear o3 o4 hlen1 hlen2
            go_wp2_with (first | (at_builtin; refine wpList_ran rfl _ _ rfl g3 ?_) | (at_builtin; refine wpList_ran rfl _ _ rfl g4 ?_))
            go_roundw
            case rel => exact ⟨_, _, j + 1, mid ++ [c], rfl, rfl, by omega, by go_num, AL, O4⟩
            case measure => simp [intOf]; omega
        · obtain rfl : j = m := by omega
          obtain ⟨wo, hwo⟩ : ∃ wo : World, wo = wr := ⟨_, rfl⟩
          subst hwo
          have hal := hal.out
          have ho := ho.out
          rw [List.take_of_length_le (by rw [← HM.out]; omega)] at hal ho
          have HAL := Lib.hid (show (l.map letN).length = j by rw [List.length_map, ← HM.out])
          obtain ⟨v3, w6, g3, o3⟩ := (ho.over ((Ext.refl wo).alloc (.cells #[.int .i64 46, .int .i64 41] 3))).puts _ [46, 41] 2 2 (seen_new wo [.int .i64 46, .int .i64 41] 3) rfl (by rw [List.length_append, HPL.out, hal.len, HAL.out]; simp; omega) 26
          obtain ⟨h1, h2, h3, h4⟩ := alike_points hal HPN.out (b := [46, 41]) (fun c hc => by
            simp only [List.mem_cons, List.not_mem_nil, or_false] at hc
            exact isL_no (by omega)) (by rw [HAL.out]; exact hm1) p 1 1
          have H1 := Lib.hid h1
          have H2 := Lib.hid h2
          have H3 := Lib.hid h3
          have H4 := Lib.hid h4
          obtain ⟨Ab, cb, rfl, kb1, kb2, sb, ab⟩ := o3.seen
          obtain ⟨Aa, ca, rfl, ka1, ka2, sa, aa⟩ := o3.swap.seen
          have XO := Lib.hid o3.x
          have KA := Lib.hid (show Kept w6 B Aa (l.map letN) from ⟨sa, fun ad e => by have := aa ad e; have := S3.out.lt; omega⟩)
          have KC := Lib.hid (show Kept w6 B Ab (pre ++ mid ++ [46, 41]) from ⟨sb, fun ad e => by have := ab ad e; have := S3.out.lt; omega⟩)
          have S6 := Lib.hid (S3.out.ext o3.x)
          have RA := Lib.hid (And.intro ka1 ka2)
          have RB := Lib.hid (And.intro kb1 kb2)
          clear h1 h2 h3 h4 sa sb aa ab ka1 ka2 kb1 kb2 o3 hal ho
          generalize pre ++ mid ++ [46, 41] = lb at *
          generalize l.map letN = la at *
          go_wp2_with (at_builtin; refine wpList_ran rfl _ _ rfl g3 ?_)
          have HPX := Lib.hid (fun v => bare_mem (p := p) (u := la) (left := 1) (right := 1) (v := v))
          have HPS := Lib.hid (points_few (p := p) (u := la) (left := 1) (right := 1))
          have HCI := Lib.hid (core_in la)
          have HCM := Lib.hid (core_most la)
          refine (S6.out.bare Aa la la.length ca 1 1 KA.out.1 rfl RA.out.1 RA.out.2).mono ?_; rintro e w7 ⟨s7, b7, Ax, cx, rfl, kx⟩
          have S7 := Lib.hid s7
          have KC := Lib.hid (KC.out.ask b7)
          have KA := Lib.hid (KA.out.ask b7)
          have KX := Lib.hid kx
          clear s7 b7 kx S6
          go_wp2_with fail
          refine (S7.out.bare Ab lb lb.length cb 1 1 KC.out.1 rfl RB.out.1 RB.out.2).mono ?_; rintro e w8 ⟨s8, b8, Ay, cy, rfl, ky⟩
          rw [H4.out] at ky ⊢
          rw [List.length_map]
          have XF := Lib.hid (HX.out.trans s8.x)
          have S8 := Lib.hid s8.x
          have KC := Lib.hid (KC.out.ask b8).1
          have KA := Lib.hid (KA.out.ask b8).1
          have KX := Lib.hid (KX.out.ask b8).1
          have KY := Lib.hid ky.1
          clear s8 b8 ky S7
          generalize hpx : pointsL p [] la 1 1 = px at *
          clear hpx
          obtain ⟨zx, hzx⟩ : ∃ zx, zx = px.length := ⟨_, rfl⟩
          have HZX := Lib.hid hzx
          rw [← hzx]
          clear hzx
          have hz64 : (zx : Int) ≤ 60 := by have := HPS.out; have := HZX.out; omega
          go_wp2_with fail
          go_loopw [20] (fun i wr => ∃ a : Nat, a ≤ zx ∧ i = .int .i64 a ∧ Hid (Ext w8 wr)) (fun i _ => zx - (intOf i).toNat)
          case atStart => exact ⟨0, Nat.zero_le _, rfl, Lib.hid (Ext.refl _)⟩
          case round =>
            obtain ⟨a, ha, rfl, X⟩ := hrel
            by_cases hlt : a < zx
            · have hal : a < px.length := by rw [← HZX.out]; exact hlt
              obtain ⟨ad, rfl, hx⟩ := (KX.out.ext X.out).get hal
              obtain ⟨ad2, rfl, hy⟩ := (KY.out.ext X.out).get (k := a) (by rw [List.length_map]; exact hal)
              have e1 : (px.map fun x => x + (pre.length : Int)).getD a 0 = px.getD a 0 + k := by simp [List.getD, hal, HPL.out]
              rw [e1] at hy
              obtain ⟨v1, v2, _, _⟩ := HPX.out (px.getD a 0) (by rw [List.getD, List.getElem?_eq_getElem hal]; exact List.getElem_mem hal)
              have hci := HCI.out
              have hcm := HCM.out
              have hla := HAL.out
              generalize px.getD a 0 = v at *
              have cw : IntKind.i64.wrap (v + (k : Int)) = v + k := IntWalk.i64_in _ (by omega)
              clear e1 v1 v2 hci hcm hla
              go_wp2_with fail
              go_quiet (fail)
              go_wp2_with fail
              go_roundw
              case rel => exact ⟨a + 1, by omega, by go_num, Lib.hid (X.out.drewN _)⟩
              case measure => simp [intOf]; omega
            · obtain rfl : a = zx := by omega
              obtain ⟨wo, hwo⟩ : ∃ wo : World, wo = wr := ⟨_, rfl⟩
              subst hwo
              have CA := Lib.hid (core_any Aa la la.length ca wo (KA.out.ext X.out) rfl RA.out.1 RA.out.2)
              have CB := Lib.hid (fun w' (x : Ext w8 w') => core_any Ab lb lb.length cb w' (KC.out.ext x) rfl RB.out.1 RB.out.2)
              rw [H1.out] at CB
              obtain ⟨s, hs⟩ : ∃ s : ByteArray, s = ⟨(coreL la).toArray⟩ := ⟨_, rfl⟩
              have hsz : s.size = j := by rw [hs]; exact H2.out.trans HAL.out
              rw [← hs] at CA CB
              have H3 := Lib.hid (show j = 0 ∨ coreN lb = k by
                by_cases h : la = []
                · left; rw [← HAL.out, h]; rfl
                · right; rw [H3.out h, HPL.out])
              generalize coreN la = na2 at *
              generalize coreN lb = nb2 at *
              clear hs
              have HSZ := Lib.hid hsz
              clear hsz
              go_wp2_with fail
              refine CA.out.mono ?_; rintro e w9 ⟨rfl, x9⟩
              have X9 := Lib.hid (X.out.trans x9)
              clear CA x9
              go_wp2_with fail
              refine (CB.out _ X9.out).mono ?_; rintro e w10 ⟨rfl, x10⟩
              have X10 := Lib.hid (XF.out.trans (X9.out.trans x10))
              clear CB x10
              have hsz : ((s.size : Int) == (j : Int)) = true := by rw [HSZ.out]; simp
              by_cases h0 : j = 0
              · have g0 : ((j : Int) == 0) = true := by rw [h0]; rfl
                clear h0
                go_wp2_with fail
                go_ret
                exact ⟨rfl, X10.out⟩
              · have g0 : ((j : Int) == 0) = false := by simp; exact h0
                have g1 := H3.out.resolve_left h0
                have g2 : ((nb2 : Int) == (k : Int)) = true := by rw [g1]; simp
                clear h0 g1
                go_wp2_with fail
                go_ret
                exact ⟨rfl, X10.out⟩
theorem walk (D : PatsD) (P : PatsP) (ok : PatsOk D P) (A : Option Addr) (l : List UInt8) (c : Nat) (_ : l.length ≤ c) (_ : c ≤ maxLen) (great : Int) (_ : 0 ≤ great ∧ great ≤ 18446744073709551615) (ahead : Int) (ho : 0 ≤ ahead ∧ ahead ≤ 255)
    (w : World) (sn : SeenPats w D P) (sl : SeenB w A l) :
    Calls Try.prog 5 #[patsV D P, .slice A l.length c, .int .u64 great, .int .u8 ahead] w (Ret w (.bool true)) := by
  cases hf : fewD D with
  | false => exact short D P A l.length c great ahead w sn (.inl hf)
  | true =>
    by_cases h1 : l.length ≤ 40
    · cases hp : patsB (rd D) with
      | false => exact none_ D P ok A l.length c great ahead (by omega) w sn hf hp
      | true => exact main D P ok A l l.length c great ahead rfl h1 ho w sn sl hf hp
    · exact short D P A l.length c great ahead w sn (.inr (by omega))

set_option maxRecDepth 100000 in
theorem lifted (os : Os) (started : os.Started) (H : Type) (enc : TypeId × Value → H) :
    ReturnsInHanded {} Try.checked os 5 .any (Rows.hyphCasesSpec.pre6 enc Try.prog Try.f5 [] false) (Rows.hyphCasesSpec.post enc Try.prog Try.f5 false true false false) := by
  refine law_lift (C := Try.checked) own started (by kernel_rfl) Try.func5 laidOut rfl rfl Try.underlying4 (by kernel_rfl) ?_
    (ChangeSpec.witness6 (enc := enc) (C := Try.checked) false ⟨#[], #[.agg #[.slice none 0 0, .slice none 0 0], .slice none 0 0, .int .u64 0, .int .u8 0], []⟩ 8 (by kernel_rfl) (by kernel_rfl) (by kernel_rfl) (by kernel_rfl)) ?_
  · intro H ds h
    match ds, h with
    | [_, _, _, _], _ => rfl
  · intro W base args ds p hval hA hlt hwt hsh
    rw [Try.params5] at hA hval
    obtain ⟨v0, vs0, d0, ds0, p0, q0, hargs, rfl, rfl, h0, r0⟩ := trodAll_cons hA
    obtain ⟨v1, vs1, d1, ds1, p1, q1, rfl, rfl, rfl, h1, r1⟩ := trodAll_cons r0
    obtain ⟨v2, vs2, d2, ds2, p2, q2, rfl, rfl, rfl, h2, r2⟩ := trodAll_cons r1
    obtain ⟨v3, vs3, d3, ds3, p3, q3, rfl, rfl, rfl, h3, r3⟩ := trodAll_cons r2
    obtain ⟨rfl, rfl, rfl⟩ := trodAll_nil r3
    obtain rfl : args = #[v0, v1, v2, v3] := by cases args; simp_all
    obtain ⟨D0, P0, rfl, ok0, hs0⟩ := arg_pats (hval 0 25 v0 rfl rfl) h0
    obtain ⟨A1, l1, c1, rfl, hc1, hm1, hs1⟩ := seen_bytes Try.underlying41 Try.underlying5 (by kernel_rfl) (hval 1 41 v1 rfl rfl) h1
    obtain ⟨a2, rfl, rfl, rfl, wf2⟩ := open_int Try.underlying42 (hval 2 42 v2 rfl rfl) h2
    obtain ⟨a3, rfl, rfl, rfl, wf3⟩ := open_int Try.underlying5 (hval 3 5 v3 rfl rfl) h3
    exact walk D0 P0 ok0 A1 l1 c1 hc1 hm1 a2 (bounds_u64 wf2) a3 (bounds_u8 wf3) W hs0 hs1

theorem holds : Rows.HyphCasesSaid :=
  OpenClaim.holds_of_wide 5 Try.f5 rfl rfl rfl rfl rfl rfl rfl ⟨rfl, rfl, rfl, rfl, rfl⟩ rfl rfl rfl rfl rfl (by kernel_rfl) Try.func5 (by kernel_rfl)
    (of_decide_eq_true (by kernel_rfl)) (by unfold Func.isWrapper; first | (rw [if_pos (by decide +kernel)]; kernel_rfl) | (rw [if_neg (by decide +kernel)]; exact ⟨rfl, rfl⟩))
    (fun os started H enc _ => lifted os started H enc)
end HyphCases
end Go.Proofs.Ytenajekmnggkeaa

