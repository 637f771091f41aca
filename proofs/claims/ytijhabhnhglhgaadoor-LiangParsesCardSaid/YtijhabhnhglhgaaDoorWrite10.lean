/- The landed Write of layer 10. -/
import Derived.Test.YtijhabhnhglhgaaDoorCheck10
import Derived.Test.YtijhabhnhglhgaaDoorLandH10
namespace Go.Proofs.YtijhabhnhglhgaaDoor
open Go.RowKit
namespace L10

def writeR (q : LL) : List UInt8 × Int := if patsB q = true then (writeL q, 0) else ([], 100)
/-- What Write answers. -/
def WrQ (w : World) (r : List UInt8 × Int) (e : Ending) (w' : World) : Prop :=
  Ext w w' ∧ ∃ A c, e = .returned (.tuple #[.slice A r.1.length c, .int .i64 r.2]) ∧ r.1.length ≤ c ∧ c ≤ maxLen ∧ SeenB w' A r.1
theorem linesP_take {l : List WP} {k : Nat} (h : k < l.length) : linesP ((l.take (k + 1)).map tn) = linesP ((l.take k).map tn) ++ wordL (tn l[k]) ++ [10] := by
  rw [List.take_succ_eq_append_getElem h, List.map_append]
  simp only [linesP, List.flatMap_append, List.map_cons, List.map_nil, List.flatMap_cons, List.flatMap_nil, List.append_nil, List.append_assoc]
theorem linesE_take {l : List WP} {k : Nat} (h : k < l.length) : linesE ((l.take (k + 1)).map tn) = linesE ((l.take k).map tn) ++ partL (tn l[k]) ++ [10] := by
  rw [List.take_succ_eq_append_getElem h, List.map_append]
  simp only [linesE, List.flatMap_append, List.map_cons, List.map_nil, List.flatMap_cons, List.flatMap_nil, List.append_nil, List.append_assoc]
theorem patsB_parts {D : PatsD} (h : patsB (rd D) = true) : D.l.length + D.m.length ≤ 300 ∧ (∀ x ∈ D.l, patB (tn x) = true) ∧ (∀ x ∈ D.m, excB (tn x) = true) := by
  rw [patsB_rd] at h
  simp only [Bool.and_eq_true, decide_eq_true_eq, List.all_eq_true] at h
  exact ⟨h.1, h.2.1, h.2.2⟩
theorem own_bytes {t : TypeId} {w0 w : World} {v : Value} {l : List UInt8} (h : OwnB t w0 w v l) : ∃ A c, v = .slice A l.length c ∧ l.length ≤ c ∧ c ≤ maxLen ∧ SeenB w A l := by
  obtain ⟨A, c, rfl, h1, h2, hs⟩ := row_slice h.1
  exact ⟨A, c, rfl, h1, h2, hs⟩

set_option maxRecDepth 100000 in
set_option maxHeartbeats 4000000 in
theorem write_any (D : PatsD) (P : PatsP) (lok : ∀ x ∈ D.l, x.Ok) (mok : ∀ x ∈ D.m, x.Ok) (w : World) (sn : SeenPats w D P) (hl : D.l.length ≤ 1000000) (hm : D.m.length ≤ 1000000) : Calls Tryd.prog 14 #[patsV D P] w (WrQ w (writeR (rd D))) := by
  obtain ⟨l, m⟩ := D
  obtain ⟨A, c, B, d⟩ := P
  obtain ⟨V, hV⟩ : ∃ V, V = w.alloc (.cells #[.slice A l.length c, .slice B m.length d] 27) := ⟨_, rfl⟩
  have W0 : Ext w V := by rw [hV]; exact (Ext.refl _).alloc _
  have kB : Blk V w.heap.size 27 [.slice A l.length c, .slice B m.length d] := by rw [hV]; exact Blk.lit _ _ _ _ rfl
  have CK := Lib.hid (check_any ⟨l, m⟩ ⟨A, c, B, d⟩ lok mok V (sn.ext W0) hl hm)
  have SL := Lib.hid (fun w' (x : Ext V w') => ((sn.ext W0).ext x).l)
  have SM := Lib.hid (fun w' (x : Ext V w') => ((sn.ext W0).ext x).m)
  have PARTS := Lib.hid (fun h : patsB (rd ⟨l, m⟩) = true => patsB_parts h)
  obtain ⟨r, hr⟩ : ∃ r, writeR (rd ⟨l, m⟩) = r := ⟨_, rfl⟩
  rw [hr]
  have HR := Lib.hid hr
  unfold patsV at CK ⊢
  obtain ⟨n, hn⟩ : ∃ n, n = l.length := ⟨_, rfl⟩
  obtain ⟨q, hq⟩ : ∃ q, q = m.length := ⟨_, rfl⟩
  dsimp only at SL SM CK PARTS ⊢
  rw [← hn] at hV kB CK PARTS ⊢
  rw [← hq] at hV kB CK PARTS ⊢
  have HN := Lib.hid hn
  have HQ := Lib.hid hq
  clear hr hn hq lok mok sn hl hm
  go_enter Tryd.func14, Tryd.ntmps14
  go_upto_region 1 with (fail)
  rw [← hV]
  clear hV
  generalize w.heap.size = Bx at *
  have HX := Lib.hid W0
  clear W0
  have q0 : V.cell? ⟨Bx, 0, none⟩ = some (.slice A n c) := kB.cell 0
  have q1 : V.cell? ⟨Bx, 1, none⟩ = some (.slice B q d) := kB.cell 1
  go_wp2_with fail
  refine CK.out.mono ?_; rintro e w1 ⟨rfl, x1⟩
  clear CK
  have q0 := x1.at q0
  have q1 := x1.at q1
  have HX1 := Lib.hid x1
  clear x1
  cases hb : patsB (rd ⟨l, m⟩) with
  | false =>
    have HF := Lib.hid (show r = ([], 100) by rw [← HR.out, writeR, hb]; rfl)
    clear hb PARTS
    go_wp2_with fail
    go_ret2
    rw [HF.out]
    exact ⟨HX.out.trans HX1.out, none, 0, rfl, by simp, by simp [maxLen], SeenB.nil⟩
  | true =>
  obtain ⟨hnq, hpl, hpm⟩ := PARTS.out hb
  have HF := Lib.hid (show r = (linesP (l.map tn) ++ linesE (m.map tn), 0) by rw [← HR.out, writeR, hb]; rfl)
  have HPL := Lib.hid hpl
  have HPM := Lib.hid hpm
  have hn64 : (n : Int) ≤ 300 := by omega
  have hq64 : (q : Int) ≤ 300 := by omega
  clear hb PARTS hpl hpm HR
  go_wp2_with fail
  go_loopw [4, 15] (fun v i wr => ∃ (vv : Value) (k : Nat), vv = v ∧ k ≤ n ∧ i = .int .i64 k ∧ Hid (OwnB 5 w1 wr vv (linesP ((l.take k).map tn))) ∧ Hid ((linesP ((l.take k).map tn)).length ≤ 100 * k)) (fun _ i _ => n - (intOf i).toNat)
  case atStart => exact ⟨_, 0, rfl, Nat.zero_le _, rfl, Lib.hid (by exact OwnB.nil _ _ _ (Ext.refl _)), Lib.hid (by simp [linesP])⟩
  case round =>
    obtain ⟨vv, k, hvv, hk, rfl, ho, hlen⟩ := hrel
    subst hvv
    have g0 := ho.out.2.at q0
    have g1 := ho.out.2.at q1
    by_cases hlt : k < n
    · have hlt' : k < l.length := by rw [← HN.out]; exact hlt
      obtain ⟨⟨ad, rfl, e0, e1⟩, hsn⟩ := (SL.out wr (HX1.out.trans ho.out.2)).get hlt'
      have hok := HPL.out l[k] (List.getElem_mem hlt')
      have HT := Lib.hid (linesP_take hlt')
      have hk64 : (k : Int) < (n : Int) := by omega
      generalize l[k] = x at *
      obtain ⟨s, ns, A', c'⟩ := x
      have hwl := wordL_length hok
      have C := Lib.hid (pword_any ⟨s, ns, A', c'⟩ hok _ (SeenL.ext hsn ((Ext.refl wr).alloc (.cells #[.string s, .slice A' ns.length c'] 42))))
      unfold wpV at C
      dsimp only at C e0 e1
      have O1 := Lib.hid (ho.out.over ((Ext.refl wr).alloc (.cells #[.string s, .slice A' ns.length c'] 42)))
      have hl1 := hlen.out
      clear hsn hok ho hlen
      go_wp2_with fail
      refine C.out.mono ?_; rintro e w2 ⟨rfl, x2⟩
      obtain ⟨pw, hpw⟩ : ∃ pw : ByteArray, pw = ⟨(wordL (tn ⟨s, ns, A', c'⟩)).toArray⟩ := ⟨_, rfl⟩
      rw [← hpw]
      have hpd : pw.data.toList = wordL (tn ⟨s, ns, A', c'⟩) := by rw [hpw]
      have hpz : pw.size ≤ 85 := by rw [← list_len, hpd]; exact hwl
      obtain ⟨v3, w3, r3, o3⟩ := run_str (O1.out.over x2) pw (by omega) 22
      obtain ⟨v4, w4, r4, o4⟩ := run_byte (o3.over ((Ext.refl w3).alloc (.cells #[.int .u8 10] 5))) _ 10 (seenB_one w3 5 _ 10 rfl) (by rw [List.length_append, list_len]; omega) 22
      rw [hpd] at o4
      have O4 := Lib.hid o4
      have HL := Lib.hid (show (linesP ((l.take k).map tn) ++ wordL (tn ⟨s, ns, A', c'⟩) ++ [10]).length ≤ 100 * (k + 1) by rw [List.length_append, List.length_append]; simp only [List.length_cons, List.length_nil]; omega)
      clear C hpw hpd x2 o3 o4
      go_wp2_with (first | (at_builtin; refine wpList_ranS rfl _ _ rfl r3 ?_) | (at_builtin; refine wpList_ran rfl _ _ rfl r4 ?_))
      go_roundw
      case rel => exact ⟨_, k + 1, rfl, by omega, by go_num, Lib.hid (by rw [HT.out]; exact O4.out), Lib.hid (by rw [HT.out]; exact HL.out)⟩
      case measure => simp [intOf]; omega
    · obtain rfl : k = n := by omega
      have e : l.take k = l := by rw [HN.out, List.take_length]
      rw [e] at ho hlen
      have HO := Lib.hid (show OwnB 5 w1 wr vv (linesP (l.map tn) ++ linesE ((m.take 0).map tn)) by simpa [linesE] using ho.out)
      have HLN := Lib.hid (show (linesP (l.map tn) ++ linesE ((m.take 0).map tn)).length ≤ 100 * k + 100 * 0 by simpa [linesE] using hlen.out)
      clear ho hlen e
      obtain ⟨wo, rfl⟩ : ∃ wo : World, wo = wr := ⟨_, rfl⟩
      go_wp2_with fail
      go_loopw [4, 29] (fun v i wr => ∃ (vv : Value) (j : Nat), vv = v ∧ j ≤ q ∧ i = .int .i64 j ∧ Hid (OwnB 5 w1 wr vv (linesP (l.map tn) ++ linesE ((m.take j).map tn))) ∧ Hid ((linesP (l.map tn) ++ linesE ((m.take j).map tn)).length ≤ 100 * k + 100 * j)) (fun _ i _ => q - (intOf i).toNat)
      case atStart => exact ⟨_, 0, rfl, Nat.zero_le _, rfl, HO, HLN⟩
      case round =>
        obtain ⟨v5, j, hv5, hj, rfl, ho, hlen⟩ := hrel
        subst hv5
        have g0 := ho.out.2.at q0
        have g1 := ho.out.2.at q1
        by_cases hlt2 : j < q
        · have hlt' : j < m.length := by rw [← HQ.out]; exact hlt2
          obtain ⟨⟨ad, rfl, e0, e1⟩, hsn⟩ := (SM.out wr (HX1.out.trans ho.out.2)).get hlt'
          have hok := HPM.out m[j] (List.getElem_mem hlt')
          have HT := Lib.hid (linesE_take hlt')
          have hj64 : (j : Int) < (q : Int) := by omega
          generalize m[j] = x at *
          obtain ⟨s, ns, A', c'⟩ := x
          have hwl := partL_length hok
          have C := Lib.hid (eword_any ⟨s, ns, A', c'⟩ hok _ (SeenL.ext hsn ((Ext.refl wr).alloc (.cells #[.string s, .slice A' ns.length c'] 45))))
          unfold wpV at C
          dsimp only at C e0 e1
          have O1 := Lib.hid (ho.out.over ((Ext.refl wr).alloc (.cells #[.string s, .slice A' ns.length c'] 45)))
          have hl1 := hlen.out
          clear hsn hok ho hlen
          go_wp2_with fail
          refine C.out.mono ?_; rintro e w2 ⟨rfl, x2⟩
          obtain ⟨pw, hpw⟩ : ∃ pw : ByteArray, pw = ⟨(partL (tn ⟨s, ns, A', c'⟩)).toArray⟩ := ⟨_, rfl⟩
          rw [← hpw]
          have hpd : pw.data.toList = partL (tn ⟨s, ns, A', c'⟩) := by rw [hpw]
          have hpz : pw.size ≤ 80 := by rw [← list_len, hpd]; exact hwl
          obtain ⟨v3, w3, r3, o3⟩ := run_str (O1.out.over x2) pw (by omega) 22
          obtain ⟨v4, w4, r4, o4⟩ := run_byte (o3.over ((Ext.refl w3).alloc (.cells #[.int .u8 10] 5))) _ 10 (seenB_one w3 5 _ 10 rfl) (by rw [List.length_append, list_len]; omega) 22
          rw [hpd] at o4
          have e9 : linesP (l.map tn) ++ linesE ((m.take (j + 1)).map tn) = linesP (l.map tn) ++ linesE ((m.take j).map tn) ++ partL (tn ⟨s, ns, A', c'⟩) ++ [10] := by rw [HT.out]; simp
          have O4 := Lib.hid (show OwnB 5 w1 w4 v4 (linesP (l.map tn) ++ linesE ((m.take (j + 1)).map tn)) by rw [e9]; exact o4)
          have HL := Lib.hid (show (linesP (l.map tn) ++ linesE ((m.take (j + 1)).map tn)).length ≤ 100 * k + 100 * (j + 1) by rw [e9, List.length_append, List.length_append]; simp only [List.length_cons, List.length_nil]; omega)
          clear C hpw hpd x2 o3 o4 e9
          go_wp2_with (first | (at_builtin; refine wpList_ranS rfl _ _ rfl r3 ?_) | (at_builtin; refine wpList_ran rfl _ _ rfl r4 ?_))
          go_roundw
          case rel => exact ⟨_, j + 1, rfl, by omega, by go_num, O4, HL⟩
          case measure => simp [intOf]; omega
        · obtain rfl : j = q := by omega
          have e : m.take j = m := by rw [HQ.out, List.take_length]
          rw [e] at ho
          obtain ⟨A9, c9, rfl, h91, h92, s9⟩ := own_bytes ho.out
          have HQQ := Lib.hid (show WrQ w r (.returned (.tuple #[.slice A9 (linesP (l.map tn) ++ linesE (m.map tn)).length c9, .int .i64 0])) wr from by
            rw [HF.out]
            exact ⟨(HX.out.trans HX1.out).trans ho.out.2, A9, c9, rfl, h91, h92, s9⟩)
          generalize (linesP (l.map tn) ++ linesE (m.map tn)).length = z at *
          clear ho s9 h91 e
          go_wp2_with fail
          go_ret2
          exact HQQ.out
end L10
end Go.Proofs.YtijhabhnhglhgaaDoor

