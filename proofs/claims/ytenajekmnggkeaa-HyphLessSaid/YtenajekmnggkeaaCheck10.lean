/- The landed Check, and Write, of layer 10. -/
import Derived.Test.YtenajekmnggkeaaLandE10
import Derived.Test.YtenajekmnggkeaaMid09
namespace Go.Proofs.Ytenajekmnggkeaa
open Go.RowKit
namespace L10

def rd (D : PatsD) : LL := (D.l.map tn, D.m.map tn)
theorem all_drop {α : Type} {p : α → Bool} {l : List α} {k : Nat} (h : k < l.length) : (l.drop k).all p = (p l[k] && (l.drop (k + 1)).all p) := by
  rw [List.drop_eq_getElem_cons h, List.all_cons]
theorem patsB_rd (D : PatsD) : patsB (rd D) = (decide (D.l.length + D.m.length ≤ 300) && (D.l.all (fun x => patB (tn x)) && D.m.all (fun x => excB (tn x)))) := by
  simp only [patsB, rd, List.length_map, List.all_map]
  rfl

set_option maxRecDepth 100000 in
set_option maxHeartbeats 4000000 in
theorem check_any (D : PatsD) (P : PatsP) (lok : ∀ x ∈ D.l, x.Ok) (mok : ∀ x ∈ D.m, x.Ok) (w : World) (sn : SeenPats w D P) (hl : D.l.length ≤ 1000000) (hm : D.m.length ≤ 1000000) : Calls Try.prog 23 #[patsV D P] w (Ret w (.bool (patsB (rd D)))) := by
  obtain ⟨l, m⟩ := D
  obtain ⟨A, c, B, d⟩ := P
  dsimp only at lok mok hl hm
  obtain ⟨V, hV⟩ : ∃ V, V = w.alloc (.cells #[.slice A l.length c, .slice B m.length d] 25) := ⟨_, rfl⟩
  have W0 : Ext w V := by rw [hV]; exact (Ext.refl _).alloc _
  have kB : Blk V w.heap.size 25 [.slice A l.length c, .slice B m.length d] := by rw [hV]; exact Blk.lit _ _ _ _ rfl
  have SL := Lib.hid (fun w' (x : Ext V w') => ((sn.ext W0).ext x).l)
  have SM := Lib.hid (fun w' (x : Ext V w') => ((sn.ext W0).ext x).m)
  have LOK := Lib.hid lok
  have MOK := Lib.hid mok
  obtain ⟨b, hb⟩ : ∃ b, patsB (rd ⟨l, m⟩) = b := ⟨_, rfl⟩
  rw [hb]
  have HB0 := Lib.hid (show (decide (l.length + m.length ≤ 300) && (l.all (fun x => patB (tn x)) && m.all (fun x => excB (tn x)))) = b by rw [← hb, patsB_rd])
  unfold patsV
  obtain ⟨n, hn⟩ : ∃ n, n = l.length := ⟨_, rfl⟩
  obtain ⟨q, hq⟩ : ∃ q, q = m.length := ⟨_, rfl⟩
  dsimp only at SL SM ⊢
  rw [← hn] at hl hV kB HB0 ⊢
  rw [← hq] at hm hV kB HB0 ⊢
  have HN := Lib.hid hn
  have HQ := Lib.hid hq
  clear hb hn hq lok mok sn
  have hn64 : (n : Int) ≤ 1000000 := by omega
  have hq64 : (q : Int) ≤ 1000000 := by omega
  by_cases h300 : 300 < n + q
  · have HF := Lib.hid (show false = b by rw [← HB0.out, decide_eq_false (by omega)]; rfl)
    have h300' : (300 : Int) < (n : Int) + (q : Int) := by omega
    clear HB0 SL SM LOK MOK kB h300
    go_enter Try.func23, Try.ntmps23
    go_upto_region 2 with (fail)
    all_goals
      rw [← hV]
      go_wp2_with fail
      go_ret
      exact ⟨ret_bool HF.out, W0⟩
  have HB := Lib.hid (show (l.all (fun x => patB (tn x)) && m.all (fun x => excB (tn x))) = b by rw [← HB0.out, decide_eq_true (by omega), Bool.true_and])
  have h300' : ¬ (300 : Int) < (n : Int) + (q : Int) := by omega
  clear h300 HB0
  go_enter Try.func23, Try.ntmps23
  go_upto_region 1 with (fail)
  rw [← hV]
  clear hV
  generalize w.heap.size = Bx at *
  have HX := Lib.hid W0
  clear W0
  have q0 : V.cell? ⟨Bx, 0, none⟩ = some (.slice A n c) := kB.cell 0
  have q1 : V.cell? ⟨Bx, 1, none⟩ = some (.slice B q d) := kB.cell 1
  go_wp2_with fail
  go_loopw [18] (fun i wr => ∃ k : Nat, k ≤ n ∧ i = .int .i64 k ∧ Hid (Ext V wr) ∧ Hid (l.all (fun x => patB (tn x)) = (l.drop k).all (fun x => patB (tn x)))) (fun i _ => n - (intOf i).toNat)
  case atStart => exact ⟨0, Nat.zero_le _, rfl, Lib.hid (Ext.refl _), rfl⟩
  case round =>
    obtain ⟨k, hk, rfl, hX, hall⟩ := hrel
    have g0 := hX.out.at q0
    have g1 := hX.out.at q1
    by_cases hlt : k < n
    · have hlt' : k < l.length := by rw [← HN.out]; exact hlt
      obtain ⟨⟨ad, rfl, e0, e1⟩, hsn⟩ := (SL.out wr hX.out).get hlt'
      have hok := LOK.out l[k] (List.getElem_mem hlt')
      have hall := hall.out
      rw [all_drop hlt'] at hall
      have HALL := Lib.hid hall
      have hk64 : (k : Int) < (n : Int) := by omega
      generalize l[k] = x at *
      obtain ⟨s, ns, A', c'⟩ := x
      have X2 : Ext V (wr.alloc (.cells #[.string s, .slice A' ns.length c'] 50)) := hX.out.alloc _
      have C := Lib.hid (pat_any ⟨s, ns, A', c'⟩ hok _ (SeenL.ext hsn ((Ext.refl wr).alloc (.cells #[.string s, .slice A' ns.length c'] 50))))
      unfold wpV at C
      dsimp only at C e0 e1
      have HX2 := Lib.hid X2
      clear hsn hok hall hX X2
      go_wp2_with fail
      refine C.out.mono ?_; rintro e w2 ⟨rfl, x2⟩
      have HX3 := Lib.hid (HX2.out.trans x2)
      clear C x2
      cases hp : patB (tn ⟨s, ns, A', c'⟩) with
      | false =>
        have HF := Lib.hid (show false = b by rw [← HB.out, HALL.out, hp]; rfl)
        clear hp HALL
        go_wp2_with fail
        go_ret
        exact ⟨ret_bool HF.out, HX.out.trans HX3.out⟩
      | true =>
        have HR := Lib.hid (show l.all (fun x => patB (tn x)) = (l.drop (k + 1)).all (fun x => patB (tn x)) by rw [HALL.out, hp]; rfl)
        clear hp HALL
        go_wp2_with fail
        go_roundw
        case rel => exact ⟨k + 1, by omega, by go_num, HX3, HR⟩
        case measure => simp [intOf]; omega
    · obtain rfl : k = n := by omega
      have H1 := Lib.hid (show l.all (fun x => patB (tn x)) = true by rw [hall.out, HN.out, List.drop_length]; rfl)
      have HB2 := Lib.hid (show m.all (fun x => excB (tn x)) = b by rw [← HB.out, H1.out]; rfl)
      clear hall H1 HB
      obtain ⟨wo, rfl⟩ : ∃ wo : World, wo = wr := ⟨_, rfl⟩
      go_wp2_with fail
      go_loopw [29] (fun i wr => ∃ k : Nat, k ≤ q ∧ i = .int .i64 k ∧ Hid (Ext wo wr) ∧ Hid (m.all (fun x => excB (tn x)) = (m.drop k).all (fun x => excB (tn x)))) (fun i _ => q - (intOf i).toNat)
      case atStart => exact ⟨0, Nat.zero_le _, rfl, Lib.hid (Ext.refl _), rfl⟩
      case round =>
        obtain ⟨j, hj, rfl, hY, hall⟩ := hrel
        have g0 := hY.out.at g0
        have g1 := hY.out.at g1
        by_cases hlt2 : j < q
        · have hlt' : j < m.length := by rw [← HQ.out]; exact hlt2
          obtain ⟨⟨ad, rfl, e0, e1⟩, hsn⟩ := (SM.out wr (hX.out.trans hY.out)).get hlt'
          have hok := MOK.out m[j] (List.getElem_mem hlt')
          have hall := hall.out
          rw [all_drop hlt'] at hall
          have HALL := Lib.hid hall
          have hj64 : (j : Int) < (q : Int) := by omega
          generalize m[j] = x at *
          obtain ⟨s, ns, A', c'⟩ := x
          have X2 : Ext wo (wr.alloc (.cells #[.string s, .slice A' ns.length c'] 46)) := hY.out.alloc _
          have C := Lib.hid (exc_any ⟨s, ns, A', c'⟩ hok _ (SeenL.ext hsn ((Ext.refl wr).alloc (.cells #[.string s, .slice A' ns.length c'] 46))))
          unfold wpV at C
          dsimp only at C e0 e1
          have HX2 := Lib.hid X2
          clear hsn hok hall hY X2
          go_wp2_with fail
          refine C.out.mono ?_; rintro e w2 ⟨rfl, x2⟩
          have HX3 := Lib.hid (HX2.out.trans x2)
          clear C x2
          cases hp : excB (tn ⟨s, ns, A', c'⟩) with
          | false =>
            have HF := Lib.hid (show false = b by rw [← HB2.out, HALL.out, hp]; rfl)
            clear hp HALL
            go_wp2_with fail
            go_ret
            exact ⟨ret_bool HF.out, (HX.out.trans hX.out).trans HX3.out⟩
          | true =>
            have HR := Lib.hid (show m.all (fun x => excB (tn x)) = (m.drop (j + 1)).all (fun x => excB (tn x)) by rw [HALL.out, hp]; rfl)
            clear hp HALL
            go_wp2_with fail
            go_roundw
            case rel => exact ⟨j + 1, by omega, by go_num, HX3, HR⟩
            case measure => simp [intOf]; omega
        · obtain rfl : j = q := by omega
          have HF := Lib.hid (show true = b by rw [← HB2.out, hall.out, HQ.out, List.drop_length]; rfl)
          clear hall
          go_wp2_with fail
          go_ret
          exact ⟨ret_bool HF.out, (HX.out.trans hX.out).trans hY.out⟩
end L10
end Go.Proofs.Ytenajekmnggkeaa

