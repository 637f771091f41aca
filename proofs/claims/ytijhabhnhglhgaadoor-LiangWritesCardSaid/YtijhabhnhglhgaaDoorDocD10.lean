/- The document's word of layer 10. -/
import Derived.Test.YtijhabhnhglhgaaDoorDocC10
import Derived.Test.YtijhabhnhglhgaaDoorWrite10
namespace Go.Proofs.YtijhabhnhglhgaaDoor
open Go.RowKit
open Go.Lib hiding intOf
namespace L10

/-- What a function of bytes answers. -/
def BytQ (w : World) (l : List UInt8) (e : Ending) (w' : World) : Prop :=
  Ext w w' ∧ ∃ A c, e = .returned (.slice A l.length c) ∧ l.length ≤ c ∧ c ≤ maxLen ∧ SeenB w' A l

set_option maxRecDepth 100000 in
set_option maxHeartbeats 2000000 in
theorem rword_any (x : WP) (hp : patB (tn x) = true) (w : World) (sn : SeenL w x.A x.ns) :
    Calls Tryd.prog 27 #[wpV x] w (BytQ w (wordL (tn x))) := by
  obtain ⟨s, ns, A, c⟩ := x
  have hpl := pat_len hp
  obtain ⟨hnl, hv⟩ := pat_vals hp
  have hsz := list_len s
  dsimp only [tn] at sn hpl hnl hv
  rw [hsz] at hpl hnl
  obtain ⟨V, hV⟩ : ∃ V, V = w.alloc (.cells #[.string s, .slice A ns.length c] 42) := ⟨_, rfl⟩
  have W0 : Ext w V := by rw [hV]; exact (Ext.refl _).alloc _
  have kB : Blk V w.heap.size 42 [.string s, .slice A ns.length c] := by rw [hV]; exact Blk.lit _ _ _ _ rfl
  have SN := Lib.hid (fun w' (x : Ext V w') => (sn.ext W0).ext x)
  have HV := Lib.hid (fun k (h : k < ns.length) => hv (ns.getD k 0) (by rw [List.getD, List.getElem?_eq_getElem h]; exact List.getElem_mem h))
  have HS := Lib.hid (fun k (h : k < s.size) => show s.data.toList.getD k 0 = s[k] by
    rw [← get_list s k h]
    simp [ByteArray.get!, getElem!_pos, h]
    rfl)
  have HT := Lib.hid (fun k => show wordTo (s.data.toList, ns) (k + 1) = wordTo (s.data.toList, ns) k ++ (digitL (ns.getD k 0) ++ if k < s.size then [s.data.toList.getD k 0] else []) by rw [wordTo, hsz])
  have HZ := Lib.hid (show wordTo (s.data.toList, ns) 0 = [] from rfl)
  have HE := Lib.hid (show wordL (tn ⟨s, ns, A, c⟩) = wordTo (s.data.toList, ns) ns.length by rw [wordL, hnl]; simp only [tn, hsz])
  have HL := Lib.hid (fun k => wordTo_length (s.data.toList, ns) k)
  obtain ⟨R, hR⟩ : ∃ R, wordL (tn ⟨s, ns, A, c⟩) = R := ⟨_, rfl⟩
  rw [hR]
  have HR := Lib.hid hR
  obtain ⟨n, hn⟩ : ∃ n, n = ns.length := ⟨_, rfl⟩
  have HN := Lib.hid hn
  unfold wpV
  dsimp only
  rw [← hn] at hV kB hnl ⊢
  have hn43 : n ≤ 43 := by omega
  have hn1 : n ≤ s.size + 1 := by omega
  have hn2 : s.size + 1 ≤ n := by omega
  clear hR hp hv sn hn hsz hnl
  generalize wordTo (s.data.toList, ns) = T at *
  go_enter Tryd.func27, Tryd.ntmps27
  go_upto_region 1 with (fail)
  rw [← hV]
  clear hV
  generalize w.heap.size = B at *
  have HX := Lib.hid W0
  clear W0
  have q0 : V.cell? ⟨B, 0, none⟩ = some (.string s) := kB.cell 0
  have q1 : V.cell? ⟨B, 1, none⟩ = some (.slice A n c) := kB.cell 1
  have hn64 : (n : Int) ≤ 43 := by omega
  have hs64 : (s.size : Int) ≤ 43 := by omega
  go_wp2_with fail
  go_loopw [3, 4] (fun v i wr => ∃ (vv : Value) (k : Nat), vv = v ∧ k ≤ n ∧ i = .int .i64 k ∧ Hid (OwnB 5 V wr vv (T k))) (fun _ i _ => n - (intOf i).toNat)
  case atStart => exact ⟨_, 0, rfl, Nat.zero_le _, rfl, Lib.hid (by rw [HZ.out]; exact OwnB.nil _ _ _ (Ext.refl _))⟩
  case round =>
    obtain ⟨vv, k, hvv, hk, rfl, ho⟩ := hrel
    subst hvv
    by_cases hlt : k < n
    · have hlt' : k < ns.length := by rw [← HN.out]; exact hlt
      have X := ho.out.2
      obtain ⟨ad, rfl, hc⟩ := (SN.out wr X).get hlt'
      obtain ⟨v0, v9⟩ := HV.out k hlt'
      have ht := HT.out k
      have hl := HL.out k
      have g0 := X.at q0
      have g1 := X.at q1
      have hk64 : (k : Int) < (n : Int) := by omega
      have hks64 : (k : Int) ≤ (s.size : Int) := by omega
      generalize ns.getD k 0 = v at *
      have HTK := Lib.hid ht
      clear ht
      by_cases hv0 : v = 0
      · subst hv0
        by_cases hks : k < s.size
        · have hs := HS.out k hks
          have H2 := Lib.hid (show T (k + 1) = T k ++ [s[k]] by rw [HTK.out, if_pos hks, hs]; rfl)
          obtain ⟨v2, w2, r2, o2⟩ := run_byte (ho.out.over ((Ext.refl wr).alloc (.cells #[.int .u8 (s[k].toNat : Int)] 5))) _ s[k] (seenB_one wr 5 _ s[k] rfl) (by omega) 22
          have O2 := Lib.hid o2
          clear o2 hs HTK X
          go_wp2_with (at_builtin; refine wpList_ran rfl _ _ rfl r2 ?_)
          go_roundw
          case rel => exact ⟨_, k + 1, rfl, by omega, by go_num, Lib.hid (by rw [H2.out]; exact O2.out)⟩
          case measure => simp [intOf]; omega
        · have H2 := Lib.hid (show T (k + 1) = T k by rw [HTK.out, if_neg hks]; simp [digitL])
          clear HTK X
          go_wp2_with fail
          go_roundw
          case rel => exact ⟨_, k + 1, rfl, by omega, by go_num, Lib.hid (by rw [H2.out]; exact ho.out)⟩
          case measure => simp [intOf]; omega
      · have hv1 : (v == 0) = false := by simpa using hv0
        have hv2 : (0 : Int) < v := by omega
        have hd : digitL v = [UInt8.ofNat (48 + v.toNat)] := if_neg hv0
        have hdn : (48 + v : Int) = ((UInt8.ofNat (48 + v.toNat)).toNat : Int) := by rw [digit_nat ⟨v0, v9⟩ hv0]; omega
        obtain ⟨v3, w3, r3, o3⟩ := run_byte (ho.out.over ((Ext.refl wr).alloc (.cells #[.int .u8 (48 + v)] 5))) _ (UInt8.ofNat (48 + v.toNat)) (seenB_one wr 5 _ _ hdn) (by omega) 22
        have O3 := Lib.hid o3
        have HD := Lib.hid hd
        have y0 := o3.2.at q0
        have y1 := o3.2.at q1
        have hvk : (v % 256) = v := by omega
        clear o3 hd hdn hv0
        by_cases hks : k < s.size
        · have hs := HS.out k hks
          have H2 := Lib.hid (show T (k + 1) = (T k ++ [UInt8.ofNat (48 + v.toNat)]) ++ [s[k]] by rw [HTK.out, if_pos hks, hs, HD.out]; simp)
          obtain ⟨v2, w2, r2, o2⟩ := run_byte (O3.out.over ((Ext.refl w3).alloc (.cells #[.int .u8 (s[k].toNat : Int)] 5))) _ s[k] (seenB_one w3 5 _ s[k] rfl) (by simp; omega) 22
          have O2 := Lib.hid o2
          clear o2 hs HTK X
          go_wp2_with (first | (at_builtin; refine wpList_ran rfl _ _ rfl r3 ?_) | (at_builtin; refine wpList_ran rfl _ _ rfl r2 ?_))
          go_roundw
          case rel => exact ⟨_, k + 1, rfl, by omega, by go_num, Lib.hid (by rw [H2.out]; exact O2.out)⟩
          case measure => simp [intOf]; omega
        · have H2 := Lib.hid (show T (k + 1) = T k ++ [UInt8.ofNat (48 + v.toNat)] by rw [HTK.out, if_neg hks, HD.out]; simp)
          clear HTK X
          go_wp2_with (first | (at_builtin; refine wpList_ran rfl _ _ rfl r3 ?_))
          go_roundw
          case rel => exact ⟨_, k + 1, rfl, by omega, by go_num, Lib.hid (by rw [H2.out]; exact O3.out)⟩
          case measure => simp [intOf]; omega
    · obtain rfl : k = n := by omega
      have g0 := ho.out.2.at q0
      have hks64 : ¬ (k : Int) ≤ (s.size : Int) := by omega
      obtain ⟨A2, c2, e2, hc2, hm2, s2⟩ := own_bytes ho.out
      subst e2
      have HQ := Lib.hid (show BytQ w R (.returned (.slice A2 (T k).length c2)) wr from by
        have e : T k = R := by rw [← HR.out, HE.out, HN.out]
        refine ⟨HX.out.trans ho.out.2, A2, c2, by rw [e], by rw [← e]; exact hc2, hm2, by rw [← e]; exact s2⟩)
      generalize (T k).length = z at *
      clear s2 ho
      go_wp2_with fail
      go_ret
      exact HQ.out
end L10
end Go.Proofs.YtijhabhnhglhgaaDoor

