/- The landed exceptionMayBe, patternWord, exceptionWord of layer 10. -/
import Derived.Test.YtijhabhnhglhgaaDoorLandB10
namespace Go.Proofs.YtijhabhnhglhgaaDoor
open Go.RowKit
namespace L10

theorem rises_drop {m least : Int} {l : List Int} {k : Nat} (h : k < l.length) : risesB m least (l.drop k) = (decide (least ≤ l.getD k 0 ∧ l.getD k 0 < m) && risesB m (l.getD k 0 + 1) (l.drop (k + 1))) := by
  rw [List.drop_eq_getElem_cons h, risesB, List.getD, List.getElem?_eq_getElem h]; rfl
theorem seenB_one (w : World) (t : TypeId) (z : Int) (b : UInt8) (h : z = b.toNat) : SeenB (w.alloc (.cells #[.int .u8 z] t)) (some ⟨w.heap.size, 0, none⟩) [b] := by
  subst h
  exact (Blk.lit w w.heap.size t #[.int .u8 (b.toNat : Int)] rfl).seen rfl
theorem byte_info : (Tryd.prog.info? 5).map (fun i => (i.zero, i.size, i.bytes)) = some (some (.int .u8 0), 1, 1) := by kernel_rfl
/-- append(own, b). -/
theorem run_byte {w w0 : World} {v : Value} {m : List UInt8} (h : OwnB 5 w0 w v m) (a : Option Addr) (b : UInt8) (hs : SeenB w a [b]) (hm : m.length ≤ 900000) (ty : TypeId) :
    ∃ v' w', (Builtin.append_ #[22, 22] ty #[v, .slice a 1 1]).run Tryd.prog w = .ok v' w' ∧ OwnB 5 w0 w' v' (m ++ [b]) := by
  obtain ⟨v', w', h1, h2, _⟩ := run_putB (P := Tryd.prog) 22 ty 5 Tryd.underlying22 byte_info h a [b] 1 1 hs rfl (by simp; omega)
  exact ⟨v', w', h1, h2⟩

set_option maxRecDepth 100000 in
set_option maxHeartbeats 2000000 in
theorem exc_any (x : WP) (ok : x.Ok) (w : World) (sn : SeenL w x.A x.ns) : Calls Tryd.prog 30 #[wpV x] w (Ret w (.bool (excB (tn x)))) := by
  obtain ⟨s, ns, A, c⟩ := x
  obtain ⟨hr, hm, hsz, hwide⟩ := ok
  dsimp only at hr hm hsz hwide sn
  unfold maxLen at hm hsz
  obtain ⟨V, hV⟩ : ∃ V, V = w.alloc (.cells #[.string s, .slice A ns.length c] 45) := ⟨_, rfl⟩
  have W0 : Ext w V := by rw [hV]; exact (Ext.refl _).alloc _
  have kB : Blk V w.heap.size 45 [.string s, .slice A ns.length c] := by rw [hV]; exact Blk.lit _ _ _ _ rfl
  have SN := Lib.hid (sn.ext W0)
  have HP := Lib.hid (show excB (tn ⟨s, ns, A, c⟩) = (risesB s.size 1 ns && (plainB s.data.toList && decide (0 < ns.length))) by
    have hl := list_len s
    rw [Bool.eq_iff_iff]
    simp only [excB, tn, hl, Bool.and_eq_true]
    exact ⟨fun ⟨a, b, c⟩ => ⟨c, a, b⟩, fun ⟨c, a, b⟩ => ⟨a, b, c⟩⟩)
  obtain ⟨b, hb⟩ : ∃ b, excB (tn ⟨s, ns, A, c⟩) = b := ⟨_, rfl⟩
  rw [hb]
  have HB := Lib.hid hb
  have HW := Lib.hid (fun k => getD_wide hwide k)
  obtain ⟨n, hn⟩ : ∃ n, n = ns.length := ⟨_, rfl⟩
  have HN := Lib.hid hn
  unfold wpV
  dsimp only
  rw [← hn] at hV kB hr ⊢
  clear hb hwide sn hn
  have hn64 : (n : Int) ≤ 9223372036854775807 := by omega
  go_enter Tryd.func30, Tryd.ntmps30
  go_upto_region 1 with (fail)
  rw [← hV]
  clear hV
  generalize w.heap.size = B at *
  have q0 : V.cell? ⟨B, 0, none⟩ = some (.string s) := kB.cell 0
  have q1 : V.cell? ⟨B, 1, none⟩ = some (.slice A n c) := kB.cell 1
  have HX := Lib.hid W0
  have h64 : (s.size : Int) ≤ 9223372036854775807 := by omega
  clear W0
  go_wp2_with fail
  go_loop [3, 9] (fun lv i => ∃ (k : Nat) (z : Int), k ≤ n ∧ i = .int .i64 k ∧ lv = .int .i64 z ∧ 1 ≤ z ∧ z ≤ 9223372036854775807 ∧ Hid (risesB s.size 1 ns = risesB s.size z (ns.drop k))) (fun _ i => n - (intOf i).toNat)
  case atStart => exact ⟨0, 1, Nat.zero_le _, rfl, rfl, by omega, by omega, rfl⟩
  case round =>
    obtain ⟨k, z, hk, rfl, rfl, hz1, hz2, hall⟩ := hrel
    by_cases hlt : k < n
    · have hlt' : k < ns.length := by rw [← HN.out]; exact hlt
      obtain ⟨ad, rfl, hc⟩ := SN.out.get hlt'
      have hall := hall.out
      rw [rises_drop hlt'] at hall
      have hw := HW.out k
      have HALL := Lib.hid hall
      generalize ns.getD k 0 = v at *
      have hk64 : (k : Int) < (n : Int) := by omega
      clear hall
      by_cases h1 : v < z
      · have H2 := Lib.hid (show false = b by rw [← HB.out, HP.out, HALL.out, decide_eq_false (by omega)]; rfl)
        clear HALL
        go_wp2_with fail
        go_ret
        exact ⟨ret_bool H2.out, HX.out⟩
      · by_cases h2 : (s.size : Int) ≤ v
        · have H2 := Lib.hid (show false = b by rw [← HB.out, HP.out, HALL.out, decide_eq_false (by omega)]; rfl)
          clear HALL
          go_wp2_with fail
          go_ret
          exact ⟨ret_bool H2.out, HX.out⟩
        · have H2 := Lib.hid (show risesB s.size 1 ns = risesB s.size (v + 1) (ns.drop (k + 1)) by rw [HALL.out, decide_eq_true (by omega)]; rfl)
          clear HALL
          go_wp2_with fail
          go_round
          case rel => exact ⟨k + 1, v + 1, by omega, by go_num, rfl, by omega, by omega, H2⟩
          case measure => simp [intOf]; omega
    · obtain rfl : k = n := by omega
      have H1 := Lib.hid (show risesB s.size 1 ns = true by rw [hall.out, HN.out, List.drop_length]; rfl)
      have H2 := Lib.hid (show b = (plainB s.data.toList && decide (0 < k)) by rw [← HB.out, HP.out, H1.out, HN.out]; rfl)
      clear hall H1
      have C1 := Lib.hid (letters_any s V)
      go_wp2_with fail
      refine C1.out.mono ?_; rintro e w3 ⟨rfl, x3⟩
      clear C1
      have q0 := x3.at q0
      have q1 := x3.at q1
      have HX3 := Lib.hid (HX.out.trans x3)
      cases hp : plainB s.data.toList with
      | false =>
        have H3 := Lib.hid (show false = b by rw [H2.out, hp]; rfl)
        clear H2 hp
        go_wp2_with fail
        go_ret
        exact ⟨ret_bool H3.out, HX3.out⟩
      | true =>
        have H3 := Lib.hid (show decide (0 < k) = b by rw [H2.out, hp, Bool.true_and])
        clear H2 hp
        go_wp2_with fail
        go_ret
        exact ⟨ret_bool H3.out, HX3.out⟩

set_option maxRecDepth 100000 in
set_option maxHeartbeats 2000000 in
theorem pword_any (x : WP) (hp : patB (tn x) = true) (w : World) (sn : SeenL w x.A x.ns) :
    Calls Tryd.prog 25 #[wpV x] w (Ret w (.string ⟨(wordL (tn x)).toArray⟩)) := by
  obtain ⟨s, ns, A, c⟩ := x
  have hpl := pat_len hp
  obtain ⟨hnl, hv⟩ := pat_vals hp
  have hsz := list_len s
  dsimp only [tn] at sn hpl hnl hv
  rw [hsz] at hpl hnl
  obtain ⟨V, hV⟩ : ∃ V, V = w.alloc (.cells #[.string s, .slice A ns.length c] 42) := ⟨_, rfl⟩
  have W0 : Ext w V := by rw [hV]; exact (Ext.refl _).alloc _
  have kB : Blk V w.heap.size 42 [.string s, .slice A ns.length c] := by rw [hV]; exact Blk.lit _ _ _ _ rfl
  have SN := Lib.hid (fun w' (x : Ext V w') => (sn.ext W0).ext x)
  have HV := Lib.hid (fun k (h : k < ns.length) => hv (ns.getD k 0) (by rw [List.getD, List.getElem?_eq_getElem h]; exact List.getElem_mem h))
  have HS := Lib.hid (fun k (h : k < s.size) => show s.data.toList.getD k 0 = s[k] by
    rw [← get_list s k h]
    simp [ByteArray.get!, getElem!_pos, h]
    rfl)
  have HT := Lib.hid (fun k => show wordTo (s.data.toList, ns) (k + 1) = wordTo (s.data.toList, ns) k ++ (digitL (ns.getD k 0) ++ if k < s.size then [s.data.toList.getD k 0] else []) by rw [wordTo, hsz])
  have HZ := Lib.hid (show wordTo (s.data.toList, ns) 0 = [] from rfl)
  have HE := Lib.hid (show wordL (tn ⟨s, ns, A, c⟩) = wordTo (s.data.toList, ns) ns.length by rw [wordL, hnl]; simp only [tn, hsz])
  have HL := Lib.hid (fun k => wordTo_length (s.data.toList, ns) k)
  obtain ⟨R, hR⟩ : ∃ R, wordL (tn ⟨s, ns, A, c⟩) = R := ⟨_, rfl⟩
  rw [hR]
  have HR := Lib.hid hR
  obtain ⟨n, hn⟩ : ∃ n, n = ns.length := ⟨_, rfl⟩
  have HN := Lib.hid hn
  unfold wpV
  dsimp only
  rw [← hn] at hV kB hnl ⊢
  have hn43 : n ≤ 43 := by omega
  have hn1 : n ≤ s.size + 1 := by omega
  have hn2 : s.size + 1 ≤ n := by omega
  clear hR hp hv sn hn hsz hnl
  generalize wordTo (s.data.toList, ns) = T at *
  go_enter Tryd.func25, Tryd.ntmps25
  go_upto_region 1 with (fail)
  rw [← hV]
  clear hV
  generalize w.heap.size = B at *
  have HX := Lib.hid W0
  clear W0
  have q0 : V.cell? ⟨B, 0, none⟩ = some (.string s) := kB.cell 0
  have q1 : V.cell? ⟨B, 1, none⟩ = some (.slice A n c) := kB.cell 1
  have hn64 : (n : Int) ≤ 43 := by omega
  go_wp2_with fail
  go_loopw [3, 9] (fun v i wr => ∃ (vv : Value) (k : Nat), vv = v ∧ k ≤ n ∧ i = .int .i64 k ∧ Hid (OwnB 5 V wr vv (T k))) (fun _ i _ => n - (intOf i).toNat)
  case atStart => exact ⟨_, 0, rfl, Nat.zero_le _, rfl, Lib.hid (by rw [HZ.out]; exact OwnB.nil _ _ _ (Ext.refl _))⟩
  case round =>
    obtain ⟨vv, k, hvv, hk, rfl, ho⟩ := hrel
    subst hvv
    by_cases hlt : k < n
    · have hlt' : k < ns.length := by rw [← HN.out]; exact hlt
      have X := ho.out.2
      obtain ⟨ad, rfl, hc⟩ := (SN.out wr X).get hlt'
      obtain ⟨v0, v9⟩ := HV.out k hlt'
      have ht := HT.out k
      have hl := HL.out k
      have g0 := X.at q0
      have g1 := X.at q1
      have hk64 : (k : Int) < (n : Int) := by omega
      generalize ns.getD k 0 = v at *
      have HTK := Lib.hid ht
      clear ht
      by_cases hv0 : v = 0
      · subst hv0
        by_cases hks : k < s.size
        · have hs := HS.out k hks
          have H2 := Lib.hid (show T (k + 1) = T k ++ [s[k]] by rw [HTK.out, if_pos hks, hs]; rfl)
          obtain ⟨v2, w2, r2, o2⟩ := run_byte (ho.out.over ((Ext.refl wr).alloc (.cells #[.int .u8 (s[k].toNat : Int)] 5))) _ s[k] (seenB_one wr 5 _ s[k] rfl) (by omega) 22
          have O2 := Lib.hid o2
          clear o2 hs HTK X
          go_wp2_with (at_builtin; refine wpList_ran rfl _ _ rfl r2 ?_)
          go_roundw
          case rel => exact ⟨_, k + 1, rfl, by omega, by go_num, Lib.hid (by rw [H2.out]; exact O2.out)⟩
          case measure => simp [intOf]; omega
        · have H2 := Lib.hid (show T (k + 1) = T k by rw [HTK.out, if_neg hks]; simp [digitL])
          clear HTK X
          go_wp2_with fail
          go_roundw
          case rel => exact ⟨_, k + 1, rfl, by omega, by go_num, Lib.hid (by rw [H2.out]; exact ho.out)⟩
          case measure => simp [intOf]; omega
      · have hv1 : (v == 0) = false := by simpa using hv0
        have hv2 : (v != 0) = true := by simpa using hv0
        have hd : digitL v = [UInt8.ofNat (48 + v.toNat)] := if_neg hv0
        have hdn : (48 + v : Int) = ((UInt8.ofNat (48 + v.toNat)).toNat : Int) := by rw [digit_nat ⟨v0, v9⟩ hv0]; omega
        obtain ⟨v3, w3, r3, o3⟩ := run_byte (ho.out.over ((Ext.refl wr).alloc (.cells #[.int .u8 (48 + v)] 5))) _ (UInt8.ofNat (48 + v.toNat)) (seenB_one wr 5 _ _ hdn) (by omega) 22
        have O3 := Lib.hid o3
        have HD := Lib.hid hd
        have y0 := o3.2.at q0
        have y1 := o3.2.at q1
        have hvk : (v % 256) = v := by omega
        clear o3 hd hdn hv0
        by_cases hks : k < s.size
        · have hs := HS.out k hks
          have H2 := Lib.hid (show T (k + 1) = (T k ++ [UInt8.ofNat (48 + v.toNat)]) ++ [s[k]] by rw [HTK.out, if_pos hks, hs, HD.out]; simp)
          obtain ⟨v2, w2, r2, o2⟩ := run_byte (O3.out.over ((Ext.refl w3).alloc (.cells #[.int .u8 (s[k].toNat : Int)] 5))) _ s[k] (seenB_one w3 5 _ s[k] rfl) (by simp; omega) 22
          have O2 := Lib.hid o2
          clear o2 hs HTK X
          go_wp2_with (first | (at_builtin; refine wpList_ran rfl _ _ rfl r3 ?_) | (at_builtin; refine wpList_ran rfl _ _ rfl r2 ?_))
          go_roundw
          case rel => exact ⟨_, k + 1, rfl, by omega, by go_num, Lib.hid (by rw [H2.out]; exact O2.out)⟩
          case measure => simp [intOf]; omega
        · have H2 := Lib.hid (show T (k + 1) = T k ++ [UInt8.ofNat (48 + v.toNat)] by rw [HTK.out, if_neg hks, HD.out]; simp)
          clear HTK X
          go_wp2_with (first | (at_builtin; refine wpList_ran rfl _ _ rfl r3 ?_))
          go_roundw
          case rel => exact ⟨_, k + 1, rfl, by omega, by go_num, Lib.hid (by rw [H2.out]; exact O3.out)⟩
          case measure => simp [intOf]; omega
    · obtain rfl : k = n := by omega
      obtain ⟨A2, c2, rfl, hc2, s2⟩ := ho.out.seen
      have HRR := Lib.hid (show T k = R by rw [← HR.out, HE.out, HN.out])
      have hstr := s2.str (P := Tryd.prog) 22 9 5 c2 (T k).length Tryd.underlying22 Tryd.underlying5 Tryd.underlying9 rfl
      have HX2 := Lib.hid (HX.out.trans ho.out.2)
      generalize (T k).length = z at *
      rw [HRR.out] at hstr
      clear s2 ho
      go_wp2_with fail
      go_ret
      exact ⟨rfl, HX2.out⟩
end L10
end Go.Proofs.YtijhabhnhglhgaaDoor

