/- The document's Nodes of layer 11. -/
import Derived.Test.YtfdoohangemojaaRVals11
namespace Go.Proofs.Ytfdoohangemojaa
open Go.RowKit
open Go.Lib hiding intOf
namespace L11
open L10 (TN plainB patB tn letterB)

def strN (l : List UInt8) : Value := .string ⟨l.toArray⟩
theorem strN_eq (x : ByteArray) : strN x.data.toList = .string x := by
  obtain ⟨⟨l⟩⟩ := x
  rfl
theorem str_info11 : (Try.prog.info? 9).map (fun i => (i.zero, i.size, i.bytes)) = some (some (.string ⟨#[]⟩), 1, 16) := by kernel_rfl
/-- One's own row of beginnings. -/
structure OwnS (W w : World) (v : Value) (ns : List (List UInt8)) : Prop where
  x : Ext W w
  row : w.ownsRow W.heap.size 9 1 v ns.length (ns.map strN)
theorem OwnS.ext {W w w' : World} {v : Value} {ns : List (List UInt8)} (h : OwnS W w v ns) (x : Ext w w') : OwnS W w' v ns := ⟨h.x.trans x, OwnsRow.ext h.row x⟩
theorem OwnS.lit (W : World) (s : ByteArray) : OwnS W (W.alloc (.cells #[.string s] 9)) (.slice (some ⟨W.heap.size, 0, none⟩) 1 1) [s.data.toList] := by
  have := World.ownsRow_lit (base := W.heap.size) (e := 9) (size := 1) W #[.string s] 1 (Nat.le_refl _) (by unfold maxLen; omega) (by simp)
  refine ⟨(Ext.refl W).alloc _, ?_⟩
  rw [List.map_cons, strN_eq]
  simpa using this
theorem OwnS.look {W w : World} {v : Value} {ns : List (List UInt8)} (h : OwnS W w v ns) : ∃ A c, v = .slice A ns.length c ∧ Seen w.heap.size w A (ns.map strN) := own_seen h.row
theorem OwnS.put {W w : World} {v : Value} {ns : List (List UInt8)} (h : OwnS W w v ns) (x : ByteArray) (hn : ns.length ≤ 900000) (ty : TypeId) :
    ∃ v' w', (Builtin.append_ #[95, 95] ty #[v, .slice (some ⟨w.heap.size, 0, none⟩) 1 1]).run Try.prog (w.alloc (.cells #[.string x] 9)) = .ok v' w' ∧ OwnS W w' v' (ns ++ [x.data.toList]) := by
  obtain ⟨i, hi, hz0, hsz, hby⟩ := info_parts str_info11
  have h := h.ext ((Ext.refl w).alloc (.cells #[.string x] 9))
  obtain ⟨v', w', hr, ho, hg, _, hat⟩ := run_append_own_at (P := Try.prog) (w.alloc (.cells #[.string x] 9)) W.heap.size 95 ty 9 i (.string ⟨#[]⟩) 1 16 Try.underlying95 hi hz0 hsz hby rfl (by omega) v ns.length (ns.map strN) h.row ⟨w.heap.size, 0, none⟩ 1 1 [.string x] rfl
    (fun j u hu => by
      cases j with
      | zero => simp at hu; subst hu; simp [Addr.add]
      | succ j => simp at hu) (by simp [Value.oneCell']) (by unfold maxLen; omega) (by omega) h.x.size
  refine ⟨v', w', hr, Below.grown h.x hg h.x.size (fun k hk => (h.row.lt k hk).1), ?_⟩
  simp only [List.length_append, List.length_cons, List.length_nil, List.map_append, List.map_cons, List.map_nil, strN_eq]
  exact ho
/-- A beginning, held against another one. -/
theorem str_dec_take (x s : ByteArray) (n : Nat) (q : List UInt8) (h : s.data.toList = q) : (s.toList == (x.extract 0 n).toList) = decide (q = x.data.toList.take n) := by
  rw [ByteArray.toList_eq, ByteArray.toList_eq, Lib.extract_data, h]
  simp only [List.drop_zero, Nat.sub_zero]
  by_cases e : q = x.data.toList.take n
  · rw [decide_eq_true e]; simpa using e
  · rw [decide_eq_false e]; simpa using e

set_option maxRecDepth 100000 in
set_option maxHeartbeats 16000000 in
theorem rnodes_any (D : PatsD) (P : PatsP) (w : World) (sn : SeenPats w D P) (hp : ∀ x ∈ D.l, patB (tn x) = true) (hn : D.l.length ≤ 400) :
    Calls Try.prog 22 #[patsV D P] w (Ret w (.int .i64 ((nodesL (D.l.map tn)).length : Int))) := by
  obtain ⟨V, hV⟩ : ∃ V, V = w.alloc (.cells #[.slice P.x D.l.length P.c, .slice P.y D.m.length P.d] 37) := ⟨_, rfl⟩
  have W0 : Ext w V := by rw [hV]; exact (Ext.refl _).alloc _
  have kB : Blk V w.heap.size 37 [.slice P.x D.l.length P.c, .slice P.y D.m.length P.d] := by rw [hV]; exact Blk.lit _ _ _ _ rfl
  have SL := Lib.hid (sn.ext W0).l
  have HP := Lib.hid hp
  unfold patsV
  obtain ⟨l, m⟩ := D
  obtain ⟨A, c, A2, d⟩ := P
  dsimp only at SL HP kB hV hn ⊢
  have HX := Lib.hid W0
  obtain ⟨n, hnl⟩ : ∃ n, n = l.length := ⟨_, rfl⟩
  have HN := Lib.hid hnl
  rw [← hnl] at kB hV hn ⊢
  clear sn hp hnl W0
  generalize m.length = q at *
  go_enter Try.func22, Try.ntmps22
  go_upto_region 1 with (fail)
  rw [← hV]
  clear hV
  generalize w.heap.size = R at *
  have O0 := Lib.hid (OwnS.lit V ⟨#[]⟩)
  have Q0 := Lib.hid (kB.cell 0)
  clear kB
  go_wp2_with fail
  go_loopw [3, 4] (fun v i wr => ∃ (vv : Value) (j : Nat), vv = v ∧ j ≤ n ∧ i = .int .i64 j ∧ Hid (OwnS V wr vv (nodesL ((l.take j).map tn)))) (fun _ i _ => n - (intOf i).toNat)
  case atStart => exact ⟨_, 0, rfl, Nat.zero_le _, rfl, O0⟩
  case round =>
    obtain ⟨wo, rfl⟩ : ∃ wo : World, wo = wr := ⟨_, rfl⟩
    obtain ⟨vv, j, hvv, hj, rfl, ho⟩ := hrel
    subst hvv
    have q0 : wo.cell? ⟨R, 0, none⟩ = some (.slice A n c) := ho.out.x.at Q0.out
    by_cases hlt : j < n
    · have hlt' : j < l.length := by rw [← HN.out]; exact hlt
      obtain ⟨⟨ad, rfl, a0, a1⟩, sx⟩ := SL.out.get hlt'
      have hpx := HP.out _ (List.getElem_mem hlt')
      have hx1 := L10.pat_len hpx
      have TK := Lib.hid (show nodesL ((l.take (j + 1)).map tn) = addTo (nodesL ((l.take j).map tn)) (tn l[j]).1 (tn l[j]).1.length by rw [← nodesL_snoc, List.take_succ_eq_append_getElem hlt', List.map_append]; rfl)
      have LEN := Lib.hid (show (nodesL ((l.take j).map tn)).length ≤ 20000 by
        have h2 := (nodes_length ((l.take j).map tn)).2
        have h3 := sumLen_le (p := (l.take j).map tn) (fun x hx => by
          obtain ⟨y, hy, rfl⟩ := List.mem_map.1 hx
          exact HP.out y (List.mem_of_mem_take hy))
        rw [List.length_map, List.length_take] at h3
        omega)
      have HLT := Lib.hid (show Nat.lt j n from hlt)
      generalize nodesL ((l.take j).map tn) = N0 at *
      generalize l[j] = y at *
      obtain ⟨xs, xn, xA, xc⟩ := y
      dsimp only at a0
      simp only [tn, list_size] at hx1
      have HO := Lib.hid ho.out
      have A0 := Lib.hid a0
      have TK2 := Lib.hid (show nodesL ((l.take (j + 1)).map tn) = addTo N0 xs.data.toList xs.size by rw [TK.out]; simp only [tn, list_size])
      clear sx hpx a1 a0 ho TK
      go_wp2_with fail
      clear q0
      go_loopw [3, 5] (fun v i wr => ∃ (vv : Value) (a : Nat), vv = v ∧ 1 ≤ a ∧ a ≤ xs.size + 1 ∧ i = .int .i64 a ∧ Hid (OwnS V wr vv (addTo N0 xs.data.toList (a - 1)))) (fun _ i _ => xs.size + 1 - (intOf i).toNat)
      case atStart => exact ⟨_, 1, rfl, Nat.le_refl _, by omega, rfl, HO⟩
      case round =>
        obtain ⟨w5, rfl⟩ : ∃ w5 : World, w5 = wr := ⟨_, rfl⟩
        obtain ⟨vv, a, hvv, ha1, ha, rfl, h5⟩ := hrel
        subst hvv
        have b0 : w5.cell? ⟨R, 0, none⟩ = some (.slice (some ad) n c) := h5.out.x.at Q0.out
        have b1 : w5.cell? (ad.add (j * 2)) = some (.string xs) := h5.out.x.at A0.out
        by_cases hle : a ≤ xs.size
        · obtain ⟨q2, hq2⟩ : ∃ q2, q2 = xs.data.toList.take a := ⟨_, rfl⟩
          have hst : addTo N0 xs.data.toList (a + 1 - 1) = addQ (addTo N0 xs.data.toList (a - 1)) q2 := by
            obtain ⟨b, rfl⟩ : ∃ b, a = b + 1 := ⟨a - 1, by omega⟩
            rw [hq2]; rfl
          have hnl5 : (addTo N0 xs.data.toList (a - 1)).length ≤ 30000 := by
            have h2 := (addTo_length N0 xs.data.toList (a - 1)).2
            have h3 := LEN.out
            omega
          have HST := Lib.hid hst
          have HQ2 := Lib.hid hq2
          obtain ⟨A5, c5, rfl, s5⟩ := h5.out.look
          have H5 := Lib.hid h5.out
          have S5 := Lib.hid s5
          clear hst h5 s5
          generalize addTo N0 xs.data.toList (a - 1) = N5 at *
          obtain ⟨n5, hn5⟩ : ∃ n5, n5 = N5.length := ⟨_, rfl⟩
          have HN5 := Lib.hid hn5
          rw [← hn5] at hnl5 ⊢
          clear hn5 hq2
          go_wp2_with fail
          clear b0 b1
          go_loopw [6, 7] (fun is kk wr => ∃ (b : Bool) (k : Nat), is = .bool b ∧ k ≤ n5 ∧ kk = .int .i64 k ∧ Hid (Ext w5 wr ∧ b = decide (q2 ∈ N5.take k))) (fun _ kk _ => n5 - (intOf kk).toNat)
          case atStart => exact ⟨false, 0, rfl, Nat.zero_le _, rfl, ⟨Ext.refl _, by simp⟩⟩
          case round =>
            obtain ⟨b, k, rfl, hk, rfl, h6⟩ := hrel
            by_cases hkn : k < n5
            · have hkn' : k < N5.length := by rw [← HN5.out]; exact hkn
              have SV := Lib.hid (show N5.take (k + 1) = N5.take k ++ [N5[k]] from List.take_succ_eq_append_getElem hkn')
              obtain ⟨ad5, rfl, _, g0⟩ := S5.out k (strN N5[k]) (by simp [hkn'])
              have g0 := h6.out.1.at g0
              have b0 : wr.cell? ⟨R, 0, none⟩ = some (.slice (some ad) n c) := h6.out.1.at (H5.out.x.at Q0.out)
              have b1 : wr.cell? (ad.add (j * 2)) = some (.string xs) := h6.out.1.at (H5.out.x.at A0.out)
              obtain ⟨sk, hsk⟩ : ∃ sk : ByteArray, sk = ⟨N5[k].toArray⟩ := ⟨_, rfl⟩
              have hskl : sk.data.toList = N5[k] := by rw [hsk]
              have HD := str_dec_take xs sk a N5[k] hskl
              rw [show strN N5[k] = .string sk by rw [hsk]; rfl] at g0
              clear hsk hskl
              cases b with
              | true =>
                have NX := Lib.hid (show ∀ z, Ext w5 (wr.drewN z) ∧ true = decide (q2 ∈ N5.take (k + 1)) from fun z => ⟨h6.out.1.drewN z, by
                  rw [SV.out]
                  have := of_decide_eq_true h6.out.2.symm
                  exact (decide_eq_true (List.mem_append.2 (.inl this))).symm⟩)
                clear h6 HD
                go_wp2_with fail
                go_quiet (fail)
                rename_i nq
                go_wp2_with fail
                go_roundw
                case rel => exact ⟨true, k + 1, rfl, by omega, by go_num, Lib.hid (NX.out nq)⟩
                case measure => simp [intOf]; omega
              | false =>
                by_cases heq : N5[k] = xs.data.toList.take a
                · rw [decide_eq_true heq] at HD
                  have NX := Lib.hid (show ∀ z, Ext w5 (wr.drewN z) ∧ true = decide (q2 ∈ N5.take (k + 1)) from fun z => ⟨h6.out.1.drewN z, by
                    rw [SV.out, HQ2.out, heq]
                    simp⟩)
                  clear h6 heq
                  go_wp2_with fail
                  go_quiet (fail)
                  rename_i nq
                  go_wp2_with fail
                  go_roundw
                  case rel => exact ⟨true, k + 1, rfl, by omega, by go_num, Lib.hid (NX.out nq)⟩
                  case measure => simp [intOf]; omega
                · rw [decide_eq_false heq] at HD
                  have NX := Lib.hid (show ∀ z, Ext w5 (wr.drewN z) ∧ false = decide (q2 ∈ N5.take (k + 1)) from fun z => ⟨h6.out.1.drewN z, by
                    have h7 := of_decide_eq_false h6.out.2.symm
                    refine (decide_eq_false ?_).symm
                    rw [SV.out, List.mem_append, List.mem_singleton]
                    rintro (h | h)
                    · exact h7 h
                    · exact heq (h.symm.trans HQ2.out)⟩)
                  clear h6 heq
                  go_wp2_with fail
                  go_quiet (fail)
                  rename_i nq
                  go_wp2_with fail
                  go_roundw
                  case rel => exact ⟨false, k + 1, rfl, by omega, by go_num, Lib.hid (NX.out nq)⟩
                  case measure => simp [intOf]; omega
            · obtain rfl : k = n5 := by omega
              have hall : N5.take k = N5 := by rw [HN5.out, List.take_length]
              have O6 := Lib.hid (H5.out.ext h6.out.1)
              cases b with
              | true =>
                have NX := Lib.hid (show OwnS V wr (.slice A5 N5.length c5) (addTo N0 xs.data.toList (a + 1 - 1)) by
                  have h7 := of_decide_eq_true h6.out.2.symm
                  rw [hall] at h7
                  rw [HST.out, addQ, if_pos h7]
                  exact O6.out)
                rw [← HN5.out] at NX
                clear h6 hall
                go_wp2_with fail
                go_roundw
                case rel => exact ⟨_, a + 1, rfl, by omega, by omega, by go_num, NX⟩
                case measure => simp [intOf]; omega
              | false =>
                have b0 : wr.cell? ⟨R, 0, none⟩ = some (.slice (some ad) n c) := h6.out.1.at (H5.out.x.at Q0.out)
                have b1 : wr.cell? (ad.add (j * 2)) = some (.string xs) := h6.out.1.at (H5.out.x.at A0.out)
                obtain ⟨v2, w2, r2, o2⟩ := O6.out.put (xs.extract 0 a) (by have := HN5.out; omega) 95
                rw [← HN5.out] at r2
                have NX := Lib.hid (show OwnS V w2 v2 (addTo N0 xs.data.toList (a + 1 - 1)) by
                  have h7 := of_decide_eq_false h6.out.2.symm
                  rw [hall] at h7
                  rw [HST.out, addQ, if_neg h7]
                  have e1 : (xs.extract 0 a).data.toList = q2 := by rw [HQ2.out, Lib.extract_data]; simp
                  rw [← e1]
                  exact o2)
                clear h6 hall o2
                go_wp2_with (at_builtin; refine wpList_ran rfl _ _ rfl r2 ?_)
                go_roundw
                case rel => exact ⟨_, a + 1, rfl, by omega, by omega, by go_num, NX⟩
                case measure => simp [intOf]; omega
        · obtain rfl : a = xs.size + 1 := by omega
          have NX := Lib.hid (show OwnS V w5 vv (nodesL ((l.take (j + 1)).map tn)) by rw [TK2.out]; exact h5.out)
          clear h5
          go_wp2_with fail
          go_roundw
          case rel => exact ⟨_, j + 1, rfl, by have := HLT.out; exact this, by go_num, NX⟩
          case measure => simp [intOf]; omega
    · obtain rfl : j = n := by omega
      obtain ⟨A5, c5, rfl, s5⟩ := ho.out.look
      have h9 : nodesL ((l.take j).map tn) = nodesL (l.map tn) := by rw [HN.out, List.take_length]
      have hx := ho.out.x
      have HHX := Lib.hid (HX.out.trans hx)
      clear ho s5 hx
      rw [h9]
      clear h9
      generalize (nodesL (l.map tn)).length = z9 at *
      go_wp2_with fail
      go_ret
      exact ⟨rfl, HHX.out⟩
end L11
end Go.Proofs.Ytfdoohangemojaa

