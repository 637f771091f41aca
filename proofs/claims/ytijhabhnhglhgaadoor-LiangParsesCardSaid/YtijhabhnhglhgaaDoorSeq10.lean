/- strings.FieldsFuncSeq over the landed gap: for every loop's body. -/
import Derived.Test.YtijhabhnhglhgaaDoorLandA10
import Derived.Test.YtijhabhnhglhgaaDoorChg
import Derived.RangeFuncNested
import Derived.RangeFuncBound
import Derived.RangeFuncCalls
import Derived.RangeFuncLeaves
import Derived.OwnWalkIn
import Derived.TacticsInMore
import Derived.LoopNIn
import Derived.LoopIn
import Derived.Laws.EntriesVeiled
namespace Go.Proofs.YtijhabhnhglhgaaDoor
open Go.RowKit
namespace L10

attribute [local go_sem] Oper.semAt_some

theorem seq_any (s : ByteArray) (w : World) : Calls Tryd.prog 19 #[.string s, .func (.func 20) #[] #[]] w (fun e w' =>
    e = .returned (.func (.func 33) #[] #[.pointer (some ⟨w.heap.size, 0, none⟩), .pointer (some ⟨w.heap.size + 1, 0, none⟩)]) ∧
      w' = (w.alloc (.cells #[.string s] 9)).alloc (.cells #[.func (.func 20) #[] #[]] 49)) := by
  go_enter Tryd.func19, Tryd.ntmps19
  go_wp2_with fail
  go_ret
  exact ⟨rfl, rfl⟩
theorem ba_eq {b : ByteArray} {l : List UInt8} (h : b.data.toList = l) : b = ⟨l.toArray⟩ := by
  subst h
  rfl
/-- Bytes of a rune that is no gap are put to the word that they stand in. -/
theorem wordsGo_skip : ∀ (bs acc r : List UInt8), (∀ b ∈ bs, gapB b = false) → wordsGo acc (bs ++ r) = wordsGo (acc ++ bs) r
  | [], acc, r, _ => by simp
  | b :: bs, acc, r, h => by
    rw [List.cons_append, wordsGo, if_neg (by rw [h b (by simp)]; decide), wordsGo_skip bs (acc ++ [b]) r (fun c hc => h c (by simp [hc]))]
    simp
theorem gap_nat (b : UInt8) : gapB b = gapN (b.toNat : Int) := by
  unfold gapB gapN
  rw [decide_eq_decide]
  have e : ∀ k : UInt8, b = k ↔ (b.toNat : Int) = k.toNat := fun k => by
    rw [← UInt8.toNat_inj]; omega
  rw [e 9, e 10, e 13, e 32]
  rfl
/-- The rune at a place: it is a byte, or it is none, and no gap. -/
theorem rune_at (s : ByteArray) (i : Nat) (h : i < s.size) :
    ∃ (R K : Nat), Lib.decodeGo (s.extract i s.size) = (R, K) ∧ 1 ≤ K ∧ i + K ≤ s.size ∧ R ≤ 2147483647 ∧
      ((gapN R = true ∧ K = 1 ∧ ∃ b r, s.data.toList.drop i = b :: r ∧ gapB b = true) ∨ (gapN R = false ∧ ∀ acc, wordsGo acc (s.data.toList.drop i) = wordsGo (acc ++ (s.data.toList.drop i).take K) (s.data.toList.drop (i + K)))) := by
  obtain ⟨t, ht⟩ : ∃ t, t = s.extract i s.size := ⟨_, rfl⟩
  have hts : t.size = s.size - i := by rw [ht, ← list_len, Lib.extract_data, List.length_take, List.length_drop, list_len]; omega
  have htl : t.data.toList = s.data.toList.drop i := by
    rw [ht, Lib.extract_data, List.take_of_length_le (by rw [List.length_drop, list_len]; omega)]
  rw [← ht]
  have h0 : 0 < t.size := by omega
  have hd : Lib.decodeGo t = Utf8.decode t 0 := if_neg (by omega)
  have hcons := drop_cons t 0 h0
  rw [List.drop_zero] at hcons
  rw [hd]
  refine ⟨(Utf8.decode t 0).1, (Utf8.decode t 0).2, rfl, decode_pos t 0 h0, ?_, decode_le t 0, ?_⟩
  · by_cases h1 : (t.get! 0).toNat < 128
    · rw [decode_one t 0 h1]; show i + 1 ≤ _; omega
    · have := (decode_wide t 0 h0 (by omega)).2.2.1; omega
  · by_cases h1 : (t.get! 0).toNat < 128
    · rw [decode_one t 0 h1]
      rw [← gap_nat]
      cases hg : gapB (t.get! 0) with
      | true => exact .inl ⟨rfl, rfl, _, _, htl ▸ hcons, hg⟩
      | false =>
        refine .inr ⟨rfl, fun acc => ?_⟩
        rw [← List.drop_drop, ← htl]
        show wordsGo acc t.data.toList = wordsGo (acc ++ t.data.toList.take 1) (t.data.toList.drop 1)
        conv => lhs; rw [hcons]
        rw [wordsGo, if_neg (by rw [hg]; decide)]
        congr 1
        · rw [hcons]; rfl
    · obtain ⟨w1, w2, w3, w4⟩ := decode_wide t 0 h0 (by omega)
      refine .inr ⟨?_, fun acc => ?_⟩
      · unfold gapN
        rw [decide_eq_false_iff_not]
        omega
      · rw [← List.drop_drop, ← htl]
        conv => lhs; rw [← List.take_append_drop (Utf8.decode t 0).2 t.data.toList]
        refine wordsGo_skip _ _ _ fun b hb => ?_
        obtain ⟨j, hj, rfl⟩ := List.getElem_of_mem hb
        rw [List.length_take] at hj
        have hj2 : j < t.size := by omega
        have h5 := w4 j (by omega)
        rw [Nat.zero_add, get_list t j hj2, List.getD, List.getElem?_eq_getElem (by rw [list_len]; exact hj2), Option.getD_some] at h5
        rw [List.getElem_take, gap_nat]
        unfold gapN
        rw [decide_eq_false_iff_not]
        omega
theorem tabs_chg {T : Addr → Prop} {N : Nat} {w w' : World} (h : Tabs w) (x : Chg T N w w') (hT : ∀ p, T p → 2 ≤ p.block) : Tabs w' :=
  ⟨fun c hc => x.cell _ _ (fun t => by have := hT _ t; simp at this) (h.1 c hc), fun i hi => ⟨x.cell _ _ (fun t => by have := hT _ t; simp at this) (h.2 i hi).1, x.cell _ _ (fun t => by have := hT _ t; simp at this) (h.2 i hi).2⟩⟩

set_option maxRecDepth 100000 in
set_option maxHeartbeats 8000000 in
theorem fields_in (n l0 b : Nat) (s : ByteArray) (hs : s.size ≤ 1000000) (T : Addr → Prop) (N : Nat) (hT : Hid (∀ p, T p → 2 ≤ p.block ∧ p.block ≠ b ∧ p.block ≠ b + 1)) (J Jx : List (List UInt8) → World → Prop) (hE : ∀ pre A B, J pre A → Ext A B → J pre B)
    (hY : ∀ pre x W, J pre W → pre.length < (wordsL s.data.toList).length → YieldAt Fence.wide (n - 1) Tryd.prog l0 #[.string ⟨x.toArray⟩] W fun e W' =>
      (e = .returned (.bool true) ∧ J (pre ++ [x]) W' ∧ Chg T N W W') ∨ (e = .returned (.bool false) ∧ Jx (pre ++ [x]) W'))
    (W : World) (k0 : W.cell? ⟨b, 0, none⟩ = some (.string s)) (k1 : W.cell? ⟨b + 1, 0, none⟩ = some (.func (.func 20) #[] #[])) (ht : Tabs W) (h0 : J [] W) :
    CallsIn Fence.wide n Tryd.prog 33 #[.func (.yield l0) #[] #[], .pointer (some ⟨b, 0, none⟩), .pointer (some ⟨b + 1, 0, none⟩)] W fun e W' => (∃ v, e = .returned v) ∧
      ((∃ xs, xs = wordsL s.data.toList ∧ J xs W') ∨ (∃ pre, pre <+: wordsL s.data.toList ∧ Jx pre W')) := by
  have HA := Lib.hid (show wordsL s.data.toList = [] ++ wordsGo [] (s.data.toList.drop 0) from rfl)
  obtain ⟨sq, hsq⟩ : ∃ sq, sq = wordsL s.data.toList := ⟨_, rfl⟩
  rw [← hsq] at hY HA ⊢
  clear hsq
  have HTB := Lib.hid ht
  refine callsIn_of_wp Tryd.func33 rfl trivial ?_ rfl
  simp only [Tryd.ntmps33, List.size_toArray, List.length_cons, List.length_nil, Nat.reduceAdd, Nat.reduceSub, Array.replicate_succ, Array.replicate_zero, List.push_toArray, List.append_toArray, List.nil_append, List.cons_append]
  gi_wp2
  gi_loopw [4, 5] (fun sv iv wr => ∃ (pre : List (List UInt8)) (st : Int) (i : Nat) (acc : List UInt8), sv = .int .i64 st ∧ iv = .int .i64 i ∧ i ≤ s.size ∧ Hid (sq = pre ++ wordsGo acc (s.data.toList.drop i)) ∧
    Hid ((st = -1 ∧ acc = []) ∨ ∃ k : Nat, st = k ∧ k < i ∧ acc = (s.data.toList.drop k).take (i - k)) ∧ -1 ≤ st ∧ st ≤ 1000000 ∧ Hid (J pre wr) ∧ Hid (Chg T N W wr)) (fun _ iv _ => 1000001 - (intOf iv).toNat)
  case atStart => exact ⟨[], -1, 0, [], rfl, rfl, Nat.zero_le _, HA, Lib.hid (.inl ⟨rfl, rfl⟩), by omega, by omega, Lib.hid h0, Lib.hid (Chg.refl _ _ _)⟩
  case round =>
    obtain ⟨pre, st, i, acc, rfl, rfl, his, hp, hst, hs1, hs2, hJ, hC⟩ := hrel
    have k0 := hC.out.cell _ _ (fun t => (hT.out _ t).2.1 rfl) k0
    have k1 := hC.out.cell _ _ (fun t => (hT.out _ t).2.2 rfl) k1
    have hs64 : (s.size : Int) ≤ 1000000 := by omega
    by_cases hlt : i < s.size
    · obtain ⟨R, K, hd, hK1, hK2, hR, hcase⟩ := rune_at s i hlt
      have HT := Lib.hid (tabs_chg HTB.out hC.out (fun p t => (hT.out p t).1))
      have C1 := Lib.hid (fun w' (x : Ext wr w') => Tryd.utf8_DecodeRuneInString (s.extract i s.size) w' (HT.out.ext x))
      rw [hd] at C1
      have HC := Lib.hid hcase
      have hi64 : (i : Int) < (s.size : Int) := by omega
      have hiK : (i : Int) + (K : Int) ≤ 1000000 := by omega
      clear hd hcase
      gi_wp2
      refine ⟨trivial, fun h => by simp [Fence.wide] at h, (callsIn_wide.2 (C1.out wr (Ext.refl _))).mono ?_⟩
      rintro e w2 ⟨rfl, x2⟩
      have x2 : Ext wr w2 := x2
      have k0 := x2.at k0
      have k1 := x2.at k1
      gi_wp2
      refine ⟨trivial, fun h => by simp [Fence.wide] at h, (callsIn_wide.2 (gap_any (R : Int) w2)).mono ?_⟩
      rintro e w3 ⟨rfl, x3⟩
      have k0 := x3.at k0
      have k1 := x3.at k1
      have J3 := Lib.hid (hE _ _ _ hJ.out (x2.trans x3))
      have C3 := Lib.hid (hC.out.trans (Chg.of_ext (x2.trans x3)))
      clear C1 HT x2 x3 hJ hC
      cases hg : gapN (R : Int) with
      | true =>
        obtain ⟨rfl, b0, r, hdr, hgb⟩ : K = 1 ∧ ∃ b r, s.data.toList.drop i = b :: r ∧ gapB b = true := by
          rcases HC.out with ⟨_, h2, h3⟩ | ⟨h1, _⟩
          · exact ⟨h2, h3⟩
          · rw [hg] at h1; cases h1
        have hr : r = s.data.toList.drop (i + 1) := by rw [← List.drop_drop, hdr]; rfl
        have HP2 := Lib.hid (show sq = pre ++ (if acc = [] then wordsGo [] (s.data.toList.drop (i + 1)) else acc :: wordsGo [] (s.data.toList.drop (i + 1))) by rw [hp.out, hdr, wordsGo, if_pos hgb, hr])
        clear HC hdr hgb hr hp hg
        by_cases h0s : 0 ≤ st
        · obtain ⟨k, hk, hki, hacc⟩ : ∃ k : Nat, st = k ∧ k < i ∧ acc = (s.data.toList.drop k).take (i - k) := by
            rcases hst.out with ⟨h1, _⟩ | h
            · omega
            · exact h
          subst hk
          have hne : acc ≠ [] := by
            intro e
            rw [e] at hacc
            have := congrArg List.length hacc
            rw [List.length_take, List.length_drop, list_len] at this
            simp at this
            omega
          have HP3 := Lib.hid (show sq = pre ++ acc :: wordsGo [] (s.data.toList.drop (i + 1)) by rw [HP2.out, if_neg hne])
          have hpl : pre.length < sq.length := by rw [HP3.out]; simp
          have hx : s.extract k i = ⟨acc.toArray⟩ := ba_eq (by rw [Lib.extract_data, hacc])
          obtain ⟨fn, tmps, assign, body, hy, hR'⟩ := hY pre acc w3 J3.out hpl
          rw [← hx] at hy
          have hki64 : (k : Int) ≤ (i : Int) := by omega
          clear hacc hne hx HP2 hst
          gi_wp2
          refine ⟨fun h => by simp [Fence.wide] at h, hR'.mono ?_⟩
          rintro e W3 (⟨rfl, hJ3, hk3⟩ | ⟨rfl, hJx3⟩)
          · have C4 := Lib.hid (C3.out.trans hk3)
            have J4 := Lib.hid hJ3
            clear hk3 hJ3 hR' hy
            gi_wp2
            go_roundw
            case rel => exact ⟨pre ++ [acc], -1, i + 1, [], rfl, by go_num, by omega, Lib.hid (by rw [HP3.out]; simp), Lib.hid (.inl ⟨rfl, rfl⟩), by omega, by omega, J4, C4⟩
            case measure => simp [intOf]; omega
          · have HX := Lib.hid hJx3
            clear hR' hy hJx3
            gi_wp2
            refine bodyPost_ret (results_none rfl _ _ _) rfl ?_
            exact ⟨⟨_, rfl⟩, .inr ⟨pre ++ [acc], ⟨wordsGo [] (s.data.toList.drop (i + 1)), by rw [HP3.out]; simp⟩, HX.out⟩⟩
        · have hac : acc = [] ∧ st = -1 := by
            rcases hst.out with ⟨h1, h2⟩ | ⟨k, h, _⟩
            · exact ⟨h2, h1⟩
            · omega
          obtain ⟨hac, hst1⟩ := hac
          subst hac hst1
          have HP3 := Lib.hid (show sq = pre ++ wordsGo [] (s.data.toList.drop (i + 1)) by rw [HP2.out, if_pos rfl])
          clear HP2
          gi_wp2
          go_roundw
          case rel => exact ⟨pre, -1, i + 1, [], rfl, by go_num, by omega, HP3, Lib.hid (.inl ⟨rfl, rfl⟩), by omega, by omega, J3, C3⟩
          case measure => simp [intOf]; omega
      | false =>
        have HW := Lib.hid (show ∀ acc, wordsGo acc (s.data.toList.drop i) = wordsGo (acc ++ (s.data.toList.drop i).take K) (s.data.toList.drop (i + K)) from by
          rcases HC.out with ⟨h1, _⟩ | ⟨_, h⟩
          · rw [hg] at h1; cases h1
          · exact h)
        have HP2 := Lib.hid (show sq = pre ++ wordsGo (acc ++ (s.data.toList.drop i).take K) (s.data.toList.drop (i + K)) by rw [hp.out, HW.out])
        clear HC HW hp hg
        by_cases h0s : st < 0
        · have hac : acc = [] := by
            rcases hst.out with ⟨h1, h2⟩ | ⟨k, h, _⟩
            · exact h2
            · omega
          subst hac
          have ST := Lib.hid (show ((i : Int) = -1 ∧ ([] ++ (s.data.toList.drop i).take K : List UInt8) = []) ∨ ∃ k : Nat, (i : Int) = k ∧ k < i + K ∧ ([] ++ (s.data.toList.drop i).take K : List UInt8) = (s.data.toList.drop k).take (i + K - k) from .inr ⟨i, rfl, by omega, by rw [List.nil_append]; congr 1; omega⟩)
          clear hst
          gi_wp2
          go_roundw
          case rel => exact ⟨pre, i, i + K, _, rfl, by go_num, by omega, HP2, ST, by omega, by omega, J3, C3⟩
          case measure => simp [intOf]; omega
        · obtain ⟨k, hk, hki, hacc⟩ : ∃ k : Nat, st = k ∧ k < i ∧ acc = (s.data.toList.drop k).take (i - k) := by
            rcases hst.out with ⟨h1, _⟩ | h
            · omega
            · exact h
          have ST := Lib.hid (show (st = -1 ∧ (acc ++ (s.data.toList.drop i).take K : List UInt8) = []) ∨ ∃ k : Nat, st = k ∧ k < i + K ∧ (acc ++ (s.data.toList.drop i).take K : List UInt8) = (s.data.toList.drop k).take (i + K - k) from .inr ⟨k, hk, by omega, by
            rw [hacc, show i + K - k = (i - k) + K by omega, List.take_add, List.drop_drop, show k + (i - k) = i by omega]⟩)
          clear hst hacc hk
          gi_wp2
          go_roundw
          case rel => exact ⟨pre, st, i + K, _, rfl, by go_num, by omega, HP2, ST, by omega, by omega, J3, C3⟩
          case measure => simp [intOf]; omega
    · obtain rfl : i = s.size := by omega
      have hdz : s.data.toList.drop s.size = [] := List.drop_of_length_le (by rw [list_len]; exact Nat.le_refl _)
      by_cases h0s : 0 ≤ st
      · obtain ⟨k, hk, hki, hacc⟩ : ∃ k : Nat, st = k ∧ k < s.size ∧ acc = (s.data.toList.drop k).take (s.size - k) := by
          rcases hst.out with ⟨h1, _⟩ | h
          · omega
          · exact h
        subst hk
        have hne : acc ≠ [] := by
          intro e
          rw [e] at hacc
          have := congrArg List.length hacc
          rw [List.length_take, List.length_drop, list_len] at this
          simp at this
          omega
        have HP3 := Lib.hid (show sq = pre ++ [acc] by rw [hp.out, hdz, wordsGo, if_neg hne])
        have hpl : pre.length < sq.length := by rw [HP3.out]; simp
        have hx : s.extract k s.size = ⟨acc.toArray⟩ := ba_eq (by rw [Lib.extract_data, hacc])
        obtain ⟨fn, tmps, assign, body, hy, hR'⟩ := hY pre acc wr hJ.out hpl
        rw [← hx] at hy
        have hki64 : (k : Int) ≤ (s.size : Int) := by omega
        clear hacc hne hx hst hp hdz
        gi_wp2
        refine ⟨fun h => by simp [Fence.wide] at h, hR'.mono ?_⟩
        rintro e W3 (⟨rfl, hJ3, hk3⟩ | ⟨rfl, hJx3⟩)
        · gi_wp2
          go_end0
          first | exact ⟨⟨_, rfl⟩, .inl ⟨_, HP3.out.symm, hJ3⟩⟩ | exact ⟨⟨_, rfl⟩, .inl (HP3.out.symm ▸ hJ3)⟩
        · gi_wp2
          go_end0
          exact ⟨⟨_, rfl⟩, .inr ⟨_, ⟨[], by rw [HP3.out]; simp⟩, hJx3⟩⟩
      · have hac : acc = [] := by
          rcases hst.out with ⟨h1, h2⟩ | ⟨k, h, _⟩
          · exact h2
          · omega
        subst hac
        have HP3 := Lib.hid (show pre = sq by rw [hp.out, hdz, wordsGo, if_pos rfl, List.append_nil])
        clear hp hdz hst
        gi_wp2
        go_end0
        first | exact ⟨⟨_, rfl⟩, .inl ⟨pre, HP3.out, hJ.out⟩⟩ | exact ⟨⟨_, rfl⟩, .inl (HP3.out ▸ hJ.out)⟩
theorem fields_stops (n b : Nat) (s : ByteArray) (hs : s.size ≤ 1000000) (T : Addr → Prop) (N : Nat) (hT : ∀ p, T p → 2 ≤ p.block ∧ p.block ≠ b ∧ p.block ≠ b + 1) (w : World)
    (k0 : w.cell? ⟨b, 0, none⟩ = some (.string s)) (k1 : w.cell? ⟨b + 1, 0, none⟩ = some (.func (.func 20) #[] #[])) (ht : Tabs w) :
    SeqStopsK Fence.wide n Tryd.prog 33 #[.pointer (some ⟨b, 0, none⟩), .pointer (some ⟨b + 1, 0, none⟩)] (fun x => #[.string ⟨x.toArray⟩]) (Chg T N) (fun ys => ys = wordsL s.data.toList) (fun pre => pre <+: wordsL s.data.toList) (wordsL s.data.toList).length w :=
  fun l J Jx W hW hJ _ hY h0 => by
    have x : Ext w W := hW
    exact fields_in n l b s hs T N (Lib.hid hT) J Jx (fun pre A B h y => hJ pre A B none h ⟨y.os, y.tape, y.output, y.size, fun k hk _ => y.block k hk⟩ (fun r e => by cases e)) hY W (x.at k0) (x.at k1) (ht.ext x) h0
end L10
end Go.Proofs.YtijhabhnhglhgaaDoor

