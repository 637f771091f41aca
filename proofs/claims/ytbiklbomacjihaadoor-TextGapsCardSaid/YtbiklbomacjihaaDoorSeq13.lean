/- bytes.FieldsFuncSeq over the landed gap of layer 13: for every loop's body. -/
import Derived.Test.YtbiklbomacjihaaDoorDoor
import Derived.Test.YtbiklbomacjihaaDoorShelf
import Derived.Test.YtbiklbomacjihaaDoorLiangR10
import Derived.Test.YtbiklbomacjihaaDoorBytes
import Derived.Test.YtbiklbomacjihaaDoorChg
import Derived.RangeFuncNested
import Derived.RangeFuncBound
import Derived.RangeFuncCalls
import Derived.RangeFuncLeaves
import Derived.OwnWalkIn
import Derived.TacticsInMore
import Derived.LoopNIn
import Derived.LoopIn
import Derived.Laws.EntriesVeiled
import Derived.Lib.OthersKept
namespace Go.Proofs.YtbiklbomacjihaaDoor
open Go.RowKit
namespace L13
open L10 (gapB wordsGo wordsL list_len decode_pos decode_one decode_wide drop_cons get_list)

attribute [local go_sem] Oper.semAt_some

def gapN (r : Int) : Bool := decide (r = 9 ∨ r = 10 ∨ r = 13 ∨ r = 32)
theorem gap_any (r : Int) (w : World) : Calls Tryd.prog 30 #[.int .i32 r] w (Ret w (.bool (gapN r))) := by
  have key : ∀ b : Bool, gapN r = b → Calls Tryd.prog 30 #[.int .i32 r] w (Ret w (.bool b)) := by
    intro b hb
    by_cases h1 : r = 9
    · obtain rfl : b = true := by rw [← hb, gapN]; simp [h1]
      subst h1
      go_enter Tryd.func30, Tryd.ntmps30
      go_wp2_with fail
      go_ret
      exact ⟨rfl, Ext.refl _⟩
    · by_cases h2 : r = 10
      · obtain rfl : b = true := by rw [← hb, gapN]; simp [h2]
        subst h2
        go_enter Tryd.func30, Tryd.ntmps30
        go_wp2_with fail
        go_ret
        exact ⟨rfl, Ext.refl _⟩
      · by_cases h3 : r = 13
        · obtain rfl : b = true := by rw [← hb, gapN]; simp [h3]
          subst h3
          go_enter Tryd.func30, Tryd.ntmps30
          go_wp2_with fail
          go_ret
          exact ⟨rfl, Ext.refl _⟩
        · by_cases h4 : r = 32
          · obtain rfl : b = true := by rw [← hb, gapN]; simp [h4]
            subst h4
            go_enter Tryd.func30, Tryd.ntmps30
            go_wp2_with fail
            go_ret
            exact ⟨rfl, Ext.refl _⟩
          · obtain rfl : b = false := by rw [← hb, gapN]; simp [h1, h2, h3, h4]
            have e1 : (r == 9) = false := by simpa using h1
            have e2 : (r == 10) = false := by simpa using h2
            have e3 : (r == 13) = false := by simpa using h3
            have e4 : (r == 32) = false := by simpa using h4
            clear hb h1 h2 h3 h4
            go_enter Tryd.func30, Tryd.ntmps30
            go_wp2_with fail
            go_ret
            exact ⟨rfl, Ext.refl _⟩
  exact key _ rfl
theorem ba_eq {b : ByteArray} {l : List UInt8} (h : b.data.toList = l) : b = ⟨l.toArray⟩ := by
  subst h
  rfl
/-- Bytes of a rune that is no gap are put to the word that they stand in. -/
theorem wordsGo_skip : ∀ (bs acc r : List UInt8), (∀ b ∈ bs, gapB b = false) → wordsGo acc (bs ++ r) = wordsGo (acc ++ bs) r
  | [], acc, r, _ => by simp
  | b :: bs, acc, r, h => by
    rw [List.cons_append, wordsGo, if_neg (by rw [h b (by simp)]; decide), wordsGo_skip bs (acc ++ [b]) r (fun c hc => h c (by simp [hc]))]
    simp
theorem gap_nat (b : UInt8) : gapB b = gapN (b.toNat : Int) := by
  unfold gapB gapN
  rw [decide_eq_decide]
  have e : ∀ k : UInt8, b = k ↔ (b.toNat : Int) = k.toNat := fun k => by
    rw [← UInt8.toNat_inj]; omega
  rw [e 9, e 10, e 13, e 32]
  rfl
/-- The rune at a place: it is a byte, or it is none, and no gap. -/
theorem rune_at (s : ByteArray) (i : Nat) (h : i < s.size) :
    ∃ (R K : Nat), Lib.decodeGo (s.extract i s.size) = (R, K) ∧ 1 ≤ K ∧ i + K ≤ s.size ∧ R ≤ 2147483647 ∧
      ((gapN R = true ∧ K = 1 ∧ ∃ b r, s.data.toList.drop i = b :: r ∧ gapB b = true) ∨ (gapN R = false ∧ ∀ acc, wordsGo acc (s.data.toList.drop i) = wordsGo (acc ++ (s.data.toList.drop i).take K) (s.data.toList.drop (i + K)))) := by
  obtain ⟨t, ht⟩ : ∃ t, t = s.extract i s.size := ⟨_, rfl⟩
  have hts : t.size = s.size - i := by rw [ht, ← list_len, Lib.extract_data, List.length_take, List.length_drop, list_len]; omega
  have htl : t.data.toList = s.data.toList.drop i := by
    rw [ht, Lib.extract_data, List.take_of_length_le (by rw [List.length_drop, list_len]; omega)]
  rw [← ht]
  have h0 : 0 < t.size := by omega
  have hd : Lib.decodeGo t = Utf8.decode t 0 := if_neg (by omega)
  have hcons := drop_cons t 0 h0
  rw [List.drop_zero] at hcons
  rw [hd]
  refine ⟨(Utf8.decode t 0).1, (Utf8.decode t 0).2, rfl, decode_pos t 0 h0, ?_, decode_le t 0, ?_⟩
  · by_cases h1 : (t.get! 0).toNat < 128
    · rw [decode_one t 0 h1]; show i + 1 ≤ _; omega
    · have := (decode_wide t 0 h0 (by omega)).2.2.1; omega
  · by_cases h1 : (t.get! 0).toNat < 128
    · rw [decode_one t 0 h1]
      rw [← gap_nat]
      cases hg : gapB (t.get! 0) with
      | true => exact .inl ⟨rfl, rfl, _, _, htl ▸ hcons, hg⟩
      | false =>
        refine .inr ⟨rfl, fun acc => ?_⟩
        rw [← List.drop_drop, ← htl]
        show wordsGo acc t.data.toList = wordsGo (acc ++ t.data.toList.take 1) (t.data.toList.drop 1)
        conv => lhs; rw [hcons]
        rw [wordsGo, if_neg (by rw [hg]; decide)]
        congr 1
        · rw [hcons]; rfl
    · obtain ⟨w1, w2, w3, w4⟩ := decode_wide t 0 h0 (by omega)
      refine .inr ⟨?_, fun acc => ?_⟩
      · unfold gapN
        rw [decide_eq_false_iff_not]
        omega
      · rw [← List.drop_drop, ← htl]
        conv => lhs; rw [← List.take_append_drop (Utf8.decode t 0).2 t.data.toList]
        refine wordsGo_skip _ _ _ fun b hb => ?_
        obtain ⟨j, hj, rfl⟩ := List.getElem_of_mem hb
        rw [List.length_take] at hj
        have hj2 : j < t.size := by omega
        have h5 := w4 j (by omega)
        rw [Nat.zero_add, get_list t j hj2, List.getD, List.getElem?_eq_getElem (by rw [list_len]; exact hj2), Option.getD_some] at h5
        rw [List.getElem_take, gap_nat]
        unfold gapN
        rw [decide_eq_false_iff_not]
        omega
theorem seq_any (A : Option Addr) (n c : Nat) (w : World) : Calls Tryd.prog 29 #[.slice A n c, .func (.func 30) #[] #[]] w (fun e w' =>
    e = .returned (.func (.func 33) #[] #[.pointer (some ⟨w.heap.size, 0, none⟩), .pointer (some ⟨w.heap.size + 1, 0, none⟩)]) ∧
      w' = (w.alloc (.cells #[.slice A n c] 22)).alloc (.cells #[.func (.func 30) #[] #[]] 53)) := by
  go_enter Tryd.func29, Tryd.ntmps29
  go_wp2_with fail
  go_ret
  exact ⟨rfl, rfl⟩
/-- A part of so many bytes: where it begins, and where it ends. -/
abbrev Span (m : Nat) := { p : Nat × Nat // p.1 < p.2 ∧ p.2 ≤ m }
def cutL (l : List UInt8) (p : Span l.length) : List UInt8 := (l.drop p.1.1).take (p.1.2 - p.1.1)
/-- The slice of it. -/
def spanV (A : Option Addr) {m : Nat} (p : Span m) : Value := .slice (A.map (·.add p.1.1)) (p.1.2 - p.1.1) (p.1.2 - p.1.1)
theorem cutL_mk (l : List UInt8) (k i : Nat) (h1 : k < i) (h2 : i ≤ l.length) : cutL l ⟨(k, i), h1, h2⟩ = (l.drop k).take (i - k) := rfl
theorem plain_addr {w : World} {a : Addr} {v : Value} (h : w.cell? a = some v) : a = ⟨a.block, a.off, none⟩ := by
  obtain ⟨b, o, sp⟩ := a
  cases sp with
  | none => rfl
  | some s =>
    unfold World.cell? at h
    simp only [Option.isSome_some, if_true] at h
    split at h <;> cases h

set_option maxRecDepth 100000 in
set_option maxHeartbeats 8000000 in
theorem fields_in (n l0 b : Nat) (A : Option Addr) (l : List UInt8) (m c : Nat) (hm : m = l.length) (hm1 : m ≤ 1000000) (hc : m ≤ c) (hc1 : c ≤ maxLen) (w0 : World) (hs : SeenB w0 A l) (ht : Tabs w0) (T : Addr → Prop) (N : Nat) (hN : w0.heap.size ≤ N) (hT : Hid (∀ p, T p → p.block ≠ b ∧ p.block ≠ b + 1))
    (J Jx : List (Span l.length) → World → Prop) (hE : ∀ pre A B, J pre A → Ext A B → J pre B)
    (hY : ∀ pre x W, J pre W → pre.length < (wordsL l).length → YieldAt Fence.wide (n - 1) Tryd.prog l0 #[spanV A x] W fun e W' =>
      (e = .returned (.bool true) ∧ J (pre ++ [x]) W' ∧ Chg T N W W') ∨ (e = .returned (.bool false) ∧ Jx (pre ++ [x]) W'))
    (W : World) (k0 : W.cell? ⟨b, 0, none⟩ = some (.slice A m c)) (k1 : W.cell? ⟨b + 1, 0, none⟩ = some (.func (.func 30) #[] #[])) (hx : Ext w0 W) (h0 : J [] W) :
    CallsIn Fence.wide n Tryd.prog 33 #[.func (.yield l0) #[] #[], .pointer (some ⟨b, 0, none⟩), .pointer (some ⟨b + 1, 0, none⟩)] W fun e W' => (∃ v, e = .returned v) ∧
      ((∃ xs, xs.map (cutL l) = wordsL l ∧ J xs W') ∨ (∃ pre, pre.map (cutL l) <+: wordsL l ∧ Jx pre W')) := by
  have HA := Lib.hid (show wordsL l = (([] : List (Span l.length)).map (cutL l)) ++ wordsGo [] (l.drop 0) from rfl)
  obtain ⟨sq, hsq⟩ : ∃ sq, sq = wordsL l := ⟨_, rfl⟩
  rw [← hsq] at hY HA ⊢
  clear hsq
  unfold maxLen at hc1
  rw [show (2 : Nat) ^ 63 - 1 = 9223372036854775807 from rfl] at hc1
  have HM := Lib.hid hm
  have HS := Lib.hid hs
  have HTB := Lib.hid ht
  have HN := Lib.hid hN
  have HX := Lib.hid hx
  clear hm hs ht hx hN
  refine callsIn_of_wp Tryd.func33 rfl trivial ?_ rfl
  simp only [Tryd.ntmps33, List.size_toArray, List.length_cons, List.length_nil, Nat.reduceAdd, Nat.reduceSub, Array.replicate_succ, Array.replicate_zero, List.push_toArray, List.append_toArray, List.nil_append, List.cons_append]
  gi_wp2
  gi_loopw [4, 5] (fun sv iv wr => ∃ (pre : List (Span l.length)) (st : Int) (i : Nat) (acc : List UInt8), sv = .int .i64 st ∧ iv = .int .i64 i ∧ i ≤ m ∧ Hid (sq = pre.map (cutL l) ++ wordsGo acc (l.drop i)) ∧
    Hid ((st = -1 ∧ acc = []) ∨ ∃ k : Nat, st = k ∧ k < i ∧ acc = (l.drop k).take (i - k)) ∧ -1 ≤ st ∧ st ≤ 1000000 ∧ Hid (J pre wr) ∧ Hid (Chg T N W wr)) (fun _ iv _ => 1000001 - (intOf iv).toNat)
  case atStart => exact ⟨[], -1, 0, [], rfl, rfl, Nat.zero_le _, HA, Lib.hid (.inl ⟨rfl, rfl⟩), by omega, by omega, Lib.hid h0, Lib.hid (Chg.refl _ _ _)⟩
  case round =>
    obtain ⟨pre, st, i, acc, rfl, rfl, his, hp, hst, hs1, hs2, hJ, hC⟩ := hrel
    have k0 := hC.out.cell _ _ (fun t => (hT.out _ t).1 rfl) k0
    have k1 := hC.out.cell _ _ (fun t => (hT.out _ t).2 rfl) k1
    have hs64 : (m : Int) ≤ 1000000 := by omega
    have hc64 : (m : Int) ≤ (c : Int) := by omega
    have hcc64 : (c : Int) ≤ 9223372036854775807 := by omega
    have X := Lib.hid (hC.out.old w0 HN.out HX.out)
    by_cases hlt : i < m
    · have hlt' : i < l.length := by rw [← HM.out]; exact hlt
      obtain ⟨ad, rfl, _, hb0⟩ := HS.out.get (show 0 < l.length by omega)
      rw [Addr.add_zero'] at hb0
      obtain ⟨ab, ao, rfl⟩ : ∃ ab ao, ad = ⟨ab, ao, none⟩ := ⟨_, _, plain_addr hb0⟩
      obtain ⟨S, hS⟩ : ∃ S : ByteArray, S.data.toList = l := ⟨⟨l.toArray⟩, rfl⟩
      have hSz : S.size = m := by rw [← list_len, hS, HM.out]
      obtain ⟨R, K, hd, hK1, hK2, hR, hcase⟩ := rune_at S i (by omega)
      rw [hS] at hcase
      have hrs : (S.extract i S.size).size = m - i := by
        rw [← list_len, Lib.extract_data, List.length_take, List.length_drop, list_len, hSz]; omega
      have C1 := Lib.hid (fun w' (x : Ext wr w') => Tryd.utf8_DecodeRune (S.extract i S.size) ab (ao + i) (c - i) w' (HTB.out.ext (X.out.trans x)) (fun j hj => by
        rw [hrs] at hj
        obtain ⟨a2, e2, _, h2⟩ := (HS.out.ext (X.out.trans x)).get (show i + j < l.length by rw [← HM.out]; omega)
        cases e2
        rw [Lib.add_plain2] at h2
        rw [show ao + i + j = ao + (i + j) by omega, h2, get_list _ j (by rw [hrs]; exact hj), Lib.extract_data, List.getD, List.getElem?_take, List.getElem?_drop, hS, if_pos (by rw [hSz]; omega), List.getElem?_eq_getElem (show i + j < l.length by rw [← HM.out]; omega)]
        rfl))
      rw [hd, hrs] at C1
      rw [hSz] at hK2
      have HC := Lib.hid hcase
      have hi64 : (i : Int) < (m : Int) := by omega
      have hic64 : (i : Int) ≤ (c : Int) := by omega
      have hiK : (i : Int) + (K : Int) ≤ 1000000 := by omega
      have hci : ¬ c = i := by omega
      clear hd hcase hS hSz hrs
      gi_wp2
      refine ⟨trivial, fun h => by simp [Fence.wide] at h, (callsIn_wide.2 (C1.out wr (Ext.refl _))).mono ?_⟩
      rintro e w2 ⟨rfl, x2⟩
      have x2 : Ext wr w2 := x2
      have k0 := x2.at k0
      have k1 := x2.at k1
      gi_wp2
      refine ⟨trivial, fun h => by simp [Fence.wide] at h, (callsIn_wide.2 (gap_any (R : Int) w2)).mono ?_⟩
      rintro e w3 ⟨rfl, x3⟩
      have k0 := x3.at k0
      have k1 := x3.at k1
      have J3 := Lib.hid (hE _ _ _ hJ.out (x2.trans x3))
      have C3 := Lib.hid (hC.out.trans (Chg.of_ext (x2.trans x3)))
      clear C1 x2 x3 hJ hC X
      cases hg : gapN (R : Int) with
      | true =>
        obtain ⟨rfl, b0, r, hdr, hgb⟩ : K = 1 ∧ ∃ b r, l.drop i = b :: r ∧ gapB b = true := by
          rcases HC.out with ⟨_, h2, h3⟩ | ⟨h1, _⟩
          · exact ⟨h2, h3⟩
          · rw [hg] at h1; cases h1
        have hr : r = l.drop (i + 1) := by rw [← List.drop_drop, hdr]; rfl
        have HP2 := Lib.hid (show sq = pre.map (cutL l) ++ (if acc = [] then wordsGo [] (l.drop (i + 1)) else acc :: wordsGo [] (l.drop (i + 1))) by rw [hp.out, hdr, wordsGo, if_pos hgb, hr])
        clear HC hdr hgb hr hp hg
        by_cases h0s : 0 ≤ st
        · obtain ⟨k, hk, hki, hacc⟩ : ∃ k : Nat, st = k ∧ k < i ∧ acc = (l.drop k).take (i - k) := by
            rcases hst.out with ⟨h1, _⟩ | h
            · omega
            · exact h
          subst hk
          have hne : acc ≠ [] := by
            intro e
            rw [e] at hacc
            have := congrArg List.length hacc
            rw [List.length_take, List.length_drop] at this
            simp at this
            omega
          obtain ⟨x, hx, hxv⟩ : ∃ x : Span l.length, cutL l x = acc ∧ spanV (some ⟨ab, ao, none⟩) x = .slice (some ⟨ab, ao + k, none⟩) (i - k) (i - k) := ⟨⟨(k, i), hki, by omega⟩, hacc.symm, by rw [← Lib.add_plain2]; rfl⟩
          have HP3 := Lib.hid (show sq = (pre ++ [x]).map (cutL l) ++ wordsGo [] (l.drop (i + 1)) by rw [HP2.out, if_neg hne, List.map_append, ← hx]; simp)
          have hpl : pre.length < sq.length := by rw [HP3.out]; simp
          obtain ⟨fn, tmps, assign, body, hy, hR'⟩ := hY pre x w3 J3.out hpl
          rw [hxv] at hy
          have hki64 : (k : Int) ≤ (i : Int) := by omega
          have hkk : ¬ i = k := by omega
          clear hacc hne hx hxv HP2 hst
          gi_wp2
          refine ⟨fun h => by simp [Fence.wide] at h, hR'.mono ?_⟩
          rintro e W3 (⟨rfl, hJ3, hk3⟩ | ⟨rfl, hJx3⟩)
          · have C4 := Lib.hid (C3.out.trans hk3)
            have J4 := Lib.hid hJ3
            clear hk3 hJ3 hR' hy
            gi_wp2
            go_roundw
            case rel => exact ⟨pre ++ [x], -1, i + 1, [], rfl, by go_num, by omega, HP3, Lib.hid (.inl ⟨rfl, rfl⟩), by omega, by omega, J4, C4⟩
            case measure => simp [intOf]; omega
          · have HXX := Lib.hid hJx3
            clear hR' hy hJx3
            gi_wp2
            refine bodyPost_ret (results_none rfl _ _ _) rfl ?_
            exact ⟨⟨_, rfl⟩, .inr ⟨pre ++ [x], ⟨wordsGo [] (l.drop (i + 1)), HP3.out.symm⟩, HXX.out⟩⟩
        · have hac : acc = [] ∧ st = -1 := by
            rcases hst.out with ⟨h1, h2⟩ | ⟨k, h, _⟩
            · exact ⟨h2, h1⟩
            · omega
          obtain ⟨hac, hst1⟩ := hac
          subst hac hst1
          have HP3 := Lib.hid (show sq = pre.map (cutL l) ++ wordsGo [] (l.drop (i + 1)) by rw [HP2.out, if_pos rfl])
          clear HP2
          gi_wp2
          go_roundw
          case rel => exact ⟨pre, -1, i + 1, [], rfl, by go_num, by omega, HP3, Lib.hid (.inl ⟨rfl, rfl⟩), by omega, by omega, J3, C3⟩
          case measure => simp [intOf]; omega
      | false =>
        have HW := Lib.hid (show ∀ acc, wordsGo acc (l.drop i) = wordsGo (acc ++ (l.drop i).take K) (l.drop (i + K)) from by
          rcases HC.out with ⟨h1, _⟩ | ⟨_, h⟩
          · rw [hg] at h1; cases h1
          · exact h)
        have HP2 := Lib.hid (show sq = pre.map (cutL l) ++ wordsGo (acc ++ (l.drop i).take K) (l.drop (i + K)) by rw [hp.out, HW.out])
        clear HC HW hp hg
        by_cases h0s : st < 0
        · have hac : acc = [] := by
            rcases hst.out with ⟨h1, h2⟩ | ⟨k, h, _⟩
            · exact h2
            · omega
          subst hac
          have ST := Lib.hid (show ((i : Int) = -1 ∧ ([] ++ (l.drop i).take K : List UInt8) = []) ∨ ∃ k : Nat, (i : Int) = k ∧ k < i + K ∧ ([] ++ (l.drop i).take K : List UInt8) = (l.drop k).take (i + K - k) from .inr ⟨i, rfl, by omega, by rw [List.nil_append]; congr 1; omega⟩)
          clear hst
          gi_wp2
          go_roundw
          case rel => exact ⟨pre, i, i + K, _, rfl, by go_num, by omega, HP2, ST, by omega, by omega, J3, C3⟩
          case measure => simp [intOf]; omega
        · obtain ⟨k, hk, hki, hacc⟩ : ∃ k : Nat, st = k ∧ k < i ∧ acc = (l.drop k).take (i - k) := by
            rcases hst.out with ⟨h1, _⟩ | h
            · omega
            · exact h
          have ST := Lib.hid (show (st = -1 ∧ (acc ++ (l.drop i).take K : List UInt8) = []) ∨ ∃ k : Nat, st = k ∧ k < i + K ∧ (acc ++ (l.drop i).take K : List UInt8) = (l.drop k).take (i + K - k) from .inr ⟨k, hk, by omega, by
            rw [hacc, show i + K - k = (i - k) + K by omega, List.take_add, List.drop_drop, show k + (i - k) = i by omega]⟩)
          clear hst hacc hk
          gi_wp2
          go_roundw
          case rel => exact ⟨pre, st, i + K, _, rfl, by go_num, by omega, HP2, ST, by omega, by omega, J3, C3⟩
          case measure => simp [intOf]; omega
    · obtain rfl : m = i := by omega
      have hdz : l.drop m = [] := List.drop_of_length_le (by rw [HM.out]; exact Nat.le_refl _)
      by_cases h0s : 0 ≤ st
      · obtain ⟨k, hk, hki, hacc⟩ : ∃ k : Nat, st = k ∧ k < m ∧ acc = (l.drop k).take (m - k) := by
          rcases hst.out with ⟨h1, _⟩ | h
          · omega
          · exact h
        subst hk
        have hml : m ≤ l.length := by rw [HM.out]; exact Nat.le_refl _
        obtain ⟨ad, rfl, _, hb0⟩ := HS.out.get (show 0 < l.length by omega)
        rw [Addr.add_zero'] at hb0
        obtain ⟨ab, ao, rfl⟩ : ∃ ab ao, ad = ⟨ab, ao, none⟩ := ⟨_, _, plain_addr hb0⟩
        have hne : acc ≠ [] := by
          intro e
          rw [e] at hacc
          have := congrArg List.length hacc
          rw [List.length_take, List.length_drop] at this
          simp at this
          omega
        obtain ⟨x, hx, hxv⟩ : ∃ x : Span l.length, cutL l x = acc ∧ spanV (some ⟨ab, ao, none⟩) x = .slice (some ⟨ab, ao + k, none⟩) (m - k) (m - k) := ⟨⟨(k, m), hki, hml⟩, hacc.symm, by rw [← Lib.add_plain2]; rfl⟩
        have HP3 := Lib.hid (show sq = (pre ++ [x]).map (cutL l) by rw [hp.out, hdz, wordsGo, if_neg hne, List.map_append, ← hx]; rfl)
        have hpl : pre.length < sq.length := by rw [HP3.out]; simp
        obtain ⟨fn, tmps, assign, body, hy, hR'⟩ := hY pre x wr hJ.out hpl
        rw [hxv] at hy
        have hki64 : (k : Int) ≤ (m : Int) := by omega
        have hkk : ¬ m = k := by omega
        clear hacc hne hx hxv hst hp hdz hb0
        gi_wp2
        refine ⟨fun h => by simp [Fence.wide] at h, hR'.mono ?_⟩
        rintro e W3 (⟨rfl, hJ3, hk3⟩ | ⟨rfl, hJx3⟩)
        · gi_wp2
          go_end0
          exact ⟨⟨_, rfl⟩, .inl ⟨_, HP3.out.symm, hJ3⟩⟩
        · gi_wp2
          go_end0
          exact ⟨⟨_, rfl⟩, .inr ⟨_, ⟨[], by rw [HP3.out]; simp⟩, hJx3⟩⟩
      · have hac : acc = [] := by
          rcases hst.out with ⟨h1, h2⟩ | ⟨k, h, _⟩
          · exact h2
          · omega
        subst hac
        have HP3 := Lib.hid (show pre.map (cutL l) = sq by rw [hp.out, hdz, wordsGo, if_pos rfl, List.append_nil])
        clear hp hdz hst
        gi_wp2
        go_end0
        exact ⟨⟨_, rfl⟩, .inl ⟨pre, HP3.out, hJ.out⟩⟩
end L13
end Go.Proofs.YtbiklbomacjihaaDoor

