/- The landed Points of layer 12. -/
import Derived.Test.YtenajekmnggkeaaPlaceB12
namespace Go.Proofs.Ytenajekmnggkeaa
open Go.RowKit
open Go.Lib hiding intOf
namespace L12
open L10 (TN plainB patB tn)
open L11 (valsL TrieAt vals_any valsL_length list_size)

theorem places_mem {p : List TN} {l : List WP} {t : List UInt8} {v : Int} (h : v ∈ placesL p (l.map tn) t) : (∃ x ∈ l, v ∈ x.ns) ∨ (1 ≤ v ∧ v < t.length) := by
  by_cases hh : atE l t < l.length
  · rw [places_hit hh] at h
    exact .inl ⟨_, List.getElem_mem hh, h⟩
  · rw [places_none hh] at h
    exact .inr (odd_in h)
/-- The points of the places ahead of k. -/
def keptL (pl : List Int) (q : Int → Bool) (a : Nat) (k : Nat) : List Int := ((pl.take k).filter q).map fun x => (a : Int) + x
theorem kept_succ (pl : List Int) (q : Int → Bool) (a : Nat) {k : Nat} (h : k < pl.length) : keptL pl q a (k + 1) = keptL pl q a k ++ if q (pl.getD k 0) = true then [(a : Int) + pl.getD k 0] else [] := by
  have e1 : pl.take (k + 1) = pl.take k ++ [pl.getD k 0] := by
    rw [List.take_succ_eq_append_getElem h]; simp [List.getD, h]
  unfold keptL
  rw [e1, List.filter_append, List.map_append]
  congr 1
  cases hq : q (pl.getD k 0) with
  | true =>
    rw [if_pos rfl]
    simp only [List.filter_cons, hq, List.filter_nil]
    rfl
  | false =>
    simp only [List.filter_cons, hq, List.filter_nil]
    rfl
theorem kept_length (pl : List Int) (q : Int → Bool) (a k : Nat) : (keptL pl q a k).length ≤ k := by
  unfold keptL
  rw [List.length_map]
  exact Nat.le_trans (List.length_filter_le _ _) (by rw [List.length_take]; omega)
theorem kept_full (pl : List Int) (q : Int → Bool) (a : Nat) : keptL pl q a pl.length = (pl.filter q).map fun x => (a : Int) + x := by simp [keptL]
/-- The closure. -/
theorem may_any (x left right : Int) (n a b c : Nat) (w : World) (ha : w.cell? ⟨a, 0, none⟩ = some (.int .i64 left)) (hb : w.cell? ⟨b, 0, none⟩ = some (.int .i64 n)) (hc : w.cell? ⟨c, 0, none⟩ = some (.int .i64 right)) :
    Calls Try.prog 25 #[.int .i64 x, .pointer (some ⟨a, 0, none⟩), .pointer (some ⟨b, 0, none⟩), .pointer (some ⟨c, 0, none⟩)] w (Ret w (.bool (mayB n left right x))) := by
  obtain ⟨y, hy⟩ : ∃ y, IntKind.i64.wrap ((n : Int) - x) = y := ⟨_, rfl⟩
  unfold mayB
  rw [hy]
  by_cases h1 : left ≤ x
  · by_cases h2 : x ≤ n
    · by_cases h3 : right ≤ y
      all_goals
        go_enter Try.func25, Try.ntmps25
        go_wp2_with fail
        go_ret
        exact ⟨L04.ret_b (by simp [h1, h2, h3]), Ext.refl _⟩
    · have e : (decide (x ≤ (n : Int)) : Bool) = false := decide_eq_false h2
      go_enter Try.func25, Try.ntmps25
      go_wp2_with fail
      go_ret
      exact ⟨rfl, Ext.refl _⟩
  · have e : (decide (left ≤ x) : Bool) = false := decide_eq_false h1
    go_enter Try.func25, Try.ntmps25
    go_wp2_with fail
    go_ret
    exact ⟨rfl, Ext.refl _⟩
/-- What Points leaves, and answers. -/
def PointsQ (w : World) (B : Nat) (F : Nat → Prop) (p : List TN) (l : List Int) (e : Ending) (w' : World) : Prop :=
  But (Only B) w w' ∧ ∃ F' A c, e = .returned (.slice A l.length c) ∧ TrieAt w' B F' p ∧ (∀ k, F' k → F k ∨ (w.heap.size ≤ k ∧ k < w'.heap.size)) ∧ SeenL w' A l ∧ ∀ ad, A = some ad → w.heap.size ≤ ad.block

set_option maxRecDepth 100000 in
set_option maxHeartbeats 4000000 in
theorem points_any (w : World) (B : Nat) (F : Nat → Prop) (p : List TN) (T : TrieAt w B F p) (A : Option Addr) (l : List WP) (n c : Nat) (W : Option Addr) (u : List Int) (m d : Nat) (left right : Int) (hs : SeenW w A l) (hn : n = l.length) (hm : n ≤ 9223372036854775807)
    (ok : ∀ x ∈ l, x.Ok ∧ x.ns.length ≤ 900000) (su : SeenL w W u) (hu : m = u.length) (hmd : m ≤ d) (hd : d ≤ maxLen) :
    Calls Try.prog 15 #[.pointer (some ⟨B, 0, none⟩), .slice A n c, .slice W m d, .int .i64 left, .int .i64 right] w (PointsQ w B F p (pointsL p (l.map tn) u left right)) := by
  have hmf : ∀ (fn : Fn) (first cap : Array Value) (w : World), (Instr.makeFunc fn first cap).run Try.prog w = .ok (.func fn first cap) w := fun _ _ _ _ => rfl
  obtain ⟨V, hV⟩ : ∃ V, V = (w.alloc (.cells #[.int .i64 left] 3)).alloc (.cells #[.int .i64 right] 3) := ⟨_, rfl⟩
  have X0 : Ext w V := by rw [hV]; exact ((Ext.refl _).alloc _).alloc _
  have k0 : Blk V w.heap.size 3 [.int .i64 left] := by rw [hV]; exact (Blk.lit _ _ _ _ rfl).ext ((Ext.refl _).alloc _)
  have k1 : Blk V (w.heap.size + 1) 3 [.int .i64 right] := by rw [hV]; exact Blk.lit _ _ _ _ (by simp)
  have CO := Lib.hid (core_any W u m d V (su.ext X0) hu hmd hd)
  have HIN := Lib.hid (core_in u)
  obtain ⟨t, ht⟩ : ∃ t : ByteArray, t = ⟨(coreL u).toArray⟩ := ⟨_, rfl⟩
  have htl : t.data.toList = coreL u := by rw [ht]
  have htz : t.size = (coreL u).length := by rw [ht]; rfl
  rw [← ht] at CO
  rw [← htz] at HIN
  cases hb : coreB u with
  | false =>
    rw [points_no hb]
    have h0 := coreL_no hb
    rw [h0] at ht
    subst ht
    have HX := Lib.hid X0
    have TH := Lib.hid T
    generalize coreN u = cn at *
    clear hs su hu hmd hd ok htl htz hn h0 hb HIN X0 T k0 k1
    go_enter Try.func15, Try.ntmps15
    go_wp2_with fail
    rw [← hV]
    clear hV
    refine CO.out.mono ?_; rintro e w1 ⟨rfl, x1⟩
    have X1 := Lib.hid (HX.out.trans x1)
    clear x1 CO
    go_wp2_with fail
    go_ret
    exact ⟨But.of_ext X1.out, F, none, 0, rfl, TH.out.ext X1.out, fun k hk => .inl hk, SeenL.nil, fun ad e => by cases e⟩
  | true =>
    rw [points_yes hb]
    have hpl := core_plain hb
    rw [← htl] at hpl ⊢
    have htz1 := L11.plain_len hpl
    rw [list_size] at htz1 ⊢
    have hte : t.toList.isEmpty = false := by
      rw [ByteArray.toList_eq]
      cases h : t.data.toList with
      | nil => have := list_size t; rw [h] at this; simp at this; omega
      | cons a r => rfl
    generalize coreN u = cn at *
    have PL := Lib.hid (fun w' (x : Ext V w') => places_any w' B F p ((T.ext X0).ext x) A l n c t ((hs.ext X0).ext x) hn hm hpl)
    have HW := Lib.hid (fun v (hv : v ∈ placesL p (l.map tn) t.data.toList) => show -9223372036854775808 ≤ v ∧ v ≤ 9223372036854775807 by
      rcases places_mem hv with ⟨x, hx, h⟩ | h
      · exact (ok x hx).1.wide v h
      · rw [list_size] at h; omega)
    have HLN := Lib.hid (show (placesL p (l.map tn) t.data.toList).length ≤ 900000 by
      by_cases hh : atE l t.data.toList < l.length
      · rw [places_hit hh]
        exact (ok _ (List.getElem_mem hh)).2
      · rw [places_none hh]
        unfold oddL
        rw [List.length_map]
        refine Nat.le_trans (List.length_filter_le _ _) ?_
        rw [List.length_range, list_size]; omega)
    have HM := Lib.hid (show cn + t.size ≤ m ∧ m ≤ 9223372036854775807 from ⟨by have := HIN.out; omega, by unfold maxLen at hd; omega⟩)
    generalize placesL p (l.map tn) t.data.toList = pl at *
    have KS := Lib.hid (fun k => kept_succ pl (mayB t.size left right) cn (k := k))
    have KL := Lib.hid (fun k => kept_length pl (mayB t.size left right) cn k)
    have KZ := Lib.hid (show keptL pl (mayB t.size left right) cn 0 = [] from rfl)
    have MB := Lib.hid (fun x (h : mayB t.size left right x = true) => show x ≤ (t.size : Int) by
      unfold mayB at h
      simp only [Bool.and_eq_true, decide_eq_true_eq] at h
      exact h.2.1)
    have MA0 := Lib.hid (fun x w' (a b c : Nat) h0 h1 h2 => may_any x left right t.size a b c w' h0 h1 h2)
    rw [← kept_full]
    generalize keptL pl (mayB t.size left right) cn = ot at *
    generalize mayB t.size left right = q at *
    obtain ⟨z, hz⟩ : ∃ z, z = pl.length := ⟨_, rfl⟩
    have HZ := Lib.hid hz
    have hz9 : (z : Int) ≤ 900000 := by have := HLN.out; omega
    unfold PlacesQ at PL
    rw [← hz] at PL ⊢
    clear hz
    have HX := Lib.hid X0
    have TH := Lib.hid T
    clear hs su hu hmd hd ok htl htz hn hb HIN X0 T ht hpl
    go_enter Try.func15, Try.ntmps15
    go_wp2_with fail
    rw [← hV]
    clear hV
    refine CO.out.mono ?_; rintro e w1 ⟨rfl, x1⟩
    have k0 := k0.ext x1
    have k1 := k1.ext x1
    have X1 := Lib.hid x1
    clear x1 CO
    go_wp2_with fail
    have k2 := Blk.lit w1 w1.heap.size 3 #[.int .i64 t.size] rfl
    have y1 := (Ext.refl w1).alloc (.cells #[.int .i64 t.size] 3)
    have h1B : w.heap.size + 1 < w1.heap.size := k1.lt
    have hB := TH.out.lt
    generalize hW2 : w1.alloc (.cells #[.int .i64 t.size] 3) = w2 at *
    have k0 := k0.ext y1
    have k1 := k1.ext y1
    have X2 := Lib.hid (X1.out.trans y1)
    have X2w := Lib.hid (HX.out.trans (X1.out.trans y1))
    clear y1 X1 hW2
    refine (PL.out _ X2.out).mono ?_; rintro e w3 ⟨b3, F3, Ap, cp, rfl, T3, hF3, s3⟩
    have q0 := (b3.blk k0 (show ¬ w.heap.size = B by omega)).cell 0
    have q1 := (b3.blk k1 (show ¬ w.heap.size + 1 = B by omega)).cell 0
    have q2 := (b3.blk k2 (show ¬ w1.heap.size = B by omega)).cell 0
    dsimp only [List.getElem?_cons_zero] at q0 q1 q2
    have MA := Lib.hid (fun x w' (y : Ext w3 w') => MA0.out x w' w.heap.size w1.heap.size (w.heap.size + 1) (y.at q0) (y.at q2) (y.at q1))
    have NX := Lib.hid (show But (Only B) w w3 from (But.of_ext X2w.out).trans b3 (fun i hi => .inl hi))
    have T3 := Lib.hid T3
    have HF3 := Lib.hid (show ∀ k, F3 k → F k ∨ (w.heap.size ≤ k ∧ k < w3.heap.size) from fun k hk => (hF3 k hk).imp id (fun h => ⟨Nat.le_trans X2w.out.size h.1, h.2⟩))
    have S3 := Lib.hid s3
    clear b3 s3 hF3 PL k0 k1 k2 q0 q1 q2
    go_wp2_with fail
    go_loopw [15, 37] (fun v i wr => ∃ (vv : Value) (k : Nat), vv = v ∧ k ≤ z ∧ i = .int .i64 k ∧ Hid (OwnI w3 wr vv (ot k))) (fun _ i _ => z - (intOf i).toNat)
    case atStart => exact ⟨_, 0, rfl, Nat.zero_le _, rfl, Lib.hid (by rw [KZ.out]; exact OwnI.nil (Ext.refl _))⟩
    case round =>
      obtain ⟨vv, k, hvv, hk, rfl, ho⟩ := hrel
      subst hvv
      by_cases hlt : k < z
      · have hlt' : k < pl.length := by rw [← HZ.out]; exact hlt
        obtain ⟨ad, rfl, hc⟩ := (S3.out.ext ho.out.2).get hlt'
        have hs := KS.out k hlt'
        have hol := KL.out k
        have hmem := HW.out (pl.getD k 0) (by rw [List.getD, List.getElem?_eq_getElem hlt']; exact List.getElem_mem hlt')
        have hmb := MB.out (pl.getD k 0)
        have M := Lib.hid (MA.out (pl.getD k 0) wr ho.out.2)
        generalize pl.getD k 0 = x at *
        cases hq : q x with
        | false =>
          rw [hq] at hs M
          have H2 := Lib.hid (show ot (k + 1) = ot k by rw [hs]; simp)
          clear hs hmb hmem
          go_wp2_with fail
          refine M.out.mono ?_; rintro e w5 ⟨rfl, x5⟩
          have O5 := Lib.hid (ho.out.over x5)
          clear x5 M
          go_wp2_with fail
          go_roundw
          case rel => exact ⟨_, k + 1, rfl, by omega, by go_num, Lib.hid (by rw [H2.out]; exact O5.out)⟩
          case measure => simp [intOf]; omega
        | true =>
          rw [hq] at hs M
          have H2 := Lib.hid (show ot (k + 1) = ot k ++ [(cn : Int) + x] by rw [hs]; simp)
          have hxt := hmb hq
          have hw : IntKind.i64.wrap ((cn : Int) + x) = cn + x := IntWalk.i64_in _ (by have := HM.out; omega)
          clear hs hmb hmem hxt
          go_wp2_with fail
          refine M.out.mono ?_; rintro e w5 ⟨rfl, x5⟩
          obtain ⟨v3, w6, r3, o3⟩ := (ho.out.over x5).put ((cn : Int) + x) (by have := HZ.out; have := HLN.out; omega) 26
          have O3 := Lib.hid o3
          clear x5 M o3
          go_wp2_with (at_builtin; refine wpList_ran rfl _ _ rfl r3 ?_)
          go_roundw
          case rel => exact ⟨_, k + 1, rfl, by omega, by go_num, Lib.hid (by rw [H2.out]; exact O3.out)⟩
          case measure => simp [intOf]; omega
      · obtain rfl : k = z := by omega
        obtain ⟨A9, c9, rfl, s9, a9⟩ := ho.out.seen
        have FIN := Lib.hid (show PointsQ w B F p (ot k) (.returned (.slice A9 (ot k).length c9)) wr from by
          refine ⟨NX.out.trans (But.of_ext (S := Only B) ho.out.2) (fun i hi => .inl hi), F3, A9, c9, rfl, T3.out.ext ho.out.2, fun k hk => (HF3.out k hk).imp id (fun h => ⟨h.1, Nat.lt_of_lt_of_le h.2 ho.out.2.size⟩), s9, fun ad e => Nat.le_trans NX.out.size (a9 ad e)⟩)
        go_wp2_with fail
        go_ret
        exact FIN.out
end L12
end Go.Proofs.Ytenajekmnggkeaa

