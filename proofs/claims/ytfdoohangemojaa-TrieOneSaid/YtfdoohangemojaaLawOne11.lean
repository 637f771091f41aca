/- TrieOne: by one pattern alone, whose letters are the word, numbers are its values, and by none they are 0. For every input, without a condition. -/
import Derived.Test.YtfdoohangemojaaAwake11
import Derived.ChangeMaps5
namespace Go.Proofs.Ytfdoohangemojaa
open Go.ChangeShapes Go.WideShapes Go.ChangeAt Go.RowKit
open Go.Lib hiding intOf
namespace TrieOne
open L10 (TN plainB patB tn rd patsB coreL headD tailD valB)
open L11

theorem core_text (l : List UInt8) : coreL (textL l) = l := by
  unfold coreL headD textL
  rw [if_pos (by simp)]
  unfold tailD
  rw [if_pos (by simp)]
  simp
/-- May the pattern be? -/
def may (l : List UInt8) (vs : List Int) : Bool := patB (textL l, vs)
theorem may_parts {l : List UInt8} {vs : List Int} (h : may l vs = true) : plainB l = true ∧ vs.length = l.length + 3 ∧ ∀ n ∈ vs, 0 ≤ n ∧ n ≤ 9 := by
  have h1 := L10.pat_vals h
  unfold may patB at h
  simp only [core_text, Bool.and_eq_true] at h
  refine ⟨h.1, ?_, h1.2⟩
  have := h1.1
  simp only [textL_length] at this
  omega
theorem noughts (l : List UInt8) : ∀ v ∈ valsL [] l, v = 0 := fun v hv => by
  unfold valsL at hv
  split at hv
  · obtain ⟨j, _, rfl⟩ := List.mem_map.1 hv
    rfl
  · simp at hv
theorem vals_one {l : List UInt8} {vs : List Int} (h : may l vs = true) : valsL [(textL l, vs)] l = (vs.drop 1).take (l.length + 1) := by
  obtain ⟨h1, h2, h3⟩ := may_parts h
  apply List.ext_getElem?
  intro j
  by_cases hj : j < l.length + 1
  · rw [valsL_get h1 hj, numF_one (fun v hv => (h3 v hv).1), List.getElem?_take_of_lt hj, List.getElem?_drop, List.getD, List.getElem?_eq_getElem (by omega), List.getElem?_eq_getElem (by omega)]
    simp [Nat.add_comm]
  · rw [List.getElem?_eq_none (by rw [valsL_length h1]; omega), List.getElem?_eq_none (by simp; omega)]
/-- A part of a list that is seen. -/
theorem seenL_part {w : World} {ad : Addr} {vs : List Int} (h : SeenL w (some ad) vs) (k n : Nat) : SeenL w (some (ad.add k)) ((vs.drop k).take n) := fun j v hv => by
  have hj : (vs.map (Value.int .i64))[k + j]? = some v := by
    rw [List.getElem?_map] at hv ⊢
    rw [← hv]
    have hjn : j < n := by
      rcases Nat.lt_or_ge j n with h | h
      · exact h
      · rw [List.getElem?_eq_none (by simp; omega)] at hv; simp at hv
    rw [List.getElem?_take_of_lt hjn, List.getElem?_drop]
  obtain ⟨ad', e, hb, hc⟩ := h _ _ hj
  cases e
  exact ⟨_, rfl, by rw [addr_block]; exact hb, by rw [addr_add]; exact hc⟩
/-- The trie of the one pattern. -/
theorem new_one (t : ByteArray) (vs : List Int) (A : Option Addr) (c : Nat) (l : List UInt8) (ht : t.data.toList = textL l) (W : World) (b : Nat) (k : Blk W b 49 [.string t, .slice A vs.length c]) (sn : SeenL W A vs) (ok : WP.Ok ⟨t, vs, A, c⟩) :
    (may l vs = false → Calls Try.prog 16 #[.agg #[.slice (some ⟨b, 0, none⟩) 1 1, .slice none 0 0]] W (Ret W (.tuple #[.pointer none, .int .i64 100]))) ∧
    (may l vs = true → Calls Try.prog 16 #[.agg #[.slice (some ⟨b, 0, none⟩) 1 1, .slice none 0 0]] W (NewQ W [(textL l, vs)])) := by
  have e : tn ⟨t, vs, A, c⟩ = (textL l, vs) := by unfold tn; rw [ht]
  have hs : SeenPats W ⟨[⟨t, vs, A, c⟩], []⟩ ⟨some ⟨b, 0, none⟩, 1, none, 0⟩ := ⟨blk_seenW k rfl (fun y hy => by rw [List.mem_singleton.1 hy]; exact sn), SeenW.nil⟩
  have hb : patsB (rd ⟨[⟨t, vs, A, c⟩], []⟩) = may l vs := by
    rw [L10.patsB_rd]
    simp [e, may]
  constructor
  · intro h
    have g := new_no ⟨[⟨t, vs, A, c⟩], []⟩ ⟨some ⟨b, 0, none⟩, 1, none, 0⟩ (fun x hx => by rw [List.mem_singleton.1 hx]; exact ok) (fun x hx => by simp at hx) W hs (by simp) (by simp) (by rw [hb]; exact h)
    exact g
  · intro h
    have g := new_yes ⟨[⟨t, vs, A, c⟩], []⟩ ⟨some ⟨b, 0, none⟩, 1, none, 0⟩ (fun x hx => by rw [List.mem_singleton.1 hx]; exact ok) (fun x hx => by simp at hx) W hs (by simp) (by simp) (by rw [hb]; exact h)
    simp only [List.map_cons, List.map_nil, e] at g
    exact g
theorem new_none (W : World) : Calls Try.prog 16 #[.agg #[.slice none 0 0, .slice none 0 0]] W (NewQ W []) := by
  have g := new_yes ⟨[], []⟩ ⟨none, 0, none, 0⟩ (fun x hx => by simp at hx) (fun x hx => by simp at hx) W ⟨SeenW.nil, SeenW.nil⟩ (by simp) (by simp) (by kernel_rfl)
  exact g

set_option maxRecDepth 100000 in
set_option maxHeartbeats 16000000 in
theorem none_ (s : ByteArray) (A : Option Addr) (vs : List Int) (c : Nat) (w : World) (hs : s.size ≤ 60) (hv : vs.length ≤ 60) (hc : vs.length ≤ c) (hcm : c ≤ maxLen) (hw : ∀ n ∈ vs, -9223372036854775808 ≤ n ∧ n ≤ 9223372036854775807) (sn : SeenL w A vs)
    (hm : may s.data.toList vs = false) : Calls Try.prog 6 #[.string s, .slice A vs.length c] w (Ret w (.bool true)) := by
  have AW := Lib.hid (awake_any w)
  have hts := text_size s
  have htl := text_list s
  obtain ⟨t, ht⟩ : ∃ t, t = (⟨#[46]⟩ : ByteArray) ++ s ++ (⟨#[46]⟩ : ByteArray) := ⟨_, rfl⟩
  rw [← ht] at hts htl
  obtain ⟨z, hz⟩ : ∃ z, z = vs.length := ⟨_, rfl⟩
  have HZ := Lib.hid hz
  have SN := Lib.hid sn
  have HTL := Lib.hid htl
  have HM := Lib.hid hm
  have OK := Lib.hid (show WP.Ok ⟨t, vs, A, c⟩ from ⟨hc, hcm, by unfold maxLen; show t.size ≤ _; omega, hw⟩)
  rw [← hz] at hv ⊢
  clear hz sn htl hm hw hc hcm
  go_enter Try.func6, Try.ntmps6
  go_wp2_with fail
  refine AW.out.mono ?_; rintro e w1 ⟨rfl, x1⟩
  have X1 := Lib.hid x1
  clear x1 AW
  go_upto_region 4 with (fail)
  go_wp2_with fail
  rw [← ht]
  have y1 : Ext w1 (w1.alloc (.cells #[.string t, .slice A z c] 49)) := (Ext.refl w1).alloc _
  have NW := Lib.hid (new_one t vs A c s.data.toList HTL.out (w1.alloc (.cells #[.string t, .slice A z c] 49)) w1.heap.size (by rw [← HZ.out]; exact Blk.lit _ _ _ _ rfl) ((SN.out.ext X1.out).ext y1) OK.out)
  refine (NW.out.1 HM.out).mono ?_; rintro e w2 ⟨rfl, x2⟩
  have X2 := Lib.hid (X1.out.trans (y1.trans x2))
  have NE := Lib.hid (new_none w2)
  clear y1 x2 NW ht X1
  go_wp2_with fail
  refine NE.out.mono ?_; rintro e w3 ⟨B, F, rfl, x3, T3, hB, hF⟩
  have X3 := Lib.hid (X2.out.trans x3)
  have HB := Lib.hid (show w.heap.size ≤ B from Nat.le_trans X2.out.size hB)
  have VA := Lib.hid (vals_any w3 B F _ T3 s)
  clear x3 X2 NE T3 hB hF
  go_wp2_with fail
  refine VA.out.mono ?_; rintro e w4 ⟨b4, F4, A4, c4, rfl, T4, _, s4, _⟩
  have X4 := Lib.hid (b4.ext X3.out (fun k hk => by rw [show k = B from hk]; exact HB.out))
  have T4 := Lib.hid T4
  have S4 := Lib.hid s4
  have HV := Lib.hid (noughts s.data.toList)
  have HLEN := Lib.hid (show (valsL [] s.data.toList).length = if plainB s.data.toList = true then s.size + 1 else 0 by
    cases h : plainB s.data.toList with
    | true => rw [valsL_length h, list_size]; rfl
    | false => rw [valsL_no h]; rfl)
  generalize valsL [] s.data.toList = vl at *
  obtain ⟨y, hy⟩ : ∃ y, y = vl.length := ⟨_, rfl⟩
  have HY := Lib.hid hy
  have hym : y ≤ 61 := by rw [hy, HLEN.out]; split <;> omega
  rw [← hy]
  clear hy b4 X3 VA s4
  go_wp2_with fail
  go_loop [11] (fun i => ∃ k : Nat, k ≤ y ∧ i = .int .i64 k) (fun i => y - (intOf i).toNat)
  case atStart => exact ⟨0, Nat.zero_le _, rfl⟩
  case round =>
    obtain ⟨k, hk, rfl⟩ := hrel
    by_cases hlt : k < y
    · have hk' : k < vl.length := by rw [← HY.out]; exact hlt
      obtain ⟨ad, rfl, q⟩ := S4.out.get hk'
      have hv : vl.getD k 0 = 0 := HV.out _ (by rw [List.getD, List.getElem?_eq_getElem hk']; exact List.getElem_mem _)
      rw [hv] at q
      clear hv
      go_wp2_with fail
      go_round
      case rel => exact ⟨k + 1, by omega, by go_num⟩
      case measure => simp [intOf]; omega
    · obtain rfl : k = y := by omega
      have ND := Lib.hid (nodes_any w4 B F4 _ T4.out)
      go_wp2_with fail
      refine ND.out.mono ?_; rintro e w5 ⟨rfl, b5, _⟩
      rw [show (nodesL []).length = 1 from rfl]
      have X5 := Lib.hid (b5.ext X4.out (fun k hk => by rw [show k = B from hk]; exact HB.out))
      clear b5 ND
      go_wp2_with fail
      go_ret
      exact ⟨rfl, X5.out⟩

set_option maxRecDepth 100000 in
set_option maxHeartbeats 16000000 in
theorem some_ (s : ByteArray) (A : Option Addr) (vs : List Int) (c : Nat) (w : World) (hs : s.size ≤ 60) (hv : vs.length ≤ 60) (hc : vs.length ≤ c) (hcm : c ≤ maxLen) (hw : ∀ n ∈ vs, -9223372036854775808 ≤ n ∧ n ≤ 9223372036854775807) (sn : SeenL w A vs)
    (hm : may s.data.toList vs = true) : Calls Try.prog 6 #[.string s, .slice A vs.length c] w (Ret w (.bool true)) := by
  have AW := Lib.hid (awake_any w)
  have hts := text_size s
  have htl := text_list s
  obtain ⟨t, ht⟩ : ∃ t, t = (⟨#[46]⟩ : ByteArray) ++ s ++ (⟨#[46]⟩ : ByteArray) := ⟨_, rfl⟩
  rw [← ht] at hts htl
  obtain ⟨z, hz⟩ : ∃ z, z = vs.length := ⟨_, rfl⟩
  have HZ := Lib.hid hz
  have SN := Lib.hid sn
  have HTL := Lib.hid htl
  have HM := Lib.hid hm
  have OK := Lib.hid (show WP.Ok ⟨t, vs, A, c⟩ from ⟨hc, hcm, by unfold maxLen; show t.size ≤ _; omega, hw⟩)
  rw [← hz] at hv ⊢
  clear hz sn htl hm hw hc hcm
  go_enter Try.func6, Try.ntmps6
  go_wp2_with fail
  refine AW.out.mono ?_; rintro e w1 ⟨rfl, x1⟩
  have X1 := Lib.hid x1
  clear x1 AW
  go_upto_region 4 with (fail)
  go_wp2_with fail
  rw [← ht]
  have y1 : Ext w1 (w1.alloc (.cells #[.string t, .slice A z c] 49)) := (Ext.refl w1).alloc _
  have NW := Lib.hid (new_one t vs A c s.data.toList HTL.out (w1.alloc (.cells #[.string t, .slice A z c] 49)) w1.heap.size (by rw [← HZ.out]; exact Blk.lit _ _ _ _ rfl) ((SN.out.ext X1.out).ext y1) OK.out)
  refine (NW.out.2 HM.out).mono ?_; rintro e w2 ⟨B1, F1, rfl, x2, T1, hB1, hF1⟩
  have X2 := Lib.hid (X1.out.trans (y1.trans x2))
  have HB1 := Lib.hid (show w.heap.size ≤ B1 from Nat.le_trans (X1.out.trans y1).size hB1)
  have L1 := Lib.hid T1.lt
  have T1 := Lib.hid T1
  have NE := Lib.hid (new_none w2)
  clear y1 x2 NW ht X1 hB1 hF1
  go_wp2_with fail
  refine NE.out.mono ?_; rintro e w3 ⟨B, F, rfl, x3, T3, hB, hF⟩
  have X3 := Lib.hid (X2.out.trans x3)
  have HB := Lib.hid (show w.heap.size ≤ B from Nat.le_trans X2.out.size hB)
  have HNE := Lib.hid (show B1 < B by have := L1.out; omega)
  have T13 := Lib.hid (T1.out.ext x3)
  have HF1 := Lib.hid (show ∀ k, F1 k → k < B from fun k hk => by have := T1.out.low k hk; omega)
  have VA := Lib.hid (vals_any w3 B F _ T3 s)
  clear x3 X2 NE T3 hB hF L1 T1
  go_wp2_with fail
  refine VA.out.mono ?_; rintro e w4 ⟨b4, F4, A4, c4, rfl, T4, _, s4, _⟩
  have X4 := Lib.hid (b4.ext X3.out (fun k hk => by rw [show k = B from hk]; exact HB.out))
  have T14 := Lib.hid (T13.out.keepB b4 (by show ¬ B1 = B; have := HNE.out; omega) (fun k hk e => by have := HF1.out k hk; have e' : k = B := e; omega))
  have S4 := Lib.hid s4
  have HV := Lib.hid (noughts s.data.toList)
  obtain ⟨m1, m2, m3⟩ := may_parts HM.out
  have HLEN := Lib.hid (show (valsL [] s.data.toList).length = s.size + 1 by rw [valsL_length m1, list_size])
  generalize valsL [] s.data.toList = vl at *
  obtain ⟨y, hy⟩ : ∃ y, y = vl.length := ⟨_, rfl⟩
  have HY := Lib.hid hy
  have hye : y = s.size + 1 := by rw [hy, HLEN.out]
  rw [list_size, ← HZ.out] at m2
  rw [← hy]
  have HP1 := Lib.hid m1
  clear hy b4 X3 VA s4 m1 m3
  subst hye m2
  go_wp2_with fail
  go_loop [11] (fun i => ∃ k : Nat, k ≤ s.size + 1 ∧ i = .int .i64 k) (fun i => s.size + 1 - (intOf i).toNat)
  case atStart => exact ⟨0, Nat.zero_le _, rfl⟩
  case round =>
    obtain ⟨k, hk, rfl⟩ := hrel
    by_cases hlt : k < s.size + 1
    · have hk' : k < vl.length := by rw [← HY.out]; exact hlt
      obtain ⟨ad, rfl, q⟩ := S4.out.get hk'
      have hv : vl.getD k 0 = 0 := HV.out _ (by rw [List.getD, List.getElem?_eq_getElem hk']; exact List.getElem_mem _)
      rw [hv] at q
      clear hv
      go_wp2_with fail
      go_round
      case rel => exact ⟨k + 1, by omega, by go_num⟩
      case measure => simp [intOf]; omega
    · obtain rfl : k = s.size + 1 := by omega
      have VB := Lib.hid (vals_any w4 B1 F1 _ T14.out s)
      obtain ⟨ad, rfl⟩ : ∃ ad, A = some ad := by
        have hz := HZ.out
        obtain ⟨ad, e, _⟩ := SN.out 0 (.int .i64 (vs[0]'(by omega))) (by simp [show 0 < vs.length by omega])
        exact ⟨ad, e⟩
      go_wp2_with fail
      refine VB.out.mono ?_; rintro e w5 ⟨b5, F5, A5, c5, rfl, T5, _, s5, _⟩
      rw [vals_one HM.out, list_size] at s5 ⊢
      have X5 := Lib.hid (b5.ext X4.out (fun k hk => by rw [show k = B1 from hk]; exact HB1.out))
      have SP := Lib.hid (seenL_part (SN.out.ext X5.out) 1 (s.size + 1))
      have hgl : ((vs.drop 1).take (s.size + 1)).length = s.size + 1 := by
        have hz := HZ.out
        rw [List.length_take, List.length_drop]
        omega
      have S5 := Lib.hid s5
      have T5 := Lib.hid T5
      generalize (vs.drop 1).take (s.size + 1) = gl at *
      have SM := Lib.hid (fun d => show Calls Try.prog 21 #[.slice A5 (s.size + 1) c5, .slice (some ⟨ad.block, ad.off + 1, none⟩) (s.size + 1) d] w5 (Ret w5 (.bool true)) by
        have h := same_lists A5 (some (ad.add 1)) gl gl c5 d w5 S5.out SP.out (by omega)
        rw [hgl, decide_eq_true rfl] at h
        exact h)
      rw [hgl]
      have hcc : s.size + 3 ≤ c := by have := OK.out.room; have hz := HZ.out; dsimp only at this; omega
      clear b5 VB s5 T14 hgl
      go_wp2_with fail
      refine (SM.out _).mono ?_; rintro e w6 ⟨rfl, x6⟩
      have ND := Lib.hid (nodes_any w6 B1 F5 _ (T5.out.ext x6))
      have X6 := Lib.hid (X5.out.trans x6)
      clear SM x6
      go_wp2_with fail
      refine ND.out.mono ?_; rintro e w7 ⟨rfl, b7, _⟩
      rw [nodes_one, textL_length, list_size]
      have X7 := Lib.hid (b7.ext X6.out (fun k hk => by rw [show k = B1 from hk]; exact HB1.out))
      clear b7 ND
      go_wp2_with fail
      go_ret
      exact ⟨ret_bool (by first | (simp; done) | (simp; omega)), X7.out⟩

theorem short (s : ByteArray) (A : Option Addr) (z c : Nat) (w : World) (h : 60 < s.size ∨ 60 < z) : Calls Try.prog 6 #[.string s, .slice A z c] w (Ret w (.bool true)) := by
  have AW := Lib.hid (awake_any w)
  by_cases h1 : 60 < s.size
  · clear h
    go_enter Try.func6, Try.ntmps6
    go_wp2_with fail
    refine AW.out.mono ?_; rintro e w1 ⟨rfl, x1⟩
    go_wp2_with fail
    go_ret
    exact ⟨rfl, x1⟩
  · have h2 : 60 < z := h.resolve_left h1
    clear h
    go_enter Try.func6, Try.ntmps6
    go_wp2_with fail
    refine AW.out.mono ?_; rintro e w1 ⟨rfl, x1⟩
    go_wp2_with fail
    go_ret
    exact ⟨rfl, x1⟩
theorem walk (s : ByteArray) (_ : s.size ≤ maxLen) (A : Option Addr) (vs : List Int) (c : Nat) (hc : vs.length ≤ c) (hcm : c ≤ maxLen) (hw : ∀ n ∈ vs, (Lit.int .i64 n).wf = true) (w : World) (sn : SeenL w A vs) :
    Calls Try.prog 6 #[.string s, .slice A vs.length c] w (Ret w (.bool true)) := by
  by_cases h1 : s.size ≤ 60
  · by_cases h2 : vs.length ≤ 60
    · cases hm : may s.data.toList vs with
      | false => exact none_ s A vs c w h1 h2 hc hcm (fun n hn => bounds_i64 (hw n hn)) sn hm
      | true => exact some_ s A vs c w h1 h2 hc hcm (fun n hn => bounds_i64 (hw n hn)) sn hm
    · exact short s A _ c w (.inr (by omega))
  · exact short s A _ c w (.inl (by omega))

set_option maxRecDepth 100000 in
theorem lifted (os : Os) (started : os.Started) (H : Type) (enc : TypeId × Value → H) :
    ReturnsInHanded {} Try.checked os 6 .any (Rows.trieOneSpec.pre6 enc Try.prog Try.f6 [] false) (Rows.trieOneSpec.post enc Try.prog Try.f6 false true false false) := by
  refine law_lift (C := Try.checked) own started (by kernel_rfl) Try.func6 laidOut rfl rfl Try.underlying4 (by kernel_rfl) ?_
    (ChangeSpec.witness6 (enc := enc) (C := Try.checked) false ⟨#[], #[.string ByteArray.empty, .slice none 0 0], []⟩ 8 (by kernel_rfl) (by kernel_rfl) (by kernel_rfl) (by kernel_rfl)) ?_
  · intro H ds h
    match ds, h with
    | [_, _], _ => rfl
  · intro W base args ds p hval hA hlt hwt hsh
    rw [Try.params6] at hA hval
    obtain ⟨v0, vs0, d0, ds0, p0, q0, hargs, rfl, rfl, h0, r0⟩ := trodAll_cons hA
    obtain ⟨v1, vs1, d1, ds1, p1, q1, rfl, rfl, rfl, h1, r1⟩ := trodAll_cons r0
    obtain ⟨rfl, rfl, rfl⟩ := trodAll_nil r1
    obtain rfl : args = #[v0, v1] := by cases args; simp_all
    obtain ⟨a0, rfl, rfl, rfl, hs0⟩ := Go.ChangeMaps.open_string Try.underlying9 (hval 0 9 v0 rfl rfl) h0
    obtain ⟨A1, l1, c1, rfl, hc1, hm1, wf1, hs1⟩ := seen_ints Try.underlying25 Try.underlying3 (by kernel_rfl) (hval 1 25 v1 rfl rfl) h1
    exact walk a0 hs0 A1 l1 c1 hc1 hm1 wf1 W hs1

theorem holds : Rows.TrieOneSaid :=
  OpenClaim.holds_of_wide 6 Try.f6 rfl rfl rfl rfl rfl rfl rfl ⟨rfl, rfl, rfl, rfl, rfl⟩ rfl rfl rfl rfl rfl (by kernel_rfl) Try.func6 (by kernel_rfl)
    (of_decide_eq_true (by kernel_rfl)) (by unfold Func.isWrapper; first | (rw [if_pos (by decide +kernel)]; kernel_rfl) | (rw [if_neg (by decide +kernel)]; exact ⟨rfl, rfl⟩))
    (fun os started H enc _ => lifted os started H enc)
end TrieOne
end Go.Proofs.Ytfdoohangemojaa

