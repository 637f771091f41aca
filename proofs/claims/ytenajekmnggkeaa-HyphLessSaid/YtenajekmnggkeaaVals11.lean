/- The landed Values of layer 11. -/
import Derived.Test.YtenajekmnggkeaaWord11
import Derived.Deep.RegionHeld3
namespace Go.Proofs.Ytenajekmnggkeaa
open Go.RowKit
open Go.Lib hiding intOf
namespace L11
open L10 (TN plainB patB tn letterB)

/-- What Values leaves, and answers. -/
def ValsQ (w : World) (B : Nat) (F : Nat → Prop) (p : List TN) (l : List UInt8) (e : Ending) (w' : World) : Prop :=
  But (Only B) w w' ∧ ∃ F' A c, e = .returned (.slice A (valsL p l).length c) ∧ TrieAt w' B F' p ∧ (∀ k, F' k → F k ∨ (w.heap.size ≤ k ∧ k < w'.heap.size)) ∧ SeenL w' A (valsL p l) ∧
    ∀ ad, A = some ad → w.heap.size ≤ ad.block ∧ ¬ F' ad.block ∧ ∀ j, j < (valsL p l).length → w'.frozen? (ad.add j) = false
theorem vals_nil (v : Value) (w : World) : Calls Try.prog 34 #[.pointer none, v] w (Ret w (.slice none 0 0)) := by
  go_enter Try.func34, Try.ntmps34
  go_wp2_with fail
  go_ret
  exact ⟨rfl, Ext.refl _⟩
theorem text_list (s : ByteArray) : ((⟨#[46]⟩ : ByteArray) ++ s ++ (⟨#[46]⟩ : ByteArray)).data.toList = textL s.data.toList := by
  simp [ByteArray.data_append, textL]
theorem text_size (s : ByteArray) : ((⟨#[46]⟩ : ByteArray) ++ s ++ (⟨#[46]⟩ : ByteArray)).size = s.size + 2 := by
  have := congrArg List.length (text_list s)
  rw [list_size, textL_length, list_size] at this
  exact this
theorem extract_list (t : ByteArray) (k : Nat) : (t.extract k t.size).data.toList = t.data.toList.drop k := by
  rw [Lib.extract_data, List.take_of_length_le (by rw [List.length_drop, list_size]; omega)]
theorem extract_size' (t : ByteArray) (k : Nat) : (t.extract k t.size).size = t.size - k := by
  have := congrArg List.length (extract_list t k)
  rw [list_size, List.length_drop, list_size] at this
  exact this

set_option maxRecDepth 100000 in
set_option maxHeartbeats 8000000 in
theorem vals_any (w : World) (B : Nat) (F : Nat → Prop) (p : List TN) (T : TrieAt w B F p) (s : ByteArray) : Calls Try.prog 34 #[.pointer (some ⟨B, 0, none⟩), .string s] w (ValsQ w B F p s.data.toList) := by
  have TH := Lib.hid T
  have WD := Lib.hid (word_any s w)
  have hmf : ∀ (fn : Fn) (first cap : Array Value) (w : World), (Instr.makeFunc fn first cap).run Try.prog w = .ok (.func fn first cap) w := fun _ _ _ _ => rfl
  clear T
  cases hp : plainB s.data.toList with
  | false =>
    rw [hp] at WD
    have HV := Lib.hid (valsL_no (p := p) hp)
    clear hp
    go_enter Try.func34, Try.ntmps34
    go_wp2_with fail
    refine WD.out.mono ?_; rintro e w1 ⟨rfl, x1⟩
    go_wp2_with fail
    go_ret
    have T1 := TH.out.ext x1
    exact ⟨But.of_ext x1, F, none, 0, by rw [HV.out]; rfl, T1, fun k h => .inl h, by rw [HV.out]; exact SeenL.nil, fun ad e => by cases e⟩
  | true =>
    rw [hp] at WD
    have hsz := plain_len hp
    rw [list_size] at hsz
    have HP := Lib.hid hp
    clear hp
    go_enter Try.func34, Try.ntmps34
    go_wp2_with fail
    refine WD.out.mono ?_; rintro e w1 ⟨rfl, x1⟩
    have T1 := TH.out.ext x1
    have AK := Lib.hid (ask_any w1 B F p T1)
    have HX := Lib.hid x1
    have HSZ := Lib.hid (show B < w.heap.size ∧ w.heap.size ≤ w1.heap.size from ⟨TH.out.lt, x1.size⟩)
    clear T1 x1 WD
    go_wp2_with fail
    refine AK.out.mono ?_; rintro e w2 ⟨rfl, hb2, hmade⟩
    have B2 := Lib.hid ((But.of_ext (S := Only B) HX.out).trans hb2 (fun i hi => .inl hi))
    have MD := Lib.hid hmade
    have SZ2 := Lib.hid hb2.size
    clear AK HX hb2 hmade
    obtain ⟨t, ht⟩ : ∃ t, t = (⟨#[46]⟩ : ByteArray) ++ s ++ (⟨#[46]⟩ : ByteArray) := ⟨_, rfl⟩
    have htl : t.data.toList = textL s.data.toList := by rw [ht]; exact text_list s
    have hts : t.size = s.size + 2 := by rw [ht]; exact text_size s
    obtain ⟨cs, MK, RW⟩ := make_blk (t.size + 1) (by omega)
    rw [show ((t.size + 1 : Nat) : Int) = (t.size : Int) + 1 by omega] at MK
    go_upto_region 5 with (fail)
    rw [← ht]
    have HTL := Lib.hid htl
    have HTS := Lib.hid hts
    clear ht htl hts
    have ht40 : t.size ≤ 42 := by have := HTS.out; omega
    have ht1 : 1 ≤ t.size := by have := HTS.out; omega
    have KG := Lib.hid (show Blk (w2.alloc (.cells cs 3)) w2.heap.size 3 (rowI (t.size + 1) (fun _ => 0)) by
      have := Blk.new w2 3 cs
      rw [RW] at this
      exact this)
    have X3 := Lib.hid (show Ext w2 (w2.alloc (.cells cs 3)) from (Ext.refl w2).alloc _)
    go_wp2_with fail
    generalize w2.alloc (.cells cs 3) = w3 at *
    have HG2 := Lib.hid (show ∀ bs bv G, MadeAt w2 B bs bv 1 0 p G → w2.heap.size ≠ B ∧ ¬ pieces bs bv p G w2.heap.size from fun bs bv G hm => ⟨fun e => by have := hm.box.lt; omega, fun h => by have := hm.lt h; omega⟩)
    have HGL := Lib.hid (show w.heap.size ≤ w2.heap.size from B2.out.size)
    generalize hg : w2.heap.size = g at *
    have HGE := Lib.hid hg
    clear hg MK RW
    go_loopw [30] (fun i wr => ∃ k : Nat, k ≤ t.size ∧ i = .int .i64 k ∧ Hid (But (Only g) w3 wr ∧ ∃ f, Blk wr g 3 (rowI (t.size + 1) f) ∧ Sup (textL s.data.toList) (fun x b => x ∈ p ∧ b < k) f)) (fun i _ => t.size - (intOf i).toNat)
    case atStart => exact ⟨0, Nat.zero_le _, rfl, ⟨But.refl _ _, _, KG.out, (Sup.zero _).iff (fun x b _ => ⟨fun h => h.elim, fun h => by omega⟩)⟩⟩
    case round =>
      obtain ⟨k, hk, rfl, hh⟩ := hrel
      by_cases hlt : k < t.size
      · obtain ⟨bs, bv, G, hm, hF⟩ := MD.out
        obtain ⟨hb, f, kk, sup⟩ := hh.out
        have hgg := HG2.out bs bv G hm
        have hm3 := (hm.keepB (But.of_ext (S := fun _ => False) X3.out) id (fun _ _ => id)).keepB hb (fun e => hgg.1 e.symm) (fun i hi e => hgg.2 (by rw [← show i = g from e]; exact hi))
        have RS := Lib.hid (raise_any B bs bv 1 0 p G g k (t.size + 1 - k) (t.size + 1 - k) (t.size + 1) f (t.extract k t.size) (textL s.data.toList) (fun x b => x ∈ p ∧ b < k) wr.drew
          (hm3.keepB (But.of_ext (S := fun _ => False) ((Ext.refl wr).drew)) id (fun _ _ => id)) TH.out.pat TH.out.len (kk.ext ((Ext.refl wr).drew)) hgg (by rw [extract_list, HTL.out]) sup (by rw [extract_size']; omega) (by omega) (by omega))
        have HB := Lib.hid hb
        clear hh hm hF hb kk sup hgg hm3
        go_wp2_with fail
        refine wp_region_noPanic ?_
        refine wp_region_held_drew (S := (fun _ => True)) (by kernel_rfl) trivial (fun h0 => ?_)
        refine wpAnyH_take (i := 0) (oi := ?_) (v := ?_) ?_ (by kernel_rfl) (by kernel_rfl) (by kernel_rfl) ?_ ?_ h0 ?_
        rotate_left 2
        · simp only [List.getElem?_toArray, List.getElem?_cons_zero]; rfl
        · exact fun _ _ _ h => h
        · refine Or.inl ⟨by rfl, ?_⟩
          intro w hSw
          (try dsimp only at hSw)
          go_simp
          (try with_reducible rfl)
        (try simp only [Act.put, List.setIfInBounds_toArray, List.set_cons_zero, List.set_cons_succ])
        refine wpAnyH_take (i := 1) (oi := ?_) (v := ?_) ?_ (by kernel_rfl) (by kernel_rfl) (by kernel_rfl) ?_ ?_ h0 ?_
        rotate_left 2
        · simp only [List.getElem?_toArray, List.getElem?_cons_zero, List.getElem?_cons_succ]; rfl
        · exact fun _ _ _ h => h
        · refine Or.inl ⟨by rfl, ?_⟩
          intro w hSw
          (try dsimp only at hSw)
          go_simp
          (try with_reducible rfl)
        (try simp only [Act.put, List.setIfInBounds_toArray, List.set_cons_zero, List.set_cons_succ])
        refine wpAnyH_take (i := 2) (oi := ?_) (v := ?_) ?_ (by kernel_rfl) (by kernel_rfl) (by kernel_rfl) ?_ ?_ h0 ?_
        rotate_left 2
        · simp only [List.getElem?_toArray, List.getElem?_cons_zero, List.getElem?_cons_succ]; rfl
        · exact fun _ _ _ h => h
        · refine Or.inl ⟨by rfl, ?_⟩
          intro w hSw
          (try dsimp only at hSw)
          go_simp
          (try with_reducible rfl)
        (try simp only [Act.put, List.setIfInBounds_toArray, List.set_cons_zero, List.set_cons_succ])
        refine wpAnyH_take (i := 3) (oi := ?_) (v := .slice (some ⟨g, k, none⟩) (t.size + 1 - k) (t.size + 1 - k)) ?_ (by kernel_rfl) (by kernel_rfl) (by kernel_rfl) ?_ ?_ h0 ?_
        rotate_left
        · simp only [List.getElem?_toArray, List.getElem?_cons_zero, List.getElem?_cons_succ]; rfl
        · exact fun _ _ _ h => h
        · refine Or.inl ⟨by rfl, ?_⟩
          intro w hSw
          (try dsimp only at hSw)
          go_simp
          rw [if_pos (by omega), if_neg (by omega)]
        (try simp only [Act.put, List.setIfInBounds_toArray, List.set_cons_zero, List.set_cons_succ])
        refine wpAnyH_take (i := 4) (oi := ?_) (v := ?_) ?_ (by kernel_rfl) (by kernel_rfl) (by kernel_rfl) ?_ ?_ h0 ?_
        rotate_left 2
        · simp only [List.getElem?_toArray, List.getElem?_cons_zero, List.getElem?_cons_succ]; rfl
        · exact fun _ _ _ h => h
        · refine Or.inl ⟨by rfl, ?_⟩
          intro w hSw
          (try dsimp only at hSw)
          go_simp
          (try with_reducible rfl)
        (try simp only [Act.put, List.setIfInBounds_toArray, List.set_cons_zero, List.set_cons_succ])
        refine wpAnyH_take (i := 5) (oi := ?_) (v := ?_) ?_ (by kernel_rfl) (by kernel_rfl) (by kernel_rfl) ?_ ?_ h0 ?_
        rotate_left 2
        · simp only [List.getElem?_toArray, List.getElem?_cons_zero, List.getElem?_cons_succ]; rfl
        · exact fun _ _ _ h => h
        · refine Or.inl ⟨by rfl, ?_⟩
          intro w hSw
          (try dsimp only at hSw)
          go_simp
          (try with_reducible rfl)
        (try simp only [Act.put, List.setIfInBounds_toArray, List.set_cons_zero, List.set_cons_succ])
        refine wpAnyH_take (i := 6) (oi := ?_) (v := .string (t.extract k t.size)) ?_ (by kernel_rfl) (by kernel_rfl) (by kernel_rfl) ?_ ?_ h0 ?_
        rotate_left
        · simp only [List.getElem?_toArray, List.getElem?_cons_zero, List.getElem?_cons_succ]; rfl
        · exact fun _ _ _ h => h
        · refine Or.inl ⟨by rfl, ?_⟩
          intro w hSw
          (try dsimp only at hSw)
          go_simp
          skip
        (try simp only [Act.put, List.setIfInBounds_toArray, List.set_cons_zero, List.set_cons_succ])
        refine wpAnyH_ready (rs := [7]) (by kernel_rfl) (by simp) ?_
        refine AllReadyH.cons (o := ?_) ?_ (fun K hK => ?_) AllReadyH.nil
        rotate_left
        · simp only [List.getElem?_toArray, List.getElem?_cons_zero, List.getElem?_cons_succ]; rfl
        go_simp
        refine RS.out.mono ?_; rintro e w5 ⟨rfl, b5, f5, k5, s5⟩
        go_wp2_with fail
        refine hK.out _ _ trivial (fun h1 => ?_)
        clear hK K
        refine wpAnyH_done (by kernel_rfl) ?_ _
        refine NoPanic.normal ?_
        have HH := Lib.hid (show But (Only g) w3 w5 ∧ ∃ f, Blk w5 g 3 (rowI (t.size + 1) f) ∧ Sup (textL s.data.toList) (fun x b => x ∈ p ∧ b < k + 1) f from
          ⟨HB.out.trans ((But.refl (Only g) wr).drew.trans b5 (fun i hi => .inl hi)) (fun i hi => .inl hi), f5, k5, s5.iff (fun x b _ => ⟨fun h => h.elim (fun h => ⟨h.1, by omega⟩) (fun h => ⟨h.1, by omega⟩), fun ⟨h1, h2⟩ => by
            by_cases e : b = k
            · exact .inr ⟨h1, e⟩
            · exact .inl ⟨h1, by omega⟩⟩)⟩)
        clear b5 k5 s5 h0 h1 RS HB
        go_wp2_with fail
        go_roundw
        case rel => exact ⟨k + 1, by omega, by go_num, HH⟩
        case measure => simp [intOf]; omega
      · obtain rfl : k = t.size := by omega
        have hte : ¬ t = ByteArray.empty := by
          intro h
          rw [h] at ht1
          simp at ht1
        go_wp2_with fail
        go_ret
        obtain ⟨hb, f, kk, sup⟩ := hh.out
        obtain ⟨bs, bv, G, hm, hF⟩ := MD.out
        have hgg := HG2.out bs bv G hm
        have hs := HTS.out
        have hlen : (valsL p s.data.toList).length = t.size - 1 := by rw [valsL_length HP.out, list_size]; omega
        have hget : ∀ j, j < t.size - 1 → (valsL p s.data.toList)[j]? = some (f (j + 1)) := fun j hj => by
          rw [valsL_get HP.out (by rw [list_size]; omega)]
          congr 1
          exact (numF_sup p _).uniq sup (fun x b _ => by rw [textL_length, list_size, ← hs]) (j + 1)
        have b3 : But (Only g) w2 wr := (But.of_ext X3.out).trans hb (fun i hi => .inl hi)
        have hm3 := hm.keepB b3 (fun e => hgg.1 e.symm) (fun i hi e => hgg.2 (by rw [← show i = g from e]; exact hi))
        have hz := HSZ.out
        have hw2 := HGL.out
        have hg3 := kk.lt
        have hwr := b3.size
        have hsz2 := SZ2.out
        refine ⟨B2.out.trans b3 (fun i hi => .inr (by rw [show i = g from hi]; exact hw2)), (fun i => F i ∨ (w1.heap.size ≤ i ∧ i < g)), some ⟨g, 1, none⟩, t.size, by rw [hlen]; rfl,
          ⟨TH.out.pat, TH.out.len, fun h => h.elim TH.out.own (fun h => by omega), fun i hi => hi.elim (fun h => by have := TH.out.low i h; omega) (fun h => by omega), .inr ⟨bs, bv, G, hm3, hF⟩⟩, fun i hi => hi.imp id (fun h => ⟨by omega, by omega⟩), fun j v hv => ?_, fun ad e => ?_⟩
        · have hj : j < t.size - 1 := by
            have := (List.getElem?_eq_some_iff.1 hv).1
            rw [List.length_map, hlen] at this
            exact this
          rw [List.getElem?_map, hget j hj] at hv
          simp only [Option.map_some, Option.some.injEq] at hv
          refine ⟨_, rfl, hg3, ?_⟩
          have e1 : (⟨g, 1, none⟩ : Addr).add j = ⟨g, j + 1, none⟩ := by
            unfold Addr.add
            by_cases h0 : j = 0
            · subst h0; rfl
            · simp [h0]; omega
          rw [e1, kk.cell, rowI_get (by omega), hv]
        · cases e
          refine ⟨hw2, fun h => h.elim (fun h => ?_) (fun h => by simp at h), fun j _ => ?_⟩
          · have := TH.out.low _ h
            simp only at this
            omega
          · have e1 : (⟨g, 1, none⟩ : Addr).add j = ⟨g, j + 1, none⟩ := by
              unfold Addr.add
              by_cases h0 : j = 0
              · subst h0; rfl
              · simp [h0]; omega
            rw [e1]
            exact kk.free _
end L11
end Go.Proofs.Ytenajekmnggkeaa

