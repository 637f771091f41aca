/- The landed Core of layer 12. -/
import Derived.Test.YtenajekmnggkeaaCoreA12
import Derived.Laws.EntriesVeiled
import Derived.Shelf.Abstract
import Derived.Test.YtenajekmnggkeaaMid09
namespace Go.Proofs.Ytenajekmnggkeaa
open Go.RowKit
namespace L12

theorem small_byte (c : Int) : small c = ((UInt8.ofNat (small c).toNat).toNat : Int) := by
  have := small_range c
  rw [UInt8.toNat_ofNat']
  omega
/-- So many letters, and noughts behind them. -/
def curL (mid : List Int) (k : Nat) : List UInt8 := byteL (mid.take k) ++ List.replicate (mid.length - k) 0
theorem cur_zero (mid : List Int) : curL mid 0 = List.replicate mid.length 0 := by simp [curL, byteL]
theorem cur_full (mid : List Int) : curL mid mid.length = byteL mid := by simp [curL]
theorem cur_length {mid : List Int} {k : Nat} (h : k ≤ mid.length) : (curL mid k).length = mid.length := by
  simp only [curL, List.length_append, byteL_length, List.length_take, List.length_replicate]; omega
theorem cur_set {mid : List Int} {k : Nat} (h : k < mid.length) : (bv (curL mid k)).set k (.int .u8 (small (mid.getD k 0))) = bv (curL mid (k + 1)) := by
  have e1 : mid.take (k + 1) = mid.take k ++ [mid.getD k 0] := by
    rw [List.take_succ_eq_append_getElem h]; simp [List.getD, h]
  have e2 : List.replicate (mid.length - k) (0 : UInt8) = 0 :: List.replicate (mid.length - (k + 1)) 0 := by
    rw [show mid.length - k = mid.length - (k + 1) + 1 by omega, List.replicate_succ]
  have e3 : (byteL (mid.take k)).length = k := by rw [byteL_length, List.length_take]; omega
  rw [curL, e2, curL, e1, byteL_snoc, bv_append, bv_append, bv_append, List.append_assoc]
  rw [List.set_append_right _ _ (by rw [bv_length, e3]; omega), bv_length, e3, Nat.sub_self]
  simp only [bv, List.map_cons, List.set_cons_zero, List.map_nil, List.cons_append, List.nil_append]
  rw [← small_byte]
theorem enters1 : ∀ args w, (callFunc 18 args).run Try.prog w = .ok (.enter 18 args) w := enters_of Try.func18 (by kernel_rfl) rfl
theorem enters2 : ∀ args w, (callFunc 21 args).run Try.prog w = .ok (.enter 21 args) w := enters_of Try.func21 (by kernel_rfl) rfl
/-- A part of numbers that are seen. -/
theorem seenL_mid {w : World} {ad : Addr} {l : List Int} (h : SeenL w (some ad) l) : SeenL w (some (ad.add (aheadN l))) (midL l) := fun j v hv => by
  have hj : (l.map (Value.int .i64))[aheadN l + j]? = some v := by
    rw [List.getElem?_map] at hv ⊢
    rw [← hv]
    have hjn : j < l.length - aheadN l - behindN l := by
      rcases Nat.lt_or_ge j (l.length - aheadN l - behindN l) with h | h
      · exact h
      · rw [List.getElem?_eq_none (by rw [mid_length]; omega)] at hv; simp at hv
    rw [midL, List.getElem?_take_of_lt hjn, List.getElem?_drop]
  obtain ⟨ad', e, hb, hc⟩ := h _ _ hj
  cases e
  exact ⟨_, rfl, by rw [addr_block]; exact hb, by rw [addr_add]; exact hc⟩

set_option maxRecDepth 100000 in
set_option maxHeartbeats 4000000 in
theorem core_some (ad : Addr) (l : List Int) (n c : Nat) (w : World) (hs : SeenL w (some ad) l) (hn : n = l.length) (hnc : n ≤ c) (hc : c ≤ maxLen) :
    Calls Try.prog 11 #[.slice (some ad) n c] w (Ret w (.tuple #[.string ⟨(coreL l).toArray⟩, .int .i64 (coreN l)])) := by
  have hm : n ≤ 9223372036854775807 ∧ c ≤ 9223372036854775807 := by unfold maxLen at hc; omega
  have hmf : ∀ (fn : Fn) (first cap : Array Value) (w : World), (Instr.makeFunc fn first cap).run Try.prog w = .ok (.func fn first cap) w := fun _ _ _ _ => rfl
  obtain ⟨V, hV⟩ : ∃ V, V = (w.alloc (.cells #[.slice (some ad) n c] 26)).alloc (.cells #[.func (.func 18) #[] #[.pointer (some ⟨w.heap.size, 0, none⟩)]] 52) := ⟨_, rfl⟩
  have X0 : Ext w V := by rw [hV]; exact ((Ext.refl _).alloc _).alloc _
  have k0 : Blk V w.heap.size 26 [.slice (some ad) n c] := by rw [hV]; exact (Blk.lit _ _ _ _ rfl).ext ((Ext.refl _).alloc _)
  have k1 : Blk V (w.heap.size + 1) 52 [.func (.func 18) #[] #[.pointer (some ⟨w.heap.size, 0, none⟩)]] := by rw [hV]; exact Blk.lit _ _ _ _ (by simp)
  have SN := Lib.hid (hs.ext X0)
  have h1 := ahead_le l
  have h2 := behind_le l
  have F1 := Lib.hid (fun w' (x : Ext V w') => first_any 18 #[.pointer (some ⟨w.heap.size, 0, none⟩)] (fun i => isL (l.getD i 0)) n w' hm.1 enters1 (fun i w2 hi x2 => is_any w.heap.size (some ad) l n c i w2 ((k0.ext (x.trans x2)).cell 0) (SN.out.ext (x.trans x2)) hn (by omega)))
  have F2 := Lib.hid (fun w' (x : Ext V w') => first_any 21 #[.pointer (some ⟨w.heap.size + 1, 0, none⟩), .pointer (some ⟨w.heap.size, 0, none⟩)] (fun i => isL (l.getD (l.length - 1 - i) 0)) (n - aheadN l) w' (by omega) enters2 (fun i w2 hi x2 =>
    isb_any w.heap.size (w.heap.size + 1) (some ad) l n c i w2 ((k0.ext (x.trans x2)).cell 0) ((k1.ext (x.trans x2)).cell 0) (SN.out.ext (x.trans x2)) hn (by unfold maxLen; omega) (by omega)))
  have e1 : firstF (fun i => isL (l.getD i 0)) n = aheadN l := by rw [hn]; rfl
  have e2 : firstF (fun i => isL (l.getD (l.length - 1 - i) 0)) (n - aheadN l) = behindN l := by rw [hn]; rfl
  rw [e1] at F1
  rw [e2] at F2
  have HL := Lib.hid (mid_length l)
  rw [← hn] at h1 h2 HL
  have SM := Lib.hid (fun w' (x : Ext V w') => seenL_mid (SN.out.ext x))
  have QN := Lib.hid (fun (h : coreB l = false) => And.intro (coreL_no h) (coreN_no h))
  have QY := Lib.hid (fun (h : coreB l = true) => And.intro (coreL_yes h) (coreN_yes h))
  have QB := Lib.hid (coreB_iff (l := l))
  have QM := Lib.hid (fun i (h : i < (midL l).length) => coreB_no (l := l) h)
  have HX := Lib.hid X0
  generalize coreL l = cl at *
  generalize coreN l = cn at *
  generalize coreB l = cb at *
  generalize aheadN l = a at *
  generalize behindN l = b at *
  generalize midL l = mid at *
  have hb : b ≤ n := by omega
  have W1 : IntKind.i64.wrap ((n : Int) - a) = ((n - a : Nat) : Int) := by rw [IntWalk.i64_in _ (by omega)]; omega
  have W2 : IntKind.i64.wrap ((n : Int) - b) = ((n - b : Nat) : Int) := by rw [IntWalk.i64_in _ (by omega)]; omega
  clear hs hn X0 e1 e2
  go_enter Try.func11, Try.ntmps11
  go_wp2_with fail
  rw [← hV]
  have q0 := k0.cell 0
  have q1 := k1.cell 0
  dsimp only [List.getElem?_cons_zero] at q0 q1
  clear hV
  refine (F1.out _ (Ext.refl _)).mono ?_; rintro e w1 ⟨rfl, x1⟩
  have q0 := x1.at q0
  have q1 := x1.at q1
  have X1 := Lib.hid x1
  clear x1 F1
  go_wp2_with fail
  refine (F2.out _ X1.out).mono ?_; rintro e w2 ⟨rfl, x2⟩
  have q0 := x2.at q0
  have X2 := Lib.hid (X1.out.trans x2)
  clear x2 F2 X1 k0 k1
  have X2w := Lib.hid (HX.out.trans X2.out)
  rw [show n - a - b = n - b - a by omega] at HL
  have ham : n - b - a + a ≤ c := by omega
  have han : a + (n - b - a) ≤ n := by omega
  obtain ⟨m, hmm⟩ : ∃ m, m = n - b - a := ⟨_, rfl⟩
  have hab : a ≤ n - b := by omega
  have hnb : n - b ≤ c := by omega
  by_cases hm0 : m < 1
  · have hm0' : ((n - b - a : Nat) : Int) < 1 := by omega
    have HF := Lib.hid (show cb = false by
      cases h : cb with
      | false => rfl
      | true => have := (QB.out.1 h).1; have := HL.out; omega)
    obtain ⟨rfl, rfl⟩ := QN.out HF.out
    clear hmm hm0
    by_cases hca : c = a
    · go_wp2_with fail
      go_ret2
      exact ⟨rfl, X2w.out⟩
    · go_wp2_with fail
      go_ret2
      exact ⟨rfl, X2w.out⟩
  · have hca : ¬ c = a := by omega
    have SM2 := Lib.hid (fun k w' (x : Ext w2 w') (h : k < m) => show w'.cell? ((ad.add a).add k) = some (.int .i64 (mid.getD k 0)) by
      obtain ⟨ad', e, hc⟩ := SeenL.get (SM.out w' (X2.out.trans x)) (k := k) (by rw [HL.out, ← hmm]; exact h)
      cases e
      exact hc)
    have HM := Lib.hid hmm
    by_cases hm4 : 40 < m
    · have hm0' : ¬ ((n - b - a : Nat) : Int) < 1 := by omega
      have hm4' : (40 : Int) < ((n - b - a : Nat) : Int) := by omega
      have HF := Lib.hid (show cb = false by
        cases h : cb with
        | false => rfl
        | true => have := (QB.out.1 h).2.1; have := HL.out; omega)
      obtain ⟨rfl, rfl⟩ := QN.out HF.out
      clear hmm hm0 hm4
      go_wp2_with fail
      go_ret2
      exact ⟨rfl, X2w.out⟩
    · obtain ⟨cs, hmk, hcs⟩ := make_bytes Try.prog 41 5 (n - b - a) Try.underlying41 (by kernel_rfl) (by omega)
      have hm0' : ¬ ((n - b - a : Nat) : Int) < 1 := by omega
      have hm4' : ¬ (40 : Int) < ((n - b - a : Nat) : Int) := by omega
      have hm64 : (m : Int) ≤ 40 := by omega
      have hm64' : 1 ≤ (m : Int) := by omega
      have KG := Lib.hid (show Blk (w2.alloc (.cells cs 5)) w2.heap.size 5 (bv (curL mid 0)) by
        rw [cur_zero, HL.out, ← hcs]; exact Blk.new _ _ _)
      clear hcs hmm hm0 hm4
      go_wp2_with fail
      rw [← HM.out]
      rw [← HM.out] at HL
      clear HM hm0' hm4' hmk h1 h2 W1 W2 hab hnb ham han hb SM hnc hc hm SN
      have XG := Lib.hid ((Ext.refl w2).alloc (.cells cs 5))
      generalize w2.alloc (.cells cs 5) = W at *
      generalize ad.add a = ae at *
      generalize c - a = cz at *
      obtain ⟨G, hG⟩ : ∃ G, G = w2.heap.size := ⟨_, rfl⟩
      rw [← hG] at KG ⊢
      have HG := Lib.hid (show w2.heap.size ≤ G by omega)
      clear hG q0 X2 hca hmf
      go_loopw [41] (fun i wr => ∃ k : Nat, k ≤ m ∧ i = .int .i64 k ∧ Hid (Ext w2 wr) ∧ Hid (Blk wr G 5 (bv (curL mid k))) ∧ Hid (∀ j, j < k → isL (mid.getD j 0) = true)) (fun i _ => m - (intOf i).toNat)
      case atStart => exact ⟨0, by omega, rfl, XG, KG, Lib.hid (fun j hj => absurd hj (by omega))⟩
      case round =>
        obtain ⟨k, hk, rfl, xr, kr, hall⟩ := hrel
        by_cases hlt : k < m
        · have p := SM2.out k wr xr.out hlt
          have CS := Lib.hid (cur_set (mid := mid) (k := k) (by rw [HL.out]; exact hlt))
          have C := Lib.hid (fun w' => small_any (mid.getD k 0) w')
          have g0 := kr.out.cell k
          have g1 := kr.out.free k
          rw [bv_at (by rw [cur_length (by rw [HL.out]; exact hk), HL.out]; exact hlt)] at g0
          have NO := Lib.hid (QM.out k (by rw [HL.out]; exact hlt))
          obtain ⟨x, hxx⟩ : ∃ x, mid.getD k 0 = x := ⟨_, rfl⟩
          rw [hxx] at p CS C NO
          have HXX := Lib.hid hxx
          clear hxx
          go_wp2_with fail
          refine (C.out _).mono ?_; rintro e w3 ⟨rfl, x3⟩
          have g0 := x3.at g0
          have g1 := (kr.out.ext x3).free k
          have X3 := Lib.hid ((xr.out.trans x3).setCell (p := ⟨G, k, none⟩) HG.out (.int .u8 (small x)))
          have K3 := Lib.hid (show Blk (w3.setCell ⟨G, k, none⟩ (.int .u8 (small x))) G 5 (bv (curL mid (k + 1))) by rw [← CS.out]; exact (kr.out.ext x3).set k _)
          clear x3 C kr xr CS
          have X4 := Lib.hid (X2w.out.trans X3.out)
          have HY := Lib.hid (show (small x == 0) = !isL x by unfold isL; by_cases h : small x = 0 <;> simp [h])
          generalize small x = y at *
          cases hb : isL x with
          | false =>
            rw [hb] at HY NO
            have hy : (y == 0) = true := HY.out
            have HF := Lib.hid (NO.out rfl)
            obtain ⟨rfl, rfl⟩ := QN.out HF.out
            clear hb HY
            go_wp2_with fail
            go_ret2
            exact ⟨rfl, X4.out⟩
          | true =>
            rw [hb] at HY
            have hy : (y == 0) = false := HY.out
            have HA := Lib.hid (show ∀ j, j < k + 1 → isL (mid.getD j 0) = true from fun j hj => by
              by_cases e : j = k
              · rw [e, HXX.out]; exact hb
              · exact hall.out j (by omega))
            clear hb HY
            go_wp2_with fail
            go_roundw
            case rel => exact ⟨k + 1, by omega, by go_num, X3, K3, HA⟩
            case measure => simp [intOf]; omega
        · obtain rfl : k = m := by omega
          have hz := HL.out
          have STR := SeenB.str (P := Try.prog) (kr.out.seen rfl) 41 9 5 k k Try.underlying41 Try.underlying5 Try.underlying9 (by rw [cur_length (by omega), hz])
          have HF := Lib.hid (show cb = true from QB.out.2 ⟨by omega, by omega, fun c hc => by
            obtain ⟨i, hi, rfl⟩ := List.getElem_of_mem hc
            have := hall.out i (by omega)
            simpa [List.getD, hi] using this⟩)
          obtain ⟨rfl, rfl⟩ := QY.out HF.out
          have hcf : curL mid k = byteL mid := by rw [← hz, cur_full]
          rw [hcf] at STR
          have X4 := Lib.hid (X2w.out.trans xr.out)
          clear hz hcf
          go_wp2_with fail
          go_ret2
          exact ⟨rfl, X4.out⟩
set_option maxRecDepth 100000 in
set_option maxHeartbeats 4000000 in
theorem core_any (A : Option Addr) (l : List Int) (n c : Nat) (w : World) (hs : SeenL w A l) (hn : n = l.length) (hnc : n ≤ c) (hc : c ≤ maxLen) :
    Calls Try.prog 11 #[.slice A n c] w (Ret w (.tuple #[.string ⟨(coreL l).toArray⟩, .int .i64 (coreN l)])) := by
  rcases A with _ | ad
  · have hl : l = [] := by
      rcases l with _ | ⟨b, l⟩
      · rfl
      · obtain ⟨_, e, _⟩ := hs.get (k := 0) (by simp); cases e
    subst hl
    have e1 : coreL [] = [] := by kernel_rfl
    have e2 : coreN [] = 0 := by kernel_rfl
    have hn0 : n = 0 := hn
    clear hn
    subst hn0
    rw [e1, e2]
    have F1 := Lib.hid (fun cap w' => first_any 18 cap (fun _ => false) 0 w' (by omega) enters1 (fun i _ h => absurd h (by omega)))
    have F2 := Lib.hid (fun cap w' => first_any 21 cap (fun _ => false) 0 w' (by omega) enters2 (fun i _ h => absurd h (by omega)))
    have hmf : ∀ (fn : Fn) (first cap : Array Value) (w : World), (Instr.makeFunc fn first cap).run Try.prog w = .ok (.func fn first cap) w := fun _ _ _ _ => rfl
    clear hs hnc hc
    go_enter Try.func11, Try.ntmps11
    go_wp2_with fail
    obtain ⟨V, hV⟩ : ∃ V, V = (w.alloc (.cells #[.slice none 0 c] 26)).alloc (.cells #[.func (.func 18) #[] #[.pointer (some ⟨w.heap.size, 0, none⟩)]] 52) := ⟨_, rfl⟩
    have X0 : Ext w V := by rw [hV]; exact ((Ext.refl _).alloc _).alloc _
    have k0 : Blk V w.heap.size 26 [.slice none 0 c] := by rw [hV]; exact (Blk.lit _ _ _ _ rfl).ext ((Ext.refl _).alloc _)
    have k1 : Blk V (w.heap.size + 1) 52 [.func (.func 18) #[] #[.pointer (some ⟨w.heap.size, 0, none⟩)]] := by rw [hV]; exact Blk.lit _ _ _ _ (by simp)
    rw [← hV]
    have q0 := k0.cell 0
    have q1 := k1.cell 0
    dsimp only [List.getElem?_cons_zero] at q0 q1
    clear hV
    refine (F1.out _ _).mono ?_; rintro e w1 ⟨rfl, x1⟩
    have q0 := x1.at q0
    have q1 := x1.at q1
    have X1 := Lib.hid (X0.trans x1)
    rw [show firstF (fun _ => false) 0 = 0 from rfl]
    clear x1 F1 X0
    go_wp2_with fail
    refine (F2.out _ _).mono ?_; rintro e w2 ⟨rfl, x2⟩
    have q0 := x2.at q0
    have X2 := Lib.hid (X1.out.trans x2)
    rw [show firstF (fun _ => false) 0 = 0 from rfl]
    clear x2 F2 X1 k0 k1
    go_wp2_with fail
    all_goals
      go_ret2
      exact ⟨rfl, X2.out⟩
  · exact core_some ad l n c w hs hn hnc hc
end L12
end Go.Proofs.Ytenajekmnggkeaa

