/- TextGaps: words are the same whatever gaps part them, before them and behind: for every input. -/
import Derived.Test.YtbiklbomacjihaaDoorAns13
import Derived.Test.YtbiklbomacjihaaDoorMath13
namespace Go.Proofs.YtbiklbomacjihaaDoor
open Go.ChangeShapes Go.WideShapes Go.ChangeAt Go.RowKit Go.Deep
namespace TextGaps
open L13
open L10 (gapB wordsGo wordsL)

/-! ### Plain -/
/-- What lies behind so many words: each is read again. -/
def GI (l : List TW) (k : Nat) (a : List UInt8) : Prop :=
  (∀ p ∈ l.take k, wordB p = true) ∧ (∀ r, wordsGo [] (a ++ r) = (l.take k).map bytesL ++ wordsGo [] r) ∧ a.length ≤ k * 183
theorem bytes_len {p : TW} (h : wordB p = true) : (bytesL p).length ≤ 180 := by
  have h1 := bytesL_count h
  have h2 := soft_len h
  omega
theorem GI.start (l : List TW) : GI l 0 [] := ⟨by simp, fun r => by simp, by simp⟩
theorem GI.step {l : List TW} {k : Nat} {a g : List UInt8} (h : GI l k a) {p : TW} (hp : l[k]? = some p) (hw : wordB p = true) (hg : ∀ b ∈ g, gapB b = true) (h0 : g ≠ []) (h3 : g.length ≤ 3) : GI l (k + 1) (a ++ bytesL p ++ g) := by
  obtain ⟨hk, e⟩ := List.getElem?_eq_some_iff.1 hp
  have et : l.take (k + 1) = l.take k ++ [p] := by rw [List.take_succ_eq_append_getElem hk, e]
  refine ⟨fun q hq => ?_, fun r => ?_, ?_⟩
  · rw [et] at hq
    rcases List.mem_append.1 hq with h1 | h1
    · exact h.1 q h1
    · rw [List.mem_singleton.1 h1]; exact hw
  · rw [et, List.append_assoc, List.append_assoc, h.2.1, wordsGo_word (bytesL_gap hw) (bytesL_some hw) hg h0 r]
    simp
  · have h1 := bytes_len hw
    have h2 := h.2.2
    rw [List.length_append, List.length_append]
    omega
theorem GI.fin {l : List TW} {a : List UInt8} (h : GI l l.length a) : readA ([32, 10] ++ a) = if checkB l = true then (l, 0) else ([], 130) := by
  have h1 := h.1
  have h2 := h.2.1 []
  rw [List.take_length] at h1 h2
  refine readA_words h1 ?_
  rw [wordsL, wordsGo_gaps [32, 10] a (by decide)]
  rw [List.append_nil] at h2
  rw [h2]
  simp [wordsGo]
theorem one_check (p : TW) : checkB [p] = wordB p := by
  cases h : wordB p with
  | false => simp [checkB, h]
  | true =>
    have := soft_len h
    simp only [checkB, sumC, List.length_cons, List.length_nil, List.all_cons, List.all_nil, h, List.map_cons, List.map_nil, List.sum_cons, List.sum_nil, Bool.and_true, Bool.true_and, Bool.and_eq_true, decide_eq_true_eq]
    omega
theorem SeenC.one {w : World} {ad : Addr} {l : List CW} (h : SeenC w (some ad) l) {k : Nat} {y : CW} (hk : l[k]? = some y) : SeenC w (some (ad.add (k * 2))) [y] := fun i x hx => by
  have hi : i = 0 := by
    have := (List.getElem?_eq_some_iff.1 hx).1
    simpa using this
  subst hi
  obtain rfl : y = x := by simpa using hx
  obtain ⟨⟨ad', e, hb, h0, h1⟩, h2, h3⟩ := h k y hk
  cases e
  refine ⟨⟨_, rfl, by rw [addr_block]; exact hb, ?_, ?_⟩, h2, h3⟩
  · rw [addr_add]; exact h0
  · rw [addr_add]; exact h1
/-- One byte more. -/
theorem put1 {w0 w : World} {v : Value} {m : List UInt8} (h : OwnB 5 w0 w v m) (b : UInt8) (z : Int) (hz : z = b.toNat) (hm : m.length ≤ 100000) (ty : TypeId) :
    ∃ v' w', (Builtin.append_ #[22, 22] ty #[v, .slice (some ⟨w.heap.size, 0, none⟩) 1 1]).run Tryd.prog (w.alloc (.cells #[.int .u8 z] 5)) = .ok v' w' ∧ OwnB 5 w0 w' v' (m ++ [b]) := by
  subst hz
  exact run_bytes13 (h.over ((Ext.refl w).alloc (.cells #[.int .u8 (b.toNat : Int)] 5))) (some ⟨w.heap.size, 0, none⟩) 1 1 [b] ((Blk.lit w w.heap.size 5 #[.int .u8 (b.toNat : Int)] rfl).seen rfl) rfl (by simp only [List.length_cons, List.length_nil]; omega) ty
theorem gap_snoc {g : List UInt8} {b : UInt8} (h : ∀ c ∈ g, gapB c = true) (hb : gapB b = true) : ∀ c ∈ g ++ [b], gapB c = true := fun c hc => by
  rcases List.mem_append.1 hc with h1 | h1
  · exact h c h1
  · rw [List.mem_singleton.1 h1]; exact hb

set_option maxRecDepth 100000 in
set_option maxHeartbeats 16000000 in
theorem core (A : Option Addr) (l : List CW) (n c : Nat) (hn : n = l.length) (hc : n ≤ c) (B : Option Addr) (y : List UInt8) (q d : Nat) (hq : q = y.length) (w : World) (hs : SeenC w A l) (ok : ∀ x ∈ l, x.Ok) (hy : SeenB w B y) (hT : Tabs w) (hf : fewB (l.map tw) = true) (hn2 : n ≤ 50) (hq2 : q ≤ 60) :
    Calls Tryd.prog 6 #[.slice A n c, .slice B q d] w (Ret w (.bool true)) := by
  have FW := Lib.hid (fun w' (x : Ext w w') => rfew_any A l n c w' (hs.ext x) hn)
  rw [hf] at FW
  have C1 := Lib.hid (fun w' (x : Ext w w') => check_any A l n c w' (hs.ext x) hn ok)
  have AW := Lib.hid (awake_any w hT)
  have HS := Lib.hid (fun w' (x : Ext w w') => hs.ext x)
  have HY := Lib.hid (fun w' (x : Ext w w') => hy.ext x)
  have OK := Lib.hid ok
  have HT := Lib.hid hT
  have HN := Lib.hid hn
  have HQ := Lib.hid hq
  have FP := Lib.hid (few_parts hf)
  have hn64 : (n : Int) ≤ 50 := by omega
  have hq64 : (q : Int) ≤ 60 := by omega
  have hc64 : (n : Int) ≤ (c : Int) := by omega
  clear hs hT hn hf ok hy hq
  go_enter Tryd.func6, Tryd.ntmps6
  go_wp2_with fail
  refine AW.out.mono ?_; rintro e w1 ⟨rfl, x1⟩
  have X1 := Lib.hid x1
  clear x1 AW
  go_wp2_with fail
  refine (FW.out _ X1.out).mono ?_; rintro e w2 ⟨rfl, x2⟩
  have X2 := Lib.hid (X1.out.trans x2)
  clear x2 X1 FW
  go_wp2_with fail
  go_loopw [6, 7] (fun v i wr => ∃ (vv : Value) (k : Nat) (a : List UInt8), vv = v ∧ i = .int .i64 k ∧ k ≤ n ∧ a.length ≤ k * 183 ∧ Hid (OwnB 5 w2 wr vv a) ∧ Hid (GI (l.map tw) k a)) (fun _ i _ => n - (intOf i).toNat)
  case atStart => exact ⟨_, 0, [], rfl, rfl, Nat.zero_le _, Nat.zero_le _, Lib.hid (OwnB.nil _ _ _ (Ext.refl _)), Lib.hid (GI.start _)⟩
  case round =>
    obtain ⟨vv, k, a, hvv, rfl, hk, hak, ho, hg⟩ := hrel
    subst hvv
    by_cases hlt : k < n
    · have hkl : k < l.length := by rw [← HN.out]; exact hlt
      have hk64 : (k : Int) < n := by omega
      have hcc : c ≠ k := by omega
      have hkc : (k : Int) + 1 ≤ (c : Int) := by omega
      obtain ⟨⟨ad, rfl, _, _⟩, _, _⟩ := (HS.out wr (X2.out.trans ho.out.2)).get hkl
      have W1 := Lib.hid (fun m => write_all (some (ad.add (k * 2))) [l[k]] 1 m wr (SeenC.one (HS.out wr (X2.out.trans ho.out.2)) (List.getElem?_eq_getElem hkl)) rfl (fun x hx => by rw [List.mem_singleton.1 hx]; exact OK.out _ (List.getElem_mem hkl)))
      unfold WriteG textA at W1
      rw [List.map_cons, List.map_nil, one_check] at W1
      obtain ⟨p, hp⟩ : ∃ p, p = tw l[k] := ⟨_, rfl⟩
      have HP := Lib.hid (show (l.map tw)[k]? = some p by rw [List.getElem?_map, List.getElem?_eq_getElem hkl, hp]; rfl)
      rw [← hp] at W1
      clear hp
      cases hwp : wordB p with
      | false =>
        rw [hwp, if_neg (by decide)] at W1
        clear hwp
        go_wp2_with fail
        refine (W1.out _).mono ?_; rintro e w3 ⟨x3, A3, c3, rfl, _, _, _⟩
        have X3 := Lib.hid ((X2.out.trans ho.out.2).trans x3)
        clear x3 W1 ho hg
        go_wp2_with fail
        go_ret
        exact ⟨rfl, X3.out⟩
      | true =>
        have HW := Lib.hid hwp
        have BL := bytes_len hwp
        rw [hwp, if_pos rfl] at W1
        clear hwp
        dsimp only [textL] at W1
        obtain ⟨z, hz⟩ : ∃ z, z = (bytesL p).length := ⟨_, rfl⟩
        have HZ := Lib.hid hz
        rw [← hz] at W1 BL
        clear hz
        go_wp2_with fail
        refine (W1.out _).mono ?_; rintro e w3 ⟨x3, A3, c3, rfl, _, _, s3⟩
        obtain ⟨v4, w4, r4, o4⟩ := run_bytes13 (ho.out.over x3) A3 z c3 (bytesL p) s3 HZ.out (by rw [← HZ.out]; omega) 22
        have O4 := Lib.hid o4
        have BL2 : (bytesL p).length ≤ 180 := by rw [← HZ.out]; exact BL
        clear x3 W1 ho o4 s3 HZ BL
        by_cases hkq : k < q
        · have hkq64 : (k : Int) < (q : Int) := by omega
          have hky : k < y.length := by rw [← HQ.out]; exact hkq
          obtain ⟨be, rfl, _, b0⟩ := (HY.out w4 (X2.out.trans O4.out.2)).get hky
          obtain ⟨u, hu⟩ : ∃ u, u = y[k].toNat % 3 := ⟨_, rfl⟩
          have hu2 : u ≤ 2 := by omega
          have mod1 : Int.tmod (y[k].toNat : Int) 3 = (u : Int) := by rw [Int.tmod_eq_emod_of_nonneg (by omega)]; omega
          have mod2 : (y[k].toNat : Int) % 3 = (u : Int) := by omega
          have hu64 : (u : Int) ≤ 2 := by omega
          clear hu
          generalize (y[k].toNat : Int) = yk at *
          go_wp2_with (at_builtin; refine wpList_ran rfl _ _ rfl r4 ?_)
          clear r4 b0 mod1 mod2
          go_loopw [6, 11] (fun v j wq => ∃ (vw : Value) (m : Nat) (g : List UInt8), vw = v ∧ j = .int .i64 m ∧ m ≤ (1 + u) ∧ Hid (OwnB 5 w2 wq vw (a ++ bytesL p ++ g)) ∧ Hid ((∀ b ∈ g, gapB b = true) ∧ g.length = m)) (fun _ j _ => (1 + u) - (intOf j).toNat)
          case atStart => exact ⟨_, 0, [], rfl, rfl, Nat.zero_le _, Lib.hid (by rw [List.append_nil]; exact O4.out), Lib.hid ⟨by simp, rfl⟩⟩
          case round =>
            obtain ⟨vw, m, g, hvw, rfl, hm, ho, hgg⟩ := hrel
            subst hvw
            by_cases hmN : m < (1 + u)
            · have hm64 : (m : Int) < 1 + (u : Int) := by omega
              have hal : (a ++ bytesL p ++ g).length ≤ 100000 := by
                have h1 := hgg.out.2
                rw [List.length_append, List.length_append]; omega
              obtain ⟨t, ht⟩ : ∃ t, t = (k + m) % 4 := ⟨_, rfl⟩
              have ht4 : t < 4 := by omega
              have mod1 : Int.tmod ((k : Int) + (m : Int)) 4 = (t : Int) := by rw [Int.tmod_eq_emod_of_nonneg (by omega)]; omega
              have mod2 : ((k : Int) + (m : Int)) % 4 = (t : Int) := by omega
              clear ht
              rcases (show t = 0 ∨ t = 1 ∨ t = 2 ∨ t = 3 by omega) with rfl | rfl | rfl | rfl
              · obtain ⟨v5, w5, r5, o5⟩ := put1 ho.out 32 32 rfl hal 22
                have O5 := Lib.hid o5
                have H5 := Lib.hid (show (∀ c ∈ g ++ [(32 : UInt8)], gapB c = true) ∧ (g ++ [(32 : UInt8)]).length = m + 1 from ⟨gap_snoc hgg.out.1 (by decide), by rw [List.length_append, hgg.out.2]; rfl⟩)
                clear o5 ho hgg hal
                go_wp2_with (at_builtin; refine wpList_ran rfl _ _ rfl r5 ?_)
                go_roundw
                case rel => exact ⟨_, m + 1, g ++ [32], rfl, by go_num, by omega, Lib.hid (by rw [← List.append_assoc]; exact O5.out), H5⟩
                case measure => simp [intOf]; omega
              · obtain ⟨v5, w5, r5, o5⟩ := put1 ho.out 10 10 rfl hal 22
                have O5 := Lib.hid o5
                have H5 := Lib.hid (show (∀ c ∈ g ++ [(10 : UInt8)], gapB c = true) ∧ (g ++ [(10 : UInt8)]).length = m + 1 from ⟨gap_snoc hgg.out.1 (by decide), by rw [List.length_append, hgg.out.2]; rfl⟩)
                clear o5 ho hgg hal
                go_wp2_with (at_builtin; refine wpList_ran rfl _ _ rfl r5 ?_)
                go_roundw
                case rel => exact ⟨_, m + 1, g ++ [10], rfl, by go_num, by omega, Lib.hid (by rw [← List.append_assoc]; exact O5.out), H5⟩
                case measure => simp [intOf]; omega
              · obtain ⟨v5, w5, r5, o5⟩ := put1 ho.out 9 9 rfl hal 22
                have O5 := Lib.hid o5
                have H5 := Lib.hid (show (∀ c ∈ g ++ [(9 : UInt8)], gapB c = true) ∧ (g ++ [(9 : UInt8)]).length = m + 1 from ⟨gap_snoc hgg.out.1 (by decide), by rw [List.length_append, hgg.out.2]; rfl⟩)
                clear o5 ho hgg hal
                go_wp2_with (at_builtin; refine wpList_ran rfl _ _ rfl r5 ?_)
                go_roundw
                case rel => exact ⟨_, m + 1, g ++ [9], rfl, by go_num, by omega, Lib.hid (by rw [← List.append_assoc]; exact O5.out), H5⟩
                case measure => simp [intOf]; omega
              · obtain ⟨v5, w5, r5, o5⟩ := put1 ho.out 13 13 rfl hal 22
                have O5 := Lib.hid o5
                have H5 := Lib.hid (show (∀ c ∈ g ++ [(13 : UInt8)], gapB c = true) ∧ (g ++ [(13 : UInt8)]).length = m + 1 from ⟨gap_snoc hgg.out.1 (by decide), by rw [List.length_append, hgg.out.2]; rfl⟩)
                clear o5 ho hgg hal
                go_wp2_with (at_builtin; refine wpList_ran rfl _ _ rfl r5 ?_)
                go_roundw
                case rel => exact ⟨_, m + 1, g ++ [13], rfl, by go_num, by omega, Lib.hid (by rw [← List.append_assoc]; exact O5.out), H5⟩
                case measure => simp [intOf]; omega
            · obtain rfl : m = (1 + u) := by omega
              have G2 := Lib.hid (show GI (l.map tw) (k + 1) (a ++ bytesL p ++ g) from hg.out.step HP.out HW.out hgg.out.1 (fun e => by have := hgg.out.2; rw [e, List.length_nil] at this; omega) (by rw [hgg.out.2]; omega))
              clear hg hgg O4
              go_wp2_with fail
              go_roundw
              case rel => exact ⟨_, k + 1, _, rfl, by go_num, by omega, G2.out.2.2, ho, G2⟩
              case measure => simp [intOf]; omega
        · have hkq64 : (q : Int) ≤ (k : Int) := by omega
          go_wp2_with (at_builtin; refine wpList_ran rfl _ _ rfl r4 ?_)
          clear r4
          go_loopw [6, 11] (fun v j wq => ∃ (vw : Value) (m : Nat) (g : List UInt8), vw = v ∧ j = .int .i64 m ∧ m ≤ 1 ∧ Hid (OwnB 5 w2 wq vw (a ++ bytesL p ++ g)) ∧ Hid ((∀ b ∈ g, gapB b = true) ∧ g.length = m)) (fun _ j _ => 1 - (intOf j).toNat)
          case atStart => exact ⟨_, 0, [], rfl, rfl, Nat.zero_le _, Lib.hid (by rw [List.append_nil]; exact O4.out), Lib.hid ⟨by simp, rfl⟩⟩
          case round =>
            obtain ⟨vw, m, g, hvw, rfl, hm, ho, hgg⟩ := hrel
            subst hvw
            by_cases hmN : m < 1
            · have hm64 : (m : Int) < 1 := by omega
              have hal : (a ++ bytesL p ++ g).length ≤ 100000 := by
                have h1 := hgg.out.2
                rw [List.length_append, List.length_append]; omega
              obtain ⟨t, ht⟩ : ∃ t, t = (k + m) % 4 := ⟨_, rfl⟩
              have ht4 : t < 4 := by omega
              have mod1 : Int.tmod ((k : Int) + (m : Int)) 4 = (t : Int) := by rw [Int.tmod_eq_emod_of_nonneg (by omega)]; omega
              have mod2 : ((k : Int) + (m : Int)) % 4 = (t : Int) := by omega
              clear ht
              rcases (show t = 0 ∨ t = 1 ∨ t = 2 ∨ t = 3 by omega) with rfl | rfl | rfl | rfl
              · obtain ⟨v5, w5, r5, o5⟩ := put1 ho.out 32 32 rfl hal 22
                have O5 := Lib.hid o5
                have H5 := Lib.hid (show (∀ c ∈ g ++ [(32 : UInt8)], gapB c = true) ∧ (g ++ [(32 : UInt8)]).length = m + 1 from ⟨gap_snoc hgg.out.1 (by decide), by rw [List.length_append, hgg.out.2]; rfl⟩)
                clear o5 ho hgg hal
                go_wp2_with (at_builtin; refine wpList_ran rfl _ _ rfl r5 ?_)
                go_roundw
                case rel => exact ⟨_, m + 1, g ++ [32], rfl, by go_num, by omega, Lib.hid (by rw [← List.append_assoc]; exact O5.out), H5⟩
                case measure => simp [intOf]; omega
              · obtain ⟨v5, w5, r5, o5⟩ := put1 ho.out 10 10 rfl hal 22
                have O5 := Lib.hid o5
                have H5 := Lib.hid (show (∀ c ∈ g ++ [(10 : UInt8)], gapB c = true) ∧ (g ++ [(10 : UInt8)]).length = m + 1 from ⟨gap_snoc hgg.out.1 (by decide), by rw [List.length_append, hgg.out.2]; rfl⟩)
                clear o5 ho hgg hal
                go_wp2_with (at_builtin; refine wpList_ran rfl _ _ rfl r5 ?_)
                go_roundw
                case rel => exact ⟨_, m + 1, g ++ [10], rfl, by go_num, by omega, Lib.hid (by rw [← List.append_assoc]; exact O5.out), H5⟩
                case measure => simp [intOf]; omega
              · obtain ⟨v5, w5, r5, o5⟩ := put1 ho.out 9 9 rfl hal 22
                have O5 := Lib.hid o5
                have H5 := Lib.hid (show (∀ c ∈ g ++ [(9 : UInt8)], gapB c = true) ∧ (g ++ [(9 : UInt8)]).length = m + 1 from ⟨gap_snoc hgg.out.1 (by decide), by rw [List.length_append, hgg.out.2]; rfl⟩)
                clear o5 ho hgg hal
                go_wp2_with (at_builtin; refine wpList_ran rfl _ _ rfl r5 ?_)
                go_roundw
                case rel => exact ⟨_, m + 1, g ++ [9], rfl, by go_num, by omega, Lib.hid (by rw [← List.append_assoc]; exact O5.out), H5⟩
                case measure => simp [intOf]; omega
              · obtain ⟨v5, w5, r5, o5⟩ := put1 ho.out 13 13 rfl hal 22
                have O5 := Lib.hid o5
                have H5 := Lib.hid (show (∀ c ∈ g ++ [(13 : UInt8)], gapB c = true) ∧ (g ++ [(13 : UInt8)]).length = m + 1 from ⟨gap_snoc hgg.out.1 (by decide), by rw [List.length_append, hgg.out.2]; rfl⟩)
                clear o5 ho hgg hal
                go_wp2_with (at_builtin; refine wpList_ran rfl _ _ rfl r5 ?_)
                go_roundw
                case rel => exact ⟨_, m + 1, g ++ [13], rfl, by go_num, by omega, Lib.hid (by rw [← List.append_assoc]; exact O5.out), H5⟩
                case measure => simp [intOf]; omega
            · obtain rfl : m = 1 := by omega
              have G2 := Lib.hid (show GI (l.map tw) (k + 1) (a ++ bytesL p ++ g) from hg.out.step HP.out HW.out hgg.out.1 (fun e => by have := hgg.out.2; rw [e, List.length_nil] at this; omega) (by rw [hgg.out.2]; omega))
              clear hg hgg O4
              go_wp2_with fail
              go_roundw
              case rel => exact ⟨_, k + 1, _, rfl, by go_num, by omega, G2.out.2.2, ho, G2⟩
              case measure => simp [intOf]; omega
    · obtain rfl : n = k := by omega
      have FI := Lib.hid (show readA ([32, 10] ++ a) = if checkB (l.map tw) = true then (l.map tw, 0) else ([], 130) from GI.fin (by rw [List.length_map, ← HN.out]; exact hg.out))
      obtain ⟨A3, c3, rfl, _, _, s3⟩ := OwnB.look ho.out
      have hal : a.length ≤ 20000 := by omega
      obtain ⟨W4, hW4⟩ : ∃ W4, W4 = wr.alloc (.cells #[.int .u8 32, .int .u8 10] 5) := ⟨_, rfl⟩
      have o4 : OwnB 5 wr W4 (.slice (some ⟨wr.heap.size, 0, none⟩) 2 2) [32, 10] := by rw [hW4]; exact OwnB.lit 5 wr wr [32, 10] #[.int .u8 32, .int .u8 10] 2 rfl rfl (by simp) (Ext.refl _)
      obtain ⟨v5, w5, r5, o5⟩ := run_bytes13 o4 A3 a.length c3 a (s3.ext o4.2) rfl (by simp only [List.length_cons, List.length_nil]; omega) 22
      obtain ⟨A6, c6, rfl, k6, m6, s6⟩ := OwnB.look o5
      have X5 := Lib.hid ((X2.out.trans ho.out.2).trans o5.2)
      have R6 := Lib.hid (read_all A6 ([32, 10] ++ a) ([32, 10] ++ a).length c6 w5 s6 rfl (by simp only [List.length_append, List.length_cons, List.length_nil]; omega) ⟨k6, m6⟩ (HT.out.ext X5.out))
      unfold ReadG at R6
      rw [FI.out] at R6
      clear ho hg FI s3 hal o4 o5 k6 m6 s6 hak X2 HT
      generalize ([32, 10] ++ a).length = z6 at *
      generalize a.length = z3 at *
      subst hW4
      go_wp2_with (at_builtin; refine wpList_ran rfl _ _ rfl r5 ?_)
      clear r5
      have SMQ := Lib.hid (fun (wl : List CW) (A7 : Option Addr) (c7 z7 : Nat) (w7 : World) (x : Ext w5 w7) (s7 : SeenC w7 A7 wl) (e : z7 = wl.length) => rsame_any A A7 l wl n z7 c c7 w7 (HS.out _ (X5.out.trans x)) s7 HN.out e (by omega) (fun x hx => by have := FP.out.2 x hx; omega))
      cases hb : checkB (l.map tw) with
      | true =>
        rw [hb, if_pos rfl] at R6
        rw [hb] at C1
        clear hb
        refine R6.out.mono ?_; rintro e w7 ⟨x7, A7, wl, c7, rfl, hwl, g7⟩
        have X7 := Lib.hid (X5.out.trans x7)
        have SM := Lib.hid (SMQ.out wl A7 c7 wl.length w7 x7 g7.sn rfl)
        rw [hwl, decide_eq_true rfl] at SM
        clear x7 g7 hwl SMQ R6 X5
        generalize wl.length = z7 at *
        dsimp only
        go_wp2_with fail
        refine SM.out.mono ?_; rintro e w8 ⟨rfl, x8⟩
        have X8 := Lib.hid (X7.out.trans x8)
        clear x8 X7 SM
        go_wp2_with fail
        refine (C1.out _ X8.out).mono ?_; rintro e w9 ⟨rfl, x9⟩
        have X9 := Lib.hid (X8.out.trans x9)
        clear x9 X8 C1
        go_wp2_with fail
        go_ret
        exact ⟨rfl, X9.out⟩
      | false =>
        rw [hb, if_neg (by decide)] at R6
        rw [hb] at C1
        clear hb
        refine R6.out.mono ?_; rintro e w7 ⟨x7, A7, wl, c7, rfl, hwl, g7⟩
        have X7 := Lib.hid (X5.out.trans x7)
        have SM := Lib.hid (SMQ.out wl A7 c7 wl.length w7 x7 g7.sn rfl)
        generalize decide (l.map tw = wl.map tw) = bs at *
        clear x7 g7 hwl SMQ R6 X5
        generalize wl.length = z7 at *
        dsimp only
        go_wp2_with fail
        refine SM.out.mono ?_; rintro e w8 ⟨rfl, x8⟩
        have X8 := Lib.hid (X7.out.trans x8)
        clear x8 X7 SM
        go_wp2_with fail
        refine (C1.out _ X8.out).mono ?_; rintro e w9 ⟨rfl, x9⟩
        have X9 := Lib.hid (X8.out.trans x9)
        clear x9 X8 C1
        go_wp2_with fail
        go_ret
        exact ⟨rfl, X9.out⟩
set_option maxRecDepth 100000 in
set_option maxHeartbeats 4000000 in
theorem walk (A0 : Option Addr) (l : List CW) (c0 : Nat) (hc0 : l.length ≤ c0) (_ : c0 ≤ maxLen) (ok : ∀ x ∈ l, x.Ok) (A1 : Option Addr) (y : List UInt8) (c1 : Nat) (_ : y.length ≤ c1) (_ : c1 ≤ maxLen) (w : World) (h0 : SeenC w A0 l) (h1 : SeenB w A1 y) (hT : Tabs w) :
    Calls Tryd.prog 6 #[.slice A0 l.length c0, .slice A1 y.length c1] w (Ret w (.bool true)) := by
  have AW := Lib.hid (awake_any w hT)
  have FW := Lib.hid (fun w' (x : Ext w w') => rfew_any A0 l l.length c0 w' (h0.ext x) rfl)
  cases hf : fewB (l.map tw) with
  | true =>
    by_cases hl : l.length ≤ 50
    · by_cases hy : y.length ≤ 60
      · exact core A0 l l.length c0 rfl hc0 A1 y y.length c1 rfl w h0 ok h1 hT hf hl hy
      · have hl : (l.length : Int) ≤ 50 := by omega
        have hy : (60 : Int) < (y.length : Int) := by omega
        rw [hf] at FW
        clear h0 h1 hT hf ok hc0
        generalize l.length = n at *
        generalize y.length = m at *
        go_enter Tryd.func6, Tryd.ntmps6
        go_wp2_with fail
        refine AW.out.mono ?_; rintro e V ⟨rfl, x1⟩
        go_wp2_with fail
        refine (FW.out _ x1).mono ?_; rintro e V2 ⟨rfl, x2⟩
        go_wp2_with fail
        go_ret
        exact ⟨rfl, x1.trans x2⟩
    · have hl : (50 : Int) < (l.length : Int) := by omega
      rw [hf] at FW
      clear h0 h1 hT hf ok hc0
      generalize l.length = n at *
      generalize y.length = m at *
      go_enter Tryd.func6, Tryd.ntmps6
      go_wp2_with fail
      refine AW.out.mono ?_; rintro e V ⟨rfl, x1⟩
      go_wp2_with fail
      refine (FW.out _ x1).mono ?_; rintro e V2 ⟨rfl, x2⟩
      go_wp2_with fail
      go_ret
      exact ⟨rfl, x1.trans x2⟩
  | false =>
    rw [hf] at FW
    clear h0 h1 hT hf ok hc0
    generalize l.length = n at *
    generalize y.length = m at *
    go_enter Tryd.func6, Tryd.ntmps6
    go_wp2_with fail
    refine AW.out.mono ?_; rintro e V ⟨rfl, x1⟩
    go_wp2_with fail
    refine (FW.out _ x1).mono ?_; rintro e V2 ⟨rfl, x2⟩
    go_wp2_with fail
    go_ret
    exact ⟨rfl, x1.trans x2⟩

set_option maxRecDepth 100000 in
theorem lifted (os : Os) (started : os.Started) (H : Type) (enc : TypeId × Value → H) :
    ReturnsInHanded {} Tryd.checked os 6 .any (fun w args => (Rows.textGapsSpec.pre enc Tryd.prog Tryd.f6 [] false w args ∧ laidMetH Tryd.prog doorLaid w) ∧ sizedMet enc Tryd.prog Tryd.f6 (OpenSpec.ofChange Rows.textGapsSpec) false w args)
      (Rows.textGapsSpec.post enc Tryd.prog Tryd.f6 false true false false) := by
  refine law_liftD started (by kernel_rfl) Tryd.func6 rfl rfl Tryd.underlying4 (by kernel_rfl) ?_
    (ChangeSpec.witness_shaped (enc := enc) (C := Tryd.checked) (os := os) (X := fun w _ => laidMetH Tryd.prog doorLaid w) false (World.laidAll Tryd.prog os doorLaid) #[.slice none 0 0, .slice none 0 0] 8 (World.laidAll_os _ _ _)
      (World.shaped_of_ZipB (by kernel_rfl) (by kernel_rfl)) (by kernel_rfl) (by kernel_rfl) (by kernel_rfl) (laidStart os _)) ?_
  · intro H ds h
    match ds, h with
    | [_, _], _ => rfl
  · intro W base args ds p hval hA hlt hT
    rw [Tryd.params6] at hA hval
    obtain ⟨v0, vs0, d0, ds0, p0, q0, hargs, rfl, rfl, h0, r0⟩ := trodAll_cons hA
    obtain ⟨v1, vs1, d1, ds1, p1, q1, rfl, rfl, rfl, h1, r1⟩ := trodAll_cons r0
    obtain ⟨rfl, rfl, rfl⟩ := trodAll_nil r1
    obtain rfl : args = #[v0, v1] := by cases args; simp_all
    obtain ⟨A0, l0, c0, rfl, hc0, hm0, ok0, hs0⟩ := arg_words (hval 0 24 v0 rfl rfl) h0
    obtain ⟨A1, l1, c1, rfl, hc1, hm1, hs1⟩ := seen_bytes Tryd.underlying22 Tryd.underlying5 (by kernel_rfl) (hval 1 22 v1 rfl rfl) h1
    exact walk A0 l0 c0 hc0 hm0 ok0 A1 l1 c1 hc1 hm1 W hs0 hs1 hT

theorem bare : Rows.TextGapsSaid :=
  OpenClaim.holds_of_wide 6 Tryd.f6 rfl rfl rfl rfl rfl rfl rfl ⟨rfl, rfl, rfl, rfl, rfl⟩ rfl rfl rfl rfl rfl (by kernel_rfl) Tryd.func6 (by kernel_rfl)
    (of_decide_eq_true (by kernel_rfl)) (by unfold Func.isWrapper; first | (rw [if_pos (by decide +kernel)]; kernel_rfl) | (rw [if_neg (by decide +kernel)]; exact ⟨rfl, rfl⟩))
    (fun os started H enc _ => lifted os started H enc)
theorem holds : Rows.TextGapsCardSaid :=
  Claim7.holds_tied_plain_at .later [] [.data, .pinned] true Rows.textGapsCard.stood.harness false bare (fun _ h => by cases h) (by kernel_rfl) (fun _ h => by cases h) textGaps_row_tie rfl ⟨rfl, rfl⟩ (by kernel_rfl) rfl
    (fun f fn hf hfn => by
      obtain rfl : f = 6 := Option.some.inj ((show Tryd.prog.funcNamed "compositor/compositorlaw13.TextGaps" = some 6 by kernel_rfl).symm.trans hf) |>.symm
      obtain rfl : fn = Tryd.f6 := (Option.some.inj (Tryd.func6.symm.trans hfn)).symm
      exact ⟨by kernel_rfl, standsIn (ts := [24, 22]) (by kernel_rfl) (by rw [Tryd.params6])⟩)
    (by kernel_rfl)
end TextGaps
end Go.Proofs.YtbiklbomacjihaaDoor

