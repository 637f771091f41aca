/- The document's Read of layer 13. -/
import Derived.Test.YtbiklbomacjihaaDoorReadA13
namespace Go.Proofs.YtbiklbomacjihaaDoor
open Go.RowKit
namespace L13
open L10 (gapB wordsGo wordsL)

/-- What Read answers, and its error. -/
def fromL (ws : List TW) : List TW × Int := if (ws.all wordB && checkB ws) = true then (ws, 0) else ([], 130)
def readA (l : List UInt8) : List TW × Int := fromL ((wordsL l).map ofL)
/-- How far it is: what is read, what is left. -/
def RdR (l : List UInt8) (k : Nat) (wl : List CW) : Prop :=
  (wordsL l).map ofL = wl.map tw ++ (wordsGo [] (l.drop k)).map ofL ∧ (wl.map tw).all wordB = true ∧ ∀ x ∈ wl, x.Ok
theorem RdR.start (l : List UInt8) : RdR l 0 [] := ⟨by simp [wordsL], rfl, by simp⟩
theorem RdR.gap {l : List UInt8} {k : Nat} {wl : List CW} (h : RdR l k wl) (hk : k < l.length) (hg : gapB l[k] = true) : RdR l (k + 1) wl :=
  ⟨by rw [h.1, List.drop_eq_getElem_cons hk, wordsGo, if_pos hg, if_pos rfl], h.2⟩
/-- A word that has begun, up to j. -/
def Seg (l : List UInt8) (k j : Nat) : Prop := wordsGo [] (l.drop k) = wordsGo ((l.drop k).take (j - k)) (l.drop j)
theorem Seg.start (l : List UInt8) (k : Nat) : Seg l k k := by simp [Seg]
theorem Seg.more {l : List UInt8} {k j : Nat} (h : Seg l k j) (hkj : k ≤ j) (hj : j < l.length) (hg : gapB l[j] = false) : Seg l k (j + 1) := by
  unfold Seg at *
  rw [h, List.drop_eq_getElem_cons hj, wordsGo, if_neg (by rw [hg]; decide), show j + 1 - k = (j - k) + 1 by omega, List.take_succ_eq_append_getElem (by rw [List.length_drop]; omega), List.getElem_drop]
  simp only [show k + (j - k) = j by omega]
theorem Seg.stop {l : List UInt8} {k j : Nat} (h : Seg l k j) (hkj : k < j) (hj : j ≤ l.length) (hg : ∀ hj : j < l.length, gapB l[j] = true) : wordsGo [] (l.drop k) = (l.drop k).take (j - k) :: wordsGo [] (l.drop j) := by
  have hne : (l.drop k).take (j - k) ≠ [] := fun e => by
    have := congrArg List.length e
    rw [List.length_take, List.length_drop, List.length_nil] at this
    omega
  unfold Seg at h
  rw [h]
  by_cases hlt : j < l.length
  · rw [List.drop_eq_getElem_cons hlt, wordsGo, if_pos (hg hlt), if_neg hne, wordsGo, if_pos (hg hlt), if_pos rfl]
  · rw [List.drop_eq_nil_of_le (show l.length ≤ j by omega), wordsGo, if_neg hne, wordsGo, if_pos rfl]
theorem RdR.no {l : List UInt8} {k j : Nat} {wl : List CW} (h : RdR l k wl) (hs : wordsGo [] (l.drop k) = (l.drop k).take (j - k) :: wordsGo [] (l.drop j)) (hw : wordB (ofL ((l.drop k).take (j - k))) = false) : readA l = ([], 130) := by
  rw [readA, fromL, if_neg]
  rw [h.1, hs, List.map_cons, List.all_append, List.all_cons, hw]
  simp
theorem RdR.word {l : List UInt8} {k j : Nat} {wl : List CW} {y : CW} (h : RdR l k wl) (hs : wordsGo [] (l.drop k) = (l.drop k).take (j - k) :: wordsGo [] (l.drop j)) (e : tw y = ofL ((l.drop k).take (j - k))) (hw : wordB (tw y) = true) (ok : y.Ok) : RdR l j (wl ++ [y]) := by
  refine ⟨by rw [h.1, hs, List.map_cons, List.map_append, ← e]; simp, by rw [List.map_append, List.all_append, h.2.1]; simp [hw], fun x hx => ?_⟩
  rcases List.mem_append.1 hx with hx | hx
  · exact h.2.2 x hx
  · obtain rfl : x = y := by simpa using hx
    exact ok
theorem RdR.fin {l : List UInt8} {wl : List CW} (h : RdR l l.length wl) : readA l = if checkB (wl.map tw) = true then (wl.map tw, 0) else ([], 130) := by
  have e := h.1
  rw [List.drop_length, wordsGo, if_pos rfl, List.map_nil, List.append_nil] at e
  rw [readA, e, fromL, h.2.1, Bool.true_and]
theorem word_wide {p : TW} (h : wordB p = true) : (∀ n ∈ p.1, -9223372036854775808 ≤ n ∧ n ≤ 9223372036854775807) ∧ ∀ n ∈ p.2, -9223372036854775808 ≤ n ∧ n ≤ 9223372036854775807 := by
  have h1 := word_short h
  simp only [wordB, Bool.and_eq_true, List.all_eq_true] at h
  refine ⟨fun n hn => ?_, fun n hn => ?_⟩
  · have := h.2.1 n hn
    simp only [codeB, decide_eq_true_eq] at this
    omega
  · have := L10.rises_mem _ _ h.2.2 n hn
    omega
/-- What Read answers, in a world. -/
def ReadQ (w : World) (r : List TW × Int) (e : Ending) (w' : World) : Prop :=
  Ext w w' ∧ ∃ A c wl, e = .returned (.tuple #[.slice A wl.length c, .int .i64 r.2]) ∧ wl.map tw = r.1 ∧ SeenC w' A wl ∧ (∀ x ∈ wl, x.Ok) ∧ wl.length ≤ c ∧ c ≤ maxLen

set_option maxRecDepth 100000 in
set_option maxHeartbeats 400000 in
theorem rread_any (A : Option Addr) (l : List UInt8) (n c : Nat) (w : World) (hs : SeenB w A l) (hn : n = l.length) (hm : n ≤ 100000) (hc : n ≤ c) : Calls Tryd.prog 12 #[.slice A n c] w (ReadQ w (readA l)) := by
  have SB := Lib.hid hs
  have HN := Lib.hid hn
  clear hs hn
  have hn64 : (n : Int) ≤ 100000 := by omega
  go_enter Tryd.func12, Tryd.ntmps12
  go_wp2_with fail
  go_loopw [4, 5] (fun v i wr => ∃ (vv : Value) (k : Nat) (wl : List CW), vv = v ∧ i = .int .i64 k ∧ k ≤ n ∧ wl.length ≤ k ∧ Hid (Rd w wr vv wl) ∧ Hid (RdR l k wl)) (fun _ i _ => n - (intOf i).toNat)
  case atStart => exact ⟨_, 0, [], rfl, rfl, Nat.zero_le _, by simp, Lib.hid (Rd.nil w), Lib.hid (RdR.start l)⟩
  case round =>
    obtain ⟨vv, k, wl, hvv, rfl, hk, hwk, hrd, hrr⟩ := hrel
    subst hvv
    by_cases hlt : k < n
    · have hlt' : k < l.length := by rw [← HN.out]; exact hlt
      obtain ⟨ad, rfl, _, b0⟩ := (SB.out.ext hrd.out.x).get hlt'
      have hk64 : (k : Int) < (n : Int) := by omega
      have C := Lib.hid (rgap_any l[k] wr)
      by_cases hg : gapB l[k] = true
      · have R2 := Lib.hid (hrr.out.gap hlt' hg)
        rw [hg] at C
        generalize l[k] = b at *
        go_wp2_with fail
        refine C.out.mono ?_; rintro e w1 ⟨rfl, x1⟩
        have RD1 := Lib.hid (hrd.out.over x1)
        clear C hrd hrr x1
        go_wp2_with fail
        go_roundw
        case rel => exact ⟨_, k + 1, wl, rfl, by go_num, by omega, by omega, RD1, R2⟩
        case measure => simp [intOf]; omega
      · have hg' : gapB l[k] = false := by simpa using hg
        have NG := Lib.hid hg'
        rw [hg'] at C
        obtain ⟨b, hb⟩ : ∃ b, b = l[k] := ⟨_, rfl⟩
        rw [← hb] at C b0
        clear hg hg' hb
        go_wp2_with fail
        refine C.out.mono ?_; rintro e w1 ⟨rfl, x1⟩
        have RD1 := Lib.hid (hrd.out.over x1)
        clear C hrd x1 b0
        obtain ⟨wo, rfl⟩ : ∃ wo : World, wo = w1 := ⟨_, rfl⟩
        go_wp2_with fail
        go_loopw [7] (fun i wr => ∃ j : Nat, i = .int .i64 j ∧ k ≤ j ∧ j ≤ n ∧ Hid (Seg l k j) ∧ Hid (Rd w wr vv wl)) (fun i _ => n - (intOf i).toNat)
        case atStart => exact ⟨k, rfl, by omega, by omega, Lib.hid (Seg.start l k), RD1⟩
        case round =>
          obtain ⟨j, rfl, hkj, hjn, hsg, hrd⟩ := hrel
          by_cases hj : j < n
          · have hj' : j < l.length := by rw [← HN.out]; exact hj
            obtain ⟨ad', e, _, b0⟩ := (SB.out.ext hrd.out.x).get hj'
            cases e
            have hj64 : (j : Int) < (n : Int) := by omega
            have C := Lib.hid (rgap_any l[j] wr)
            by_cases hg : gapB l[j] = true
            · have hne : k < j := by
                rcases Nat.lt_or_ge k j with h | h
                · exact h
                · obtain rfl : k = j := by omega
                  rw [NG.out] at hg
                  cases hg
              have ST := Lib.hid (hsg.out.stop hne (by omega) (fun _ => hg))
              rw [hg] at C
              obtain ⟨b, hb⟩ : ∃ b, b = l[j] := ⟨_, rfl⟩
              rw [← hb] at C b0
              clear hg hb
              go_wp2_with fail
              refine C.out.mono ?_; rintro e w4 ⟨rfl, x4⟩
              have RD4 := Lib.hid (hrd.out.over x4)
              clear C hrd x4 b0 hsg
              have hcn : c ≠ k := by omega
              have hjk : (k : Int) ≤ (j : Int) := by omega
              have hjc : (j : Int) ≤ (c : Int) := by omega
              have hjn64 : (j : Int) ≤ (n : Int) := by omega
              have S4 := ((SB.out.ext RD4.out.x).cut (k := k) (cap := c) (by rw [← HN.out]; omega) (by rw [← HN.out]; exact hc)).take (j - k)
              rw [cutA, if_neg hcn] at S4
              have CO := Lib.hid (rof_any (some (ad.add k)) ((l.drop k).take (j - k)) (j - k) (c - k) w4 S4 (by rw [List.length_take, List.length_drop, ← HN.out]; omega) (by omega))
              have NO := Lib.hid (fun h => hrr.out.no ST.out h)
              have YES := Lib.hid (fun (y : CW) h1 h2 h3 => hrr.out.word (y := y) ST.out h1 h2 h3)
              generalize ofL ((l.drop k).take (j - k)) = p at *
              clear S4 ST hrr NG
              go_wp2_with fail
              refine CO.out.mono ?_; rintro e w5 ⟨x5, y, rfl, ey, s1, s2, r1, r2, r3, r4, la, lb⟩
              have RD5 := RD4.out.over x5
              have IN5 : Inn w w5 vv y := ⟨s1, s2, fun a e => ⟨by have := RD4.out.x.size; have := (la a e).1; omega, (la a e).2, fun e2 => by have := (RD4.out.row.lt _ e2).2; have := (la a e).1; omega⟩,
                fun a e => ⟨by have := RD4.out.x.size; have := (lb a e).1; omega, (lb a e).2, fun e2 => by have := (RD4.out.row.lt _ e2).2; have := (lb a e).1; omega⟩⟩
              obtain ⟨bw, hbw⟩ : ∃ bw, wordB p = bw := ⟨_, rfl⟩
              rw [hbw]
              rcases bw with _ | _
              · have Q := Lib.hid (show ∀ w6, Ext w5 w6 → ReadQ w (readA l) (.returned (.tuple #[.slice none 0 0, .int .i64 130])) w6 from fun w6 x6 => ⟨RD5.x.trans x6, none, 0, [], by rw [NO.out hbw]; rfl, by rw [NO.out hbw]; rfl, SeenC.nil, by simp, by simp, by simp⟩)
                clear RD5 IN5 CO NO YES RD4 x5 ey s1 s2 r1 r2 r3 r4 la lb hbw hwk RD1
                unfold cwV
                generalize y.cs.length = m1 at *
                generalize y.A = A1 at *
                generalize y.c = c1 at *
                generalize y.ss.length = m2 at *
                generalize y.B = B1 at *
                generalize y.d = d1 at *
                go_upto_region 11 with (fail)
                go_wp2_with fail
                go_ret2
                exact Q.out _ ((Ext.refl w5).alloc _)
              · obtain ⟨W8, hW8⟩ : ∃ W8, W8 = w5.alloc (.cells #[.slice y.A y.cs.length y.c, .slice y.B y.ss.length y.d] 36) := ⟨_, rfl⟩
                have xa : Ext w5 W8 := by rw [hW8]; exact (Ext.refl w5).alloc _
                have k8 : Blk W8 w5.heap.size 36 [.slice y.A y.cs.length y.c, .slice y.B y.ss.length y.d] := by rw [hW8]; exact Blk.lit _ _ _ _ rfl
                obtain ⟨A9, n9, c9, w9, hr, rd9⟩ := (RD5.over xa).put y (IN5.ext xa) (by omega) 24
                have R9 := Lib.hid (show RdR l j (wl ++ [y]) from YES.out y ey (by rw [ey]; exact hbw) (by
                  obtain ⟨h1, h2⟩ := word_wide (p := tw y) (by rw [ey]; exact hbw)
                  exact ⟨r1, r2, r3, r4, h1, h2⟩))
                have RD9 := Lib.hid rd9
                have hl9 : (wl ++ [y]).length ≤ j := by rw [List.length_append]; simp; omega
                generalize wl ++ [y] = wl2 at *
                clear RD5 IN5 CO NO YES RD4 x5 ey s1 s2 r1 r2 r3 r4 la lb hbw rd9 xa RD1 hwk
                unfold cwV
                generalize y.cs.length = m1 at *
                generalize y.A = A1 at *
                generalize y.c = c1 at *
                generalize y.ss.length = m2 at *
                generalize y.B = B1 at *
                generalize y.d = d1 at *
                go_upto_region 13 with (fail)
                rw [← hW8]
                clear hW8
                have q0 : W8.cell? ⟨w5.heap.size, 0, none⟩ = some (.slice A1 m1 c1) := k8.cell 0
                have q1 : W8.cell? ⟨w5.heap.size, 1, none⟩ = some (.slice B1 m2 d1) := k8.cell 1
                clear k8
                generalize w5.heap.size = R8 at *
                go_wp2_with (first | (at_builtin; refine wpList_ran rfl _ _ rfl hr ?_) | fail)
                go_roundw
                case rel => exact ⟨_, j, wl2, rfl, rfl, by omega, hl9, RD9, R9⟩
                case measure => simp [intOf]; omega
            · have hg' : gapB l[j] = false := by simpa using hg
              have SG2 := Lib.hid (hsg.out.more hkj hj' hg')
              rw [hg'] at C
              obtain ⟨b, hb⟩ : ∃ b, b = l[j] := ⟨_, rfl⟩
              rw [← hb] at C b0
              clear hg hg' hb
              go_wp2_with fail
              refine C.out.mono ?_; rintro e w4 ⟨rfl, x4⟩
              have RD4 := Lib.hid (hrd.out.over x4)
              clear C hrd x4 b0 hsg
              go_wp2_with fail
              go_roundw
              case rel => exact ⟨j + 1, by go_num, by omega, by omega, SG2, RD4⟩
              case measure => simp [intOf]; omega
          · have hj64 : ¬ (j : Int) < (n : Int) := by omega
            have hne : k < j := by omega
            have ST := Lib.hid (hsg.out.stop hne (by rw [← HN.out]; exact hjn) (fun h => absurd h (by rw [← HN.out]; exact hj)))
            obtain ⟨w4, hw4⟩ : ∃ w4 : World, w4 = wr := ⟨_, rfl⟩
            subst hw4
            have RD4 := hrd
            clear hrd hsg hj
            have hcn : c ≠ k := by omega
            have hjk : (k : Int) ≤ (j : Int) := by omega
            have hjc : (j : Int) ≤ (c : Int) := by omega
            have hjn64 : (j : Int) ≤ (n : Int) := by omega
            have S4 := ((SB.out.ext RD4.out.x).cut (k := k) (cap := c) (by rw [← HN.out]; omega) (by rw [← HN.out]; exact hc)).take (j - k)
            rw [cutA, if_neg hcn] at S4
            have CO := Lib.hid (rof_any (some (ad.add k)) ((l.drop k).take (j - k)) (j - k) (c - k) w4 S4 (by rw [List.length_take, List.length_drop, ← HN.out]; omega) (by omega))
            have NO := Lib.hid (fun h => hrr.out.no ST.out h)
            have YES := Lib.hid (fun (y : CW) h1 h2 h3 => hrr.out.word (y := y) ST.out h1 h2 h3)
            generalize ofL ((l.drop k).take (j - k)) = p at *
            clear S4 ST hrr NG
            go_wp2_with fail
            refine CO.out.mono ?_; rintro e w5 ⟨x5, y, rfl, ey, s1, s2, r1, r2, r3, r4, la, lb⟩
            have RD5 := RD4.out.over x5
            have IN5 : Inn w w5 vv y := ⟨s1, s2, fun a e => ⟨by have := RD4.out.x.size; have := (la a e).1; omega, (la a e).2, fun e2 => by have := (RD4.out.row.lt _ e2).2; have := (la a e).1; omega⟩,
              fun a e => ⟨by have := RD4.out.x.size; have := (lb a e).1; omega, (lb a e).2, fun e2 => by have := (RD4.out.row.lt _ e2).2; have := (lb a e).1; omega⟩⟩
            obtain ⟨bw, hbw⟩ : ∃ bw, wordB p = bw := ⟨_, rfl⟩
            rw [hbw]
            rcases bw with _ | _
            · have Q := Lib.hid (show ∀ w6, Ext w5 w6 → ReadQ w (readA l) (.returned (.tuple #[.slice none 0 0, .int .i64 130])) w6 from fun w6 x6 => ⟨RD5.x.trans x6, none, 0, [], by rw [NO.out hbw]; rfl, by rw [NO.out hbw]; rfl, SeenC.nil, by simp, by simp, by simp⟩)
              clear RD5 IN5 CO NO YES RD4 x5 ey s1 s2 r1 r2 r3 r4 la lb hbw hwk RD1
              unfold cwV
              generalize y.cs.length = m1 at *
              generalize y.A = A1 at *
              generalize y.c = c1 at *
              generalize y.ss.length = m2 at *
              generalize y.B = B1 at *
              generalize y.d = d1 at *
              go_upto_region 11 with (fail)
              go_wp2_with fail
              go_ret2
              exact Q.out _ ((Ext.refl w5).alloc _)
            · obtain ⟨W8, hW8⟩ : ∃ W8, W8 = w5.alloc (.cells #[.slice y.A y.cs.length y.c, .slice y.B y.ss.length y.d] 36) := ⟨_, rfl⟩
              have xa : Ext w5 W8 := by rw [hW8]; exact (Ext.refl w5).alloc _
              have k8 : Blk W8 w5.heap.size 36 [.slice y.A y.cs.length y.c, .slice y.B y.ss.length y.d] := by rw [hW8]; exact Blk.lit _ _ _ _ rfl
              obtain ⟨A9, n9, c9, w9, hr, rd9⟩ := (RD5.over xa).put y (IN5.ext xa) (by omega) 24
              have R9 := Lib.hid (show RdR l j (wl ++ [y]) from YES.out y ey (by rw [ey]; exact hbw) (by
                obtain ⟨h1, h2⟩ := word_wide (p := tw y) (by rw [ey]; exact hbw)
                exact ⟨r1, r2, r3, r4, h1, h2⟩))
              have RD9 := Lib.hid rd9
              have hl9 : (wl ++ [y]).length ≤ j := by rw [List.length_append]; simp; omega
              generalize wl ++ [y] = wl2 at *
              clear RD5 IN5 CO NO YES RD4 x5 ey s1 s2 r1 r2 r3 r4 la lb hbw rd9 xa RD1 hwk
              unfold cwV
              generalize y.cs.length = m1 at *
              generalize y.A = A1 at *
              generalize y.c = c1 at *
              generalize y.ss.length = m2 at *
              generalize y.B = B1 at *
              generalize y.d = d1 at *
              go_upto_region 13 with (fail)
              rw [← hW8]
              clear hW8
              have q0 : W8.cell? ⟨w5.heap.size, 0, none⟩ = some (.slice A1 m1 c1) := k8.cell 0
              have q1 : W8.cell? ⟨w5.heap.size, 1, none⟩ = some (.slice B1 m2 d1) := k8.cell 1
              clear k8
              generalize w5.heap.size = R8 at *
              go_wp2_with (first | (at_builtin; refine wpList_ran rfl _ _ rfl hr ?_) | fail)
              go_roundw
              case rel => exact ⟨_, j, wl2, rfl, rfl, by omega, hl9, RD9, R9⟩
              case measure => simp [intOf]; omega
    · have hkn : k = n := by omega
      obtain ⟨A, c0, rfl, hlc, hcm, sc⟩ := hrd.out.look
      have CK := Lib.hid (rcheck_any A wl wl.length c0 wr sc rfl hrr.out.2.2)
      have FIN := Lib.hid (show readA l = if checkB (wl.map tw) = true then (wl.map tw, 0) else ([], 130) from RdR.fin (by rw [← HN.out, ← hkn]; exact hrr.out))
      have SC := Lib.hid sc
      have OKS := Lib.hid hrr.out.2.2
      clear sc hrr
      by_cases hb : checkB (wl.map tw) = true
      · rw [hb] at CK
        have FIN := Lib.hid (show readA l = (wl.map tw, 0) by rw [FIN.out, if_pos hb])
        clear hb
        have hk64 : ¬ (k : Int) < (n : Int) := by omega
        go_wp2_with fail
        refine CK.out.mono ?_; rintro e w5 ⟨rfl, x5⟩
        have Q := Lib.hid (show ReadQ w (readA l) (.returned (.tuple #[.slice A wl.length c0, .int .i64 0])) w5 from ⟨hrd.out.x.trans x5, A, c0, wl, by rw [FIN.out], by rw [FIN.out], SC.out.ext x5, OKS.out, hlc, hcm⟩)
        clear CK hrd FIN SC OKS x5 hwk hlc hcm
        go_wp2_with fail
        go_ret2
        exact Q.out
      · have hb' : checkB (wl.map tw) = false := by simpa using hb
        rw [hb'] at CK
        have FIN := Lib.hid (show readA l = ([], 130) by rw [FIN.out, if_neg hb])
        clear hb hb'
        have hk64 : ¬ (k : Int) < (n : Int) := by omega
        go_wp2_with fail
        refine CK.out.mono ?_; rintro e w5 ⟨rfl, x5⟩
        have Q := Lib.hid (show ReadQ w (readA l) (.returned (.tuple #[.slice none 0 0, .int .i64 130])) w5 from ⟨hrd.out.x.trans x5, none, 0, [], by rw [FIN.out]; rfl, by rw [FIN.out]; rfl, SeenC.nil, by simp, by simp, by simp⟩)
        clear CK hrd FIN SC OKS x5 hwk hlc hcm
        go_wp2_with fail
        go_ret2
        exact Q.out
end L13
end Go.Proofs.YtbiklbomacjihaaDoor

