/- The document's Check of layer 13. -/
import Derived.Test.YtmmgmcfhlhghoaaDocA13
namespace Go.Proofs.Ytmmgmcfhlhghoaa
open Go.RowKit
namespace L13

theorem sumC_snoc (l : List TW) (p : TW) : sumC (l ++ [p]) = sumC l + p.1.length := by simp [sumC]
theorem take_map {l : List CW} {k : Nat} (h : k < l.length) : (l.take (k + 1)).map tw = (l.take k).map tw ++ [tw l[k]] := by
  rw [List.take_succ_eq_append_getElem h, List.map_append]; rfl
theorem word_short {p : TW} (h : wordB p = true) : 1 ≤ p.1.length ∧ p.1.length ≤ 60 := by
  simp only [wordB, Bool.and_eq_true, decide_eq_true_eq] at h
  exact h.1
theorem sum_most {l : List TW} (h : ∀ p ∈ l, wordB p = true) : sumC l ≤ l.length * 60 := by
  induction l with
  | nil => simp [sumC]
  | cons p r ih =>
    have h1 := word_short (h p (by simp))
    have h2 := ih (fun q hq => h q (by simp [hq]))
    have e : sumC (p :: r) = p.1.length + sumC r := by simp [sumC]
    rw [e, List.length_cons]
    omega
set_option maxRecDepth 100000 in
set_option maxHeartbeats 4000000 in
theorem rcheck_any (A : Option Addr) (l : List CW) (n c : Nat) (w : World) (hs : SeenC w A l) (hn : n = l.length) (ok : ∀ x ∈ l, x.Ok) :
    Calls Try.prog 21 #[.slice A n c] w (Ret w (.bool (checkB (l.map tw)))) := by
  have SN := Lib.hid hs
  have HN := Lib.hid hn
  have OK := Lib.hid ok
  obtain ⟨b, hb⟩ : ∃ b, checkB (l.map tw) = b := ⟨_, rfl⟩
  rw [hb]
  have HB := Lib.hid (show b = (decide (1 ≤ n ∧ n ≤ 100) && ((l.map tw).all wordB && decide (sumC (l.map tw) ≤ 400))) by rw [← hb, checkB, List.length_map, hn])
  clear hs hn ok hb
  by_cases h1 : n < 1
  · have HF := Lib.hid (show false = b by rw [HB.out, decide_eq_false (by omega)]; rfl)
    have h1' : (n : Int) < 1 := by omega
    clear HB
    go_enter Try.func21, Try.ntmps21
    go_wp2_with fail
    go_ret
    exact ⟨ret_bool HF.out, Ext.refl _⟩
  by_cases h2 : 100 < n
  · have HF := Lib.hid (show false = b by rw [HB.out, decide_eq_false (by omega)]; rfl)
    have h1' : ¬ (n : Int) < 1 := by omega
    have h2' : (100 : Int) < n := by omega
    clear HB
    go_enter Try.func21, Try.ntmps21
    go_wp2_with fail
    go_ret
    exact ⟨ret_bool HF.out, Ext.refl _⟩
  have h1' : ¬ (n : Int) < 1 := by omega
  have h2' : ¬ (100 : Int) < n := by omega
  have hn100 : (n : Int) ≤ 100 := by omega
  have HB2 := Lib.hid (show b = ((l.map tw).all wordB && decide (sumC (l.map tw) ≤ 400)) by rw [HB.out, decide_eq_true (by omega), Bool.true_and])
  clear HB
  go_enter Try.func21, Try.ntmps21
  go_wp2_with fail
  go_loopw [3, 4] (fun s i wr => ∃ (k t : Nat), k ≤ n ∧ i = .int .i64 k ∧ s = .int .i64 t ∧ t ≤ k * 60 ∧ Hid (Ext w wr) ∧ Hid (t = sumC ((l.take k).map tw) ∧ ∀ p ∈ (l.take k).map tw, wordB p = true)) (fun _ i _ => n - (intOf i).toNat)
  case atStart => exact ⟨0, 0, Nat.zero_le _, rfl, rfl, by omega, Lib.hid (Ext.refl _), Lib.hid ⟨by simp [sumC], fun p hp => by simp at hp⟩⟩
  case round =>
    obtain ⟨k, t, hk, rfl, rfl, ht, X, hh⟩ := hrel
    by_cases hlt : k < n
    · have hkl : k < l.length := by rw [← HN.out]; exact hlt
      obtain ⟨⟨ad, rfl, u0, u1⟩, s1, s2⟩ := (SN.out.ext X.out).get hkl
      have C := Lib.hid (rword_any l[k] (OK.out _ (List.getElem_mem hkl)) wr s1 s2)
      have TM := Lib.hid (take_map hkl)
      have LM := Lib.hid (show tw l[k] ∈ l.map tw from List.mem_map.2 ⟨_, List.getElem_mem hkl, rfl⟩)
      have WS := Lib.hid (word_short (p := tw l[k]))
      have TL := Lib.hid (show (tw l[k]).1.length = l[k].cs.length from rfl)
      unfold cwV at C
      generalize tw l[k] = p at *
      generalize l[k].cs.length = x0 at *
      generalize l[k].A = x1 at *
      generalize l[k].c = x2 at *
      generalize l[k].ss.length = x3 at *
      generalize l[k].B = x4 at *
      generalize l[k].d = x5 at *
      have hk64 : (k : Int) < n := by omega
      clear s1 s2
      go_wp2_with fail
      refine C.out.mono ?_; rintro e w5 ⟨rfl, x⟩
      have X5 := Lib.hid (X.out.trans x)
      have u0 := x.at u0
      clear x C
      cases hp : wordB p with
      | false =>
        have HF := Lib.hid (show false = b by
          rw [HB2.out]
          have : (l.map tw).all wordB = false := by
            rw [Bool.eq_false_iff]
            intro h
            rw [List.all_eq_true] at h
            rw [h p LM.out] at hp
            cases hp
          rw [this]; rfl)
        clear hp
        go_wp2_with fail
        go_ret
        exact ⟨ret_bool HF.out, X5.out⟩
      | true =>
        obtain ⟨y1, y2⟩ := WS.out hp
        rw [TL.out] at y1 y2
        have H2 := Lib.hid (show t + x0 = sumC ((l.take (k + 1)).map tw) ∧ ∀ q ∈ (l.take (k + 1)).map tw, wordB q = true by
          rw [TM.out, sumC_snoc, ← hh.out.1, TL.out]
          refine ⟨rfl, fun q hq => ?_⟩
          rcases List.mem_append.1 hq with hq | hq
          · exact hh.out.2 q hq
          · rw [List.mem_singleton.1 hq]; exact hp)
        have ht64 : (t : Int) ≤ 6000 := by omega
        have hx64 : (x0 : Int) ≤ 60 := by omega
        clear hp
        go_wp2_with fail
        go_roundw
        case rel => exact ⟨k + 1, t + x0, by omega, by go_num, by go_num, by omega, X5, H2⟩
        case measure => simp [intOf]; omega
    · obtain rfl : k = n := by omega
      obtain ⟨e1, e2⟩ := hh.out
      have et : l.take k = l := List.take_of_length_le (by rw [HN.out]; exact Nat.le_refl _)
      rw [et] at e1 e2
      have HF := Lib.hid (show decide (t ≤ 400) = b by
        rw [HB2.out, ← e1, show (l.map tw).all wordB = true from List.all_eq_true.2 e2, Bool.true_and])
      clear e1 e2 et
      by_cases h4 : t ≤ 400
      · have h4' : (t : Int) ≤ 400 := by omega
        rw [decide_eq_true h4] at HF
        clear h4
        go_wp2_with fail
        go_ret
        exact ⟨ret_bool HF.out, X.out⟩
      · have h4' : ¬ (t : Int) ≤ 400 := by omega
        rw [decide_eq_false h4] at HF
        clear h4
        go_wp2_with fail
        go_ret
        exact ⟨ret_bool HF.out, X.out⟩
end L13
end Go.Proofs.Ytmmgmcfhlhghoaa

