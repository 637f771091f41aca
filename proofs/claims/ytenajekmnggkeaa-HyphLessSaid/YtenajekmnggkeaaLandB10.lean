/- The landed patternMayBe, exceptionMayBe of layer 10. -/
import Derived.Test.YtenajekmnggkeaaLandA10
import Derived.Test.YtenajekmnggkeaaKeep
import Derived.Deep.Cut
namespace Go.Proofs.Ytenajekmnggkeaa
open Go.RowKit
namespace L10

def tn (x : WP) : TN := (x.s.data.toList, x.ns)
theorem trim_front (l : List UInt8) : Lib.trimPrefix l [46] = headD l := by
  unfold Lib.trimPrefix Lib.hasPrefix headD
  cases l with
  | nil => rfl
  | cons b r =>
    by_cases h : b = 46
    · subst h; simp
    · have h2 : ¬ (46 : UInt8) = b := fun e => h e.symm
      simp [h, h2, List.isPrefixOf]
theorem trim_back (l : List UInt8) : Lib.trimSuffix l [46] = tailD l := by
  unfold Lib.trimSuffix Lib.hasSuffix tailD
  by_cases h : l.getLast? = some 46
  · have hne : l ≠ [] := by rintro rfl; simp at h
    rw [if_pos h, if_pos]
    · rw [List.dropLast_eq_take]; rfl
    · rw [List.isSuffixOf_iff_suffix]
      refine ⟨l.dropLast, ?_⟩
      have e := List.dropLast_concat_getLast hne
      rw [List.getLast?_eq_some_getLast hne, Option.some.injEq] at h
      rw [h] at e
      exact e
  · rw [if_neg h, if_neg]
    rw [List.isSuffixOf_iff_suffix]
    rintro ⟨m, e⟩
    apply h
    rw [← e]
    simp
theorem drop_all {p : Int → Bool} {l : List Int} {k : Nat} (h : k < l.length) : (l.drop k).all p = (p (l.getD k 0) && (l.drop (k + 1)).all p) := by
  rw [List.drop_eq_getElem_cons h, List.all_cons, List.getD, List.getElem?_eq_getElem h]; rfl
theorem getD_wide {l : List Int} (h : ∀ n ∈ l, -9223372036854775808 ≤ n ∧ n ≤ 9223372036854775807) (k : Nat) : -9223372036854775808 ≤ l.getD k 0 ∧ l.getD k 0 ≤ 9223372036854775807 := by
  by_cases hk : k < l.length
  · rw [List.getD, List.getElem?_eq_getElem hk]
    exact h _ (List.getElem_mem hk)
  · rw [List.getD, List.getElem?_eq_none (by omega)]
    simp

set_option maxRecDepth 100000 in
set_option maxHeartbeats 2000000 in
theorem pat_any (x : WP) (ok : x.Ok) (w : World) (sn : SeenL w x.A x.ns) : Calls Try.prog 30 #[wpV x] w (Ret w (.bool (patB (tn x)))) := by
  obtain ⟨s, ns, A, c⟩ := x
  obtain ⟨hr, hm, hsz, hwide⟩ := ok
  dsimp only at hr hm hsz hwide sn
  unfold maxLen at hm hsz
  obtain ⟨V, hV⟩ : ∃ V, V = w.alloc (.cells #[.string s, .slice A ns.length c] 50) := ⟨_, rfl⟩
  have W0 : Ext w V := by rw [hV]; exact (Ext.refl _).alloc _
  have kB : Blk V w.heap.size 50 [.string s, .slice A ns.length c] := by rw [hV]; exact Blk.lit _ _ _ _ rfl
  have SN := Lib.hid (sn.ext W0)
  have HP := Lib.hid (show patB (tn ⟨s, ns, A, c⟩) = (ns.all valB && (plainB (coreL s.data.toList) && decide (ns.length = s.size + 1))) by
    have hl := list_len s
    simp only [patB, tn, hl]
    cases plainB (coreL s.data.toList) <;> cases ns.all valB <;> simp)
  obtain ⟨b, hb⟩ : ∃ b, patB (tn ⟨s, ns, A, c⟩) = b := ⟨_, rfl⟩
  rw [hb]
  have HB := Lib.hid hb
  have HW := Lib.hid (fun k => getD_wide hwide k)
  obtain ⟨n, hn⟩ : ∃ n, n = ns.length := ⟨_, rfl⟩
  have HN := Lib.hid hn
  unfold wpV
  rw [← hn] at hV kB hr ⊢
  clear hb hwide sn hn
  have hn64 : (n : Int) ≤ 9223372036854775807 := by omega
  go_enter Try.func30, Try.ntmps30
  go_upto_region 1 with (fail)
  rw [← hV]
  clear hV
  generalize w.heap.size = B at *
  have q0 : V.cell? ⟨B, 0, none⟩ = some (.string s) := kB.cell 0
  have q1 : V.cell? ⟨B, 1, none⟩ = some (.slice A n c) := kB.cell 1
  have HX := Lib.hid W0
  clear W0
  go_wp2_with fail
  go_loop [9] (fun i => ∃ k : Nat, k ≤ n ∧ i = .int .i64 k ∧ Hid (ns.all valB = (ns.drop k).all valB)) (fun i => n - (intOf i).toNat)
  case atStart => exact ⟨0, Nat.zero_le _, rfl, rfl⟩
  case round =>
    obtain ⟨k, hk, rfl, hall⟩ := hrel
    by_cases hlt : k < n
    · have hlt' : k < ns.length := by rw [← HN.out]; exact hlt
      obtain ⟨ad, rfl, hc⟩ := SN.out.get hlt'
      have hall := hall.out
      rw [drop_all hlt'] at hall
      have hw := HW.out k
      have HALL := Lib.hid hall
      generalize ns.getD k 0 = v at *
      have hk64 : (k : Int) < (n : Int) := by omega
      clear hall
      by_cases h1 : v < 0
      · have H2 := Lib.hid (show false = b by rw [← HB.out, HP.out, HALL.out, show valB v = false from decide_eq_false (by omega)]; rfl)
        clear HALL
        go_wp2_with fail
        go_ret
        exact ⟨ret_bool H2.out, HX.out⟩
      · by_cases h2 : 9 < v
        · have H2 := Lib.hid (show false = b by rw [← HB.out, HP.out, HALL.out, show valB v = false from decide_eq_false (by omega)]; rfl)
          clear HALL
          go_wp2_with fail
          go_ret
          exact ⟨ret_bool H2.out, HX.out⟩
        · have H2 := Lib.hid (show ns.all valB = (ns.drop (k + 1)).all valB by rw [HALL.out, show valB v = true from decide_eq_true (by omega)]; rfl)
          clear HALL
          go_wp2_with fail
          go_round
          case rel => exact ⟨k + 1, by omega, by go_num, H2⟩
          case measure => simp [intOf]; omega
    · obtain rfl : k = n := by omega
      have H1 := Lib.hid (show ns.all valB = true by rw [hall.out, HN.out, List.drop_length]; rfl)
      have H2 := Lib.hid (show b = (plainB (coreL s.data.toList) && decide (k = s.size + 1)) by rw [← HB.out, HP.out, H1.out, HN.out]; rfl)
      clear hall H1
      have C1 := Lib.hid (Try.strings_TrimPrefix s ⟨#[46]⟩ V)
      go_wp2_with fail
      refine C1.out.mono ?_; rintro e w1 ⟨rfl, rfl⟩
      have e1 : Lib.trimPrefix s.data.toList (ByteArray.mk #[46]).data.toList = headD s.data.toList := trim_front _
      rw [e1]
      have hsz1 : (headD s.data.toList).length ≤ s.size := by
        rw [← list_len s]
        unfold headD
        split <;> simp
      obtain ⟨s1, hs1⟩ : ∃ s1 : ByteArray, s1 = ⟨(headD s.data.toList).toArray⟩ := ⟨_, rfl⟩
      rw [← hs1]
      have hl1 : s1.data.toList = headD s.data.toList := by rw [hs1]
      have C2 := Lib.hid (Try.strings_TrimSuffix s1 ⟨#[46]⟩ w1 (by rw [← list_len s1, hl1]; omega))
      rw [hl1, show (ByteArray.mk #[46]).data.toList = [46] from rfl, trim_back] at C2
      have hc : tailD (headD s.data.toList) = coreL s.data.toList := rfl
      rw [hc] at C2
      clear e1 hs1 hsz1 hl1 hc C1
      go_wp2_with fail
      refine C2.out.mono ?_; rintro e w2 ⟨rfl, rfl⟩
      obtain ⟨s2, hs2⟩ : ∃ s2 : ByteArray, s2 = ⟨(coreL s.data.toList).toArray⟩ := ⟨_, rfl⟩
      rw [← hs2]
      have C3 := Lib.hid (letters_any s2 w2)
      rw [show s2.data.toList = coreL s.data.toList by rw [hs2]] at C3
      clear hs2 C2
      go_wp2_with fail
      refine C3.out.mono ?_; rintro e w3 ⟨rfl, x3⟩
      clear C3
      have q0 := x3.at q0
      have q1 := x3.at q1
      have HX3 := Lib.hid (HX.out.trans x3)
      cases hp : plainB (coreL s.data.toList) with
      | false =>
        have H3 := Lib.hid (show false = b by rw [H2.out, hp]; rfl)
        clear H2 hp
        go_wp2_with fail
        go_ret
        exact ⟨ret_bool H3.out, HX3.out⟩
      | true =>
        have H3 := Lib.hid (show b = decide (k = s.size + 1) by rw [H2.out, hp]; rfl)
        clear H2 hp
        have h64 : (s.size : Int) ≤ 9223372036854775807 := by omega
        by_cases he : k = s.size + 1
        · have H4 := Lib.hid (show true = b by rw [H3.out, decide_eq_true he])
          clear H3
          have he' : ((k : Int) == wrap64 ((s.size : Int) + 1)) = true := by
            unfold wrap64; simp; omega
          go_wp2_with fail
          go_ret
          exact ⟨ret_bool H4.out, HX3.out⟩
        · have H4 := Lib.hid (show false = b by rw [H3.out, decide_eq_false he])
          have HE := Lib.hid (show ((k : Int) == wrap64 ((s.size : Int) + 1)) = false by
            unfold wrap64; simp; omega)
          clear H3
          go_wp2_with fail
          go_ret
          exact ⟨ret_bool (HE.out.trans H4.out), HX3.out⟩
end L10
end Go.Proofs.Ytenajekmnggkeaa

