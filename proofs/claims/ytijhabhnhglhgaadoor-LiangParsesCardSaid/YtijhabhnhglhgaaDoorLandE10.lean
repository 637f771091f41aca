/- The landed exceptionWord of layer 10: its walk. -/
import Derived.Test.YtijhabhnhglhgaaDoorLandD10
namespace Go.Proofs.YtijhabhnhglhgaaDoor
open Go.RowKit
namespace L10

set_option maxRecDepth 100000 in
set_option maxHeartbeats 2000000 in
theorem eword_any (x : WP) (hp : excB (tn x) = true) (w : World) (sn : SeenL w x.A x.ns) :
    Calls Tryd.prog 26 #[wpV x] w (Ret w (.string ⟨(partL (tn x)).toArray⟩)) := by
  obtain ⟨s, ns, A, c⟩ := x
  obtain ⟨hpl, _, hri⟩ := exc_parts hp
  have hsz := list_len s
  have hs40 : s.size ≤ 40 := by
    simp only [plainB, Bool.and_eq_true, decide_eq_true_eq, tn, hsz] at hpl
    omega
  have hnl : ns.length ≤ 40 := by
    have := rises_length _ _ hri (by
      have : 1 ≤ s.size := by
        simp only [plainB, Bool.and_eq_true, decide_eq_true_eq, tn, hsz] at hpl
        omega
      simp only [tn, hsz]; omega)
    simp only [tn, hsz] at this
    omega
  dsimp only [tn] at sn
  obtain ⟨V, hV⟩ : ∃ V, V = w.alloc (.cells #[.string s, .slice A ns.length c] 45) := ⟨_, rfl⟩
  have W0 : Ext w V := by rw [hV]; exact (Ext.refl _).alloc _
  have kB : Blk V w.heap.size 45 [.string s, .slice A ns.length c] := by rw [hV]; exact Blk.lit _ _ _ _ rfl
  have SN := Lib.hid (fun w' (x : Ext V w') => (sn.ext W0).ext x)
  have HBE := Lib.hid (fun k (h : k < ns.length) => show behE (s.data.toList, ns) k < (ns.getD k 0).toNat ∧ 1 ≤ ns.getD k 0 ∧ ns.getD k 0 < s.size by
    have := behE_le (p := (s.data.toList, ns)) hp h
    rw [show ((s.data.toList, ns) : TN).1.length = s.size from hsz] at this
    exact this)
  have HST := Lib.hid (fun k (h : k < ns.length) => show preE (s.data.toList, ns) (k + 1) = preE (s.data.toList, ns) k ++ (s.data.toList.drop (behE (s.data.toList, ns) k)).take ((ns.getD k 0).toNat - behE (s.data.toList, ns) k) ++ [45] from preE_step (p := (s.data.toList, ns)) hp h)
  have HBS := Lib.hid (fun k => show behE (s.data.toList, ns) (k + 1) = (ns.getD k 0).toNat by simp [behE])
  have HEN := Lib.hid (show preE (s.data.toList, ns) ns.length ++ s.data.toList.drop (behE (s.data.toList, ns) ns.length) = partL (s.data.toList, ns) from preE_end (p := (s.data.toList, ns)) hp)
  have HLE := Lib.hid (fun k (h : k ≤ ns.length) => show (preE (s.data.toList, ns) k).length ≤ behE (s.data.toList, ns) k + k from preE_length (p := (s.data.toList, ns)) hp k h)
  have HZ := Lib.hid (show preE (s.data.toList, ns) 0 = [] ∧ behE (s.data.toList, ns) 0 = 0 from ⟨rfl, rfl⟩)
  obtain ⟨R, hR⟩ : ∃ R, partL (tn ⟨s, ns, A, c⟩) = R := ⟨_, rfl⟩
  rw [hR]
  have HR := Lib.hid (show partL (s.data.toList, ns) = R from hR)
  obtain ⟨n, hn⟩ : ∃ n, n = ns.length := ⟨_, rfl⟩
  have HN := Lib.hid hn
  unfold wpV
  dsimp only
  rw [← hn] at hV kB hnl ⊢
  clear hR hp sn hn hsz hpl hri
  generalize preE (s.data.toList, ns) = T at *
  generalize behE (s.data.toList, ns) = E at *
  go_enter Tryd.func26, Tryd.ntmps26
  go_upto_region 1 with (fail)
  rw [← hV]
  clear hV
  generalize w.heap.size = B at *
  have HX := Lib.hid W0
  clear W0
  have q0 : V.cell? ⟨B, 0, none⟩ = some (.string s) := kB.cell 0
  have q1 : V.cell? ⟨B, 1, none⟩ = some (.slice A n c) := kB.cell 1
  have hn64 : (n : Int) ≤ 40 := by omega
  have hs64 : (s.size : Int) ≤ 40 := by omega
  go_wp2_with fail
  go_loopw [3, 4, 10] (fun v b i wr => ∃ (vv : Value) (k e : Nat), vv = v ∧ k ≤ n ∧ i = .int .i64 k ∧ b = .int .i64 e ∧ e ≤ s.size ∧ Hid (E k = e) ∧ Hid (OwnB 5 V wr vv (T k))) (fun _ _ i _ => n - (intOf i).toNat)
  case atStart => exact ⟨_, 0, 0, rfl, Nat.zero_le _, rfl, rfl, Nat.zero_le _, Lib.hid HZ.out.2, Lib.hid (by rw [HZ.out.1]; exact OwnB.nil _ _ _ (Ext.refl _))⟩
  case round =>
    obtain ⟨vv, k, e, hvv, hk, rfl, rfl, hes, hE, ho⟩ := hrel
    subst hvv
    by_cases hlt : k < n
    · have hlt' : k < ns.length := by rw [← HN.out]; exact hlt
      have X := ho.out.2
      obtain ⟨ad, rfl, hc⟩ := (SN.out wr X).get hlt'
      obtain ⟨b1, b2, b3⟩ := HBE.out k hlt'
      rw [hE.out] at b1
      have hst := HST.out k hlt'
      rw [hE.out] at hst
      have hbs := HBS.out k
      have hle := HLE.out k (by omega)
      rw [hE.out] at hle
      have g0 := X.at q0
      have g1 := X.at q1
      have hk64 : (k : Int) < (n : Int) := by omega
      generalize ns.getD k 0 = a at *
      obtain ⟨v1, w1, r1, o1⟩ := run_str ho.out (s.extract e a.toNat) (by rw [← list_len, Lib.extract_data]; have := List.length_take_le (a.toNat - e) (s.data.toList.drop e); omega) 22
      rw [Lib.extract_data] at o1
      obtain ⟨v2, w2, r2, o2⟩ := run_byte (o1.over ((Ext.refl w1).alloc (.cells #[.int .u8 45] 5))) _ 45 (seenB_one w1 5 _ 45 rfl) (by have := List.length_take_le (a.toNat - e) (s.data.toList.drop e); rw [List.length_append]; omega) 22
      have O2 := Lib.hid (show OwnB 5 V w2 v2 (T (k + 1)) by rw [hst]; exact o2)
      have HB := Lib.hid hbs
      have hea : (e : Int) ≤ a := by omega
      clear o1 o2 hst hbs hle X hE b1
      go_wp2_with (first | (at_builtin; refine wpList_ranS rfl _ _ rfl r1 ?_) | (at_builtin; refine wpList_ran rfl _ _ rfl r2 ?_))
      go_roundw
      case rel => exact ⟨_, k + 1, a.toNat, rfl, by omega, by go_num, by rw [Int.toNat_of_nonneg (by omega)], by omega, HB, O2⟩
      case measure => simp [intOf]; omega
    · obtain rfl : k = n := by omega
      have X := ho.out.2
      have g0 := X.at q0
      have hle := HLE.out k (by rw [← HN.out]; omega)
      rw [hE.out] at hle
      have hen := HEN.out
      rw [← HN.out, hE.out] at hen
      obtain ⟨v1, w1, r1, o1⟩ := run_str ho.out (s.extract e s.size) (by rw [← list_len, Lib.extract_data]; have := List.length_take_le (s.size - e) (s.data.toList.drop e); omega) 22
      have hx : ((s.data.toList.drop e).take (s.size - e)) = s.data.toList.drop e := by
        rw [List.take_of_length_le]; rw [List.length_drop, list_len]; omega
      rw [Lib.extract_data, hx, hen, HR.out] at o1
      obtain ⟨A2, c2, rfl, hc2, s2⟩ := o1.seen
      have hstr := s2.str (P := Tryd.prog) 22 9 5 c2 R.length Tryd.underlying22 Tryd.underlying5 Tryd.underlying9 rfl
      have HX2 := Lib.hid (HX.out.trans o1.2)
      generalize R.length = z at *
      clear s2 ho o1 hen hle X hE hx
      go_wp2_with (at_builtin; refine wpList_ranS rfl _ _ rfl r1 ?_)
      go_ret
      exact ⟨rfl, HX2.out⟩
end L10
end Go.Proofs.YtijhabhnhglhgaaDoor

