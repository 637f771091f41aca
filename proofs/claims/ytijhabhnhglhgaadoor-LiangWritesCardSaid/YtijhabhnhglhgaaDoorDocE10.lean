/- The document's parted of layer 10. -/
import Derived.Test.YtijhabhnhglhgaaDoorDocD10
namespace Go.Proofs.YtijhabhnhglhgaaDoor
open Go.RowKit
open Go.Lib hiding intOf
namespace L10

/-- What stands ahead of letter i, of the first k places. -/
def hyL (at' : List Int) (i k : Nat) : List UInt8 := if (i : Int) ∈ at'.take k then [45] else []
theorem hyL_zero (at' : List Int) (i : Nat) : hyL at' i 0 = [] := by simp [hyL]
theorem hyL_all (at' : List Int) (i : Nat) : hyL at' i at'.length = if (i : Int) ∈ at' then [45] else [] := by simp [hyL]
theorem hyL_length (at' : List Int) (i k : Nat) : (hyL at' i k).length ≤ 1 := by unfold hyL; split <;> simp
theorem hyL_other {at' : List Int} {i k : Nat} (hk : k < at'.length) (h : ¬ at'.getD k 0 = i) : hyL at' i (k + 1) = hyL at' i k := by
  unfold hyL
  have e : at'.take (k + 1) = at'.take k ++ [at'.getD k 0] := by
    rw [List.take_succ_eq_append_getElem hk, List.getD, List.getElem?_eq_getElem hk]; rfl
  rw [e]
  have : ((i : Int) ∈ at'.take k ++ [at'.getD k 0]) ↔ (i : Int) ∈ at'.take k := by
    rw [List.mem_append]
    constructor
    · rintro (h1 | h1)
      · exact h1
      · simp only [List.mem_singleton] at h1
        exact absurd h1.symm h
    · exact fun h1 => .inl h1
  by_cases h2 : (i : Int) ∈ at'.take k
  · rw [if_pos (this.2 h2), if_pos h2]
  · rw [if_neg (fun h3 => h2 (this.1 h3)), if_neg h2]
theorem hyL_hit {n least : Int} {at' : List Int} (hr : risesB n least at' = true) {i k : Nat} (hk : k < at'.length) (h : at'.getD k 0 = i) : hyL at' i (k + 1) = hyL at' i k ++ [45] := by
  unfold hyL
  have e : at'.take (k + 1) = at'.take k ++ [at'.getD k 0] := by
    rw [List.take_succ_eq_append_getElem hk, List.getD, List.getElem?_eq_getElem hk]; rfl
  have hno : (i : Int) ∉ at'.take k := fun hm => by
    obtain ⟨j, hj, ej⟩ := List.getElem_of_mem hm
    have hj' : j < k := by simp at hj; omega
    have := rises_lt _ _ hr j k hj' hk
    rw [List.getElem_take] at ej
    rw [List.getD, List.getElem?_eq_getElem (by omega), h] at this
    simp only [Option.getD_some] at this
    omega
  rw [e, h, if_neg hno, if_pos (by simp)]
  rfl
theorem partM_step {at' : List Int} {s : List UInt8} {i : Nat} (hi : i < s.length) : partM at' (s.take (i + 1)) 0 = partM at' (s.take i) 0 ++ hyL at' i at'.length ++ [s[i]] := by
  rw [List.take_succ_eq_append_getElem hi, partM_append, hyL_all, List.length_take, Nat.min_eq_left (by omega), Nat.zero_add, List.append_assoc]
  rfl

set_option maxRecDepth 100000 in
set_option maxHeartbeats 2000000 in
theorem rparted_any (x : WP) (hp : excB (tn x) = true) (w : World) (sn : SeenL w x.A x.ns) :
    Calls Tryd.prog 28 #[wpV x] w (BytQ w (partL (tn x))) := by
  obtain ⟨s, ns, A, c⟩ := x
  obtain ⟨hpl, _, hri⟩ := exc_parts hp
  have hsz := list_len s
  have hs40 : s.size ≤ 40 := by
    simp only [plainB, Bool.and_eq_true, decide_eq_true_eq, tn, hsz] at hpl
    omega
  have hs1 : 1 ≤ s.size := by
    simp only [plainB, Bool.and_eq_true, decide_eq_true_eq, tn, hsz] at hpl
    omega
  have hnl : ns.length ≤ 40 := by
    have := rises_length _ _ hri (by simp only [tn, hsz]; omega)
    simp only [tn, hsz] at this
    omega
  dsimp only [tn] at sn hri
  obtain ⟨V, hV⟩ : ∃ V, V = w.alloc (.cells #[.string s, .slice A ns.length c] 45) := ⟨_, rfl⟩
  have W0 : Ext w V := by rw [hV]; exact (Ext.refl _).alloc _
  have kB : Blk V w.heap.size 45 [.string s, .slice A ns.length c] := by rw [hV]; exact Blk.lit _ _ _ _ rfl
  have SN := Lib.hid (fun w' (x : Ext V w') => (sn.ext W0).ext x)
  have HS := Lib.hid (fun k (h : k < s.size) => show ∀ h', s.data.toList[k]'h' = s[k] from fun h' => get_at s k h h')
  have HSTEP := Lib.hid (fun i (h : i < s.data.toList.length) => partM_step (at' := ns) (s := s.data.toList) h)
  have HHIT := Lib.hid (fun (i k : Nat) (hk : k < ns.length) (h : ns.getD k 0 = i) => hyL_hit hri hk h)
  have HOTH := Lib.hid (fun (i k : Nat) (hk : k < ns.length) (h : ¬ ns.getD k 0 = i) => hyL_other hk h)
  have HLEN := Lib.hid (fun i : Nat => show (partM ns (s.data.toList.take i) 0).length ≤ 2 * i by
    have := partM_length ns (s.data.toList.take i) 0
    rw [List.length_take] at this
    omega)
  have HZ := Lib.hid (show partM ns (s.data.toList.take 0) 0 = [] from rfl)
  have HE := Lib.hid (show partM ns (s.data.toList.take s.size) 0 = partL (tn ⟨s, ns, A, c⟩) by
    rw [List.take_of_length_le (by omega)]; rfl)
  obtain ⟨R, hR⟩ : ∃ R, partL (tn ⟨s, ns, A, c⟩) = R := ⟨_, rfl⟩
  rw [hR] at HE ⊢
  obtain ⟨n, hn⟩ : ∃ n, n = ns.length := ⟨_, rfl⟩
  have HN := Lib.hid hn
  have HSL := Lib.hid hsz
  unfold wpV
  dsimp only
  rw [← hn] at hV kB hnl ⊢
  clear hR hp sn hn hsz hpl hri
  obtain ⟨T, hT⟩ : ∃ T : Nat → List UInt8, T = fun i => partM ns (s.data.toList.take i) 0 := ⟨_, rfl⟩
  have HZ := Lib.hid (show T 0 = [] by rw [hT]; exact HZ.out)
  have HE := Lib.hid (show T s.size = R by rw [hT]; exact HE.out)
  have HLEN := Lib.hid (fun i => show (T i).length ≤ 2 * i by rw [hT]; exact HLEN.out i)
  have HSTEP := Lib.hid (fun i (h : i < s.data.toList.length) => show T (i + 1) = T i ++ hyL ns i ns.length ++ [s.data.toList[i]] by rw [hT]; exact HSTEP.out i h)
  clear hT
  go_enter Tryd.func28, Tryd.ntmps28
  go_upto_region 1 with (fail)
  rw [← hV]
  clear hV
  generalize w.heap.size = B at *
  have HX := Lib.hid W0
  clear W0
  have q0 : V.cell? ⟨B, 0, none⟩ = some (.string s) := kB.cell 0
  have q1 : V.cell? ⟨B, 1, none⟩ = some (.slice A n c) := kB.cell 1
  have hn64 : (n : Int) ≤ 40 := by omega
  have hs64 : (s.size : Int) ≤ 40 := by omega
  go_wp2_with fail
  go_loopw [3, 4] (fun v i wr => ∃ (vv : Value) (k : Nat), vv = v ∧ k ≤ s.size ∧ i = .int .i64 k ∧ Hid (OwnB 5 V wr vv (T k))) (fun _ i _ => s.size - (intOf i).toNat)
  case atStart => exact ⟨_, 0, rfl, Nat.zero_le _, rfl, Lib.hid (by rw [HZ.out]; exact OwnB.nil _ _ _ (Ext.refl _))⟩
  case round =>
    obtain ⟨vv, i, hvv, hi, rfl, ho⟩ := hrel
    subst hvv
    have g0 := ho.out.2.at q0
    have g1 := ho.out.2.at q1
    by_cases hlt : i < s.size
    · have hi64 : (i : Int) < (s.size : Int) := by omega
      obtain ⟨wo, rfl⟩ : ∃ wo : World, wo = wr := ⟨_, rfl⟩
      have XO := ho.out.2
      have O0 := Lib.hid (show OwnB 5 V wo vv (T i ++ hyL ns i 0) by rw [hyL_zero, List.append_nil]; exact ho.out)
      clear ho
      go_wp2_with fail
      go_loopw [3, 5] (fun v j wr => ∃ (vv : Value) (k : Nat), vv = v ∧ k ≤ n ∧ j = .int .i64 k ∧ Hid (OwnB 5 V wr vv (T i ++ hyL ns i k))) (fun _ j _ => n - (intOf j).toNat)
      case atStart => exact ⟨_, 0, rfl, Nat.zero_le _, rfl, O0⟩
      case round =>
        obtain ⟨vv, k, hvv, hk, rfl, ho⟩ := hrel
        subst hvv
        have g0 := ho.out.2.at q0
        have g1 := ho.out.2.at q1
        have hl1 := HLEN.out i
        have hl2 := hyL_length ns i k
        by_cases hlt2 : k < n
        · have hlt' : k < ns.length := by rw [← HN.out]; exact hlt2
          obtain ⟨ad, rfl, hc⟩ := (SN.out wr ho.out.2).get hlt'
          have hh := HHIT.out i k hlt'
          have hx := HOTH.out i k hlt'
          have hk64 : (k : Int) < (n : Int) := by omega
          generalize ns.getD k 0 = a at *
          by_cases ha : a = i
          · subst ha
            have HH := Lib.hid (hh rfl)
            obtain ⟨v2, w2, r2, o2⟩ := run_byte (ho.out.over ((Ext.refl wr).alloc (.cells #[.int .u8 45] 5))) _ 45 (seenB_one wr 5 _ 45 rfl) (by rw [List.length_append]; omega) 22
            have O2 := Lib.hid o2
            clear hh hx o2 ho hl1 hl2
            go_wp2_with (at_builtin; refine wpList_ran rfl _ _ rfl r2 ?_)
            go_roundw
            case rel => exact ⟨_, k + 1, rfl, by omega, by go_num, Lib.hid (by rw [HH.out, ← List.append_assoc]; exact O2.out)⟩
            case measure => simp [intOf]; omega
          · have HH := Lib.hid (hx ha)
            have ha2 : (a == (i : Int)) = false := by simpa using ha
            clear hh hx hl1 hl2
            go_wp2_with fail
            go_roundw
            case rel => exact ⟨_, k + 1, rfl, by omega, by go_num, Lib.hid (by rw [HH.out]; exact ho.out)⟩
            case measure => simp [intOf]; omega
        · obtain rfl : k = n := by omega
          have hs := HS.out i hlt (by rw [HSL.out]; exact hlt)
          have hst := HSTEP.out i (by rw [HSL.out]; exact hlt)
          rw [hs] at hst
          obtain ⟨v2, w2, r2, o2⟩ := run_byte (ho.out.over ((Ext.refl wr).alloc (.cells #[.int .u8 (s[i].toNat : Int)] 5))) _ s[i] (seenB_one wr 5 _ s[i] rfl) (by rw [List.length_append]; omega) 22
          have O2 := Lib.hid (show OwnB 5 V w2 v2 (T (i + 1)) by rw [hst, ← HN.out]; exact o2)
          clear o2 hs hst ho hl1 hl2
          go_wp2_with (at_builtin; refine wpList_ran rfl _ _ rfl r2 ?_)
          go_roundw
          case rel => exact ⟨_, i + 1, rfl, by omega, by go_num, O2⟩
          case measure => simp [intOf]; omega
    · obtain rfl : i = s.size := by omega
      obtain ⟨A2, c2, e2, hc2, hm2, s2⟩ := own_bytes ho.out
      subst e2
      have HQ := Lib.hid (show BytQ w R (.returned (.slice A2 (T s.size).length c2)) wr from by
        have e : T s.size = R := HE.out
        refine ⟨HX.out.trans ho.out.2, A2, c2, by rw [e], by rw [← e]; exact hc2, hm2, by rw [← e]; exact s2⟩)
      generalize (T s.size).length = z at *
      clear s2 ho
      go_wp2_with fail
      go_ret
      exact HQ.out
end L10
end Go.Proofs.YtijhabhnhglhgaaDoor

