/- The document's asException of layer 10. -/
import Derived.Test.YtijhabhnhglhgaaDoorDocG10
namespace Go.Proofs.YtijhabhnhglhgaaDoor
open Go.RowKit
namespace L10

/-- How far asException is. -/
def AxR (u : ByteArray) (k : Nat) (s : ByteArray) (V : List Int) : Prop :=
  asExcGo u.data.toList 0 = (s.data.toList ++ (asExcGo (u.data.toList.drop k) s.size).1, V ++ (asExcGo (u.data.toList.drop k) s.size).2)
theorem AxR.start (u : ByteArray) : AxR u 0 ByteArray.empty [] := by
  unfold AxR
  simp
theorem AxR.hyphen {u : ByteArray} {k : Nat} {s : ByteArray} {V : List Int} (h : AxR u k s V) (hk : k < u.size) (hd : u[k] = 45) : AxR u (k + 1) s (V ++ [(s.size : Int)]) := by
  unfold AxR at h ⊢
  have hl := list_len u
  rw [h, drop_at (by omega), get_at u k hk (by omega), asExcGo, if_pos hd]
  simp
theorem AxR.letter {u : ByteArray} {k : Nat} {s : ByteArray} {V : List Int} (h : AxR u k s V) (hk : k < u.size) (hd : ¬ u[k] = 45) : AxR u (k + 1) (s ++ u.extract k (k + 1)) V := by
  unfold AxR at h ⊢
  have hl := list_len u
  have hz : (s ++ u.extract k (k + 1)).size = s.size + 1 := by
    rw [← list_len, cat_list s u k hk, List.length_append, list_len]; rfl
  rw [h, drop_at (by omega), get_at u k hk (by omega), asExcGo, if_neg hd, hz, cat_list s u k hk]
  simp
theorem AxR.fin {u : ByteArray} {k : Nat} {s : ByteArray} {V : List Int} (h : AxR u k s V) (hk : k = u.size) : asExc u.data.toList = if excB (s.data.toList, V) = true then some (s.data.toList, V) else none := by
  unfold AxR at h
  have hl := list_len u
  rw [List.drop_of_length_le (by omega)] at h
  simp only [asExcGo, List.append_nil] at h
  rw [asExc, h]

set_option maxRecDepth 100000 in
set_option maxHeartbeats 4000000 in
theorem asexc_any (u : ByteArray) (hu : u.size ≤ 100000) (w : World) : Calls Tryd.prog 24 #[.string u] w (AsQ w (asExc u.data.toList)) := by
  obtain ⟨V0, hV⟩ : ∃ V0, V0 = (w.alloc (.cells #[.string ByteArray.empty, .slice none 0 0] 45)).alloc (.cells #[.string ByteArray.empty, .slice none 0 0] 45) := ⟨_, rfl⟩
  have HR := Lib.hid (Ap.start w 45 V0 hV)
  have HA := Lib.hid (AxR.start u)
  have hu64 : (u.size : Int) ≤ 100000 := by omega
  go_enter Tryd.func24, Tryd.ntmps24
  go_upto_region 3 with (fail)
  rw [show (ByteArray.empty) = ⟨#[]⟩ from rfl] at hV
  rw [← hV]
  clear hV
  go_loopw [5] (fun i wr => ∃ (k : Nat) (s : ByteArray) (vv : Value) (V : List Int), i = .int .i64 k ∧ k ≤ u.size ∧ V.length ≤ k ∧ s.size ≤ k ∧ Hid (Ap w wr 45 s vv V) ∧ Hid (AxR u k s V) ∧ Hid (∀ n ∈ V, 0 ≤ n ∧ n ≤ 100000)) (fun i _ => u.size - (intOf i).toNat)
  case atStart => exact ⟨0, _, _, _, rfl, Nat.zero_le _, by simp, by simp, HR, HA, Lib.hid (by simp)⟩
  case round =>
    obtain ⟨k, s, vv, V, rfl, hk, hVk, hsk, hap, has, hin⟩ := hrel
    have q0 : wr.cell? ⟨w.heap.size + 1, 0, none⟩ = some (.string s) := hap.out.b1.cell 0
    have q1 : wr.cell? ⟨w.heap.size + 1, 1, none⟩ = some vv := hap.out.b1.cell 1
    have f0 := hap.out.b1.free 0
    have f1 := hap.out.b1.free 1
    by_cases hlt : k < u.size
    · have hk64 : (k : Int) < (u.size : Int) := by omega
      by_cases hd : u[k] = 45
      · have d1 : ((u[k].toNat : Int) == 45) = true := by rw [hd]; rfl
        have HA2 := Lib.hid (has.out.hyphen hlt hd)
        have HIN2 := Lib.hid (show ∀ n ∈ V ++ [(s.size : Int)], 0 ≤ n ∧ n ≤ 100000 from fun n hn => by
          rcases List.mem_append.1 hn with hn | hn
          · exact hin.out n hn
          · obtain rfl : n = (s.size : Int) := by simpa using hn
            omega)
        clear has hin hd
        obtain ⟨v3, w3, r3, k3, ap3⟩ := hap.out.put (s.size : Int) (by omega) 40
        have g3 : w3.cell? ⟨w.heap.size + 1, 1, none⟩ = some vv := k3.cell 1
        have z3 := k3.free 1
        obtain ⟨A3, c3, rfl, _, _, _, _⟩ := ap3.look
        have AP3 := Lib.hid ap3
        clear ap3 k3
        have hl3 : (V ++ [(s.size : Int)]).length ≤ k + 1 := by rw [List.length_append]; simp; omega
        generalize (V ++ [(s.size : Int)]).length = n3 at r3 AP3 hl3
        go_wp2_with (at_builtin; refine wpList_ran rfl _ _ rfl r3 ?_)
        go_roundw
        case rel => exact ⟨k + 1, s, .slice A3 n3 c3, V ++ [(s.size : Int)], by go_num, by omega, by rw [List.length_append]; simp; omega, by omega, AP3, HA2, HIN2⟩
        case measure => simp [intOf]; omega
      · have d1 : ((u[k].toNat : Int) == 45) = false := by
          have : ¬ u[k].toNat = 45 := fun e => hd (UInt8.toNat.inj (by simpa using e))
          simp; omega
        have HA2 := Lib.hid (has.out.letter hlt hd)
        have HSZ := Lib.hid (show (s ++ u.extract k (k + 1)).size ≤ k + 1 by
          rw [← list_len, cat_list s u k hlt, List.length_append, list_len]; simp; omega)
        have hkn : (k : Int) + 1 ≤ u.size := by omega
        clear has hd
        go_wp2_with fail
        have wk : IntKind.i64.wrap ((k : Int) + 1) = (k : Int) + 1 := IntWalk.i64_in _ (by omega)
        obtain ⟨WD, hWD⟩ : ∃ WD, WD = wr.drew := ⟨_, rfl⟩
        have XD : Ext wr WD := by rw [hWD]; exact (Ext.refl wr).drew
        have AP2 := (hap.out.kept XD).cat (s ++ u.extract k (k + 1))
        have g0 := XD.at q0
        have z0 := (hap.out.kept XD).b1.free 0
        refine wp_region_noPanic ?_
        refine wp_region_held_drew (S := (fun _ => True)) (by kernel_rfl) trivial (fun h0 => ?_)
        rw [← hWD]
        clear hWD
        refine wpAnyH_take (i := 0) (oi := ?_) (v := ?_) ?_ (by kernel_rfl) (by kernel_rfl) (by kernel_rfl) ?_ ?_ h0 ?_
        rotate_left 2
        · simp only [List.getElem?_toArray, List.getElem?_cons_zero]; rfl
        · exact fun _ _ _ h => h
        · refine Or.inl ⟨by rfl, ?_⟩
          intro w hSw
          (try dsimp only at hSw)
          go_simp
          (try with_reducible rfl)
        (try simp only [Act.put, List.setIfInBounds_toArray, List.set_cons_zero, List.set_cons_succ])
        refine wpAnyH_take (i := 2) (oi := ?_) (v := ?_) ?_ (by kernel_rfl) (by kernel_rfl) (by kernel_rfl) ?_ ?_ h0 ?_
        rotate_left 2
        · simp only [List.getElem?_toArray, List.getElem?_cons_zero, List.getElem?_cons_succ]; rfl
        · exact fun _ _ _ h => h
        · refine Or.inl ⟨by rfl, ?_⟩
          intro w hSw
          (try dsimp only at hSw)
          go_simp
          (try with_reducible rfl)
        (try simp only [Act.put, List.setIfInBounds_toArray, List.set_cons_zero, List.set_cons_succ])
        refine wpAnyH_take (i := 3) (oi := ?_) (v := ?_) ?_ (by kernel_rfl) (by kernel_rfl) (by kernel_rfl) ?_ ?_ h0 ?_
        rotate_left 2
        · simp only [List.getElem?_toArray, List.getElem?_cons_zero, List.getElem?_cons_succ]; rfl
        · exact fun _ _ _ h => h
        · refine Or.inl ⟨by rfl, ?_⟩
          intro w hSw
          (try dsimp only at hSw)
          go_simp
          (try with_reducible rfl)
        (try simp only [Act.put, List.setIfInBounds_toArray, List.set_cons_zero, List.set_cons_succ])
        refine wpAnyH_take (i := 4) (oi := ?_) (v := ?_) ?_ (by kernel_rfl) (by kernel_rfl) (by kernel_rfl) ?_ ?_ h0 ?_
        rotate_left 2
        · simp only [List.getElem?_toArray, List.getElem?_cons_zero, List.getElem?_cons_succ]; rfl
        · exact fun _ _ _ h => h
        · refine Or.inl ⟨by rfl, ?_⟩
          intro w hSw
          (try dsimp only at hSw)
          go_simp
          (try with_reducible rfl)
        (try simp only [Act.put, List.setIfInBounds_toArray, List.set_cons_zero, List.set_cons_succ])
        refine wpAnyH_take (i := 5) (oi := ?_) (v := ?_) ?_ (by kernel_rfl) (by kernel_rfl) (by kernel_rfl) ?_ ?_ h0 ?_
        rotate_left 2
        · simp only [List.getElem?_toArray, List.getElem?_cons_zero, List.getElem?_cons_succ]; rfl
        · exact fun _ _ _ h => h
        · refine Or.inl ⟨by rfl, ?_⟩
          intro w hSw
          (try dsimp only at hSw)
          go_simp
          (try with_reducible rfl)
        (try simp only [Act.put, List.setIfInBounds_toArray, List.set_cons_zero, List.set_cons_succ])
        refine wpAnyH_take (i := 6) (oi := ?_) (v := .string (u.extract k (k + 1))) ?_ (by kernel_rfl) (by kernel_rfl) (by kernel_rfl) ?_ ?_ h0 ?_
        rotate_left
        · simp only [List.getElem?_toArray, List.getElem?_cons_zero, List.getElem?_cons_succ]; rfl
        · exact fun _ _ _ h => h
        · refine Or.inl ⟨by rfl, ?_⟩
          intro w hSw
          (try dsimp only at hSw)
          go_simp
          rw [if_pos (by omega), if_pos (by omega)]
        (try simp only [Act.put, List.setIfInBounds_toArray, List.set_cons_zero, List.set_cons_succ])
        refine wpAnyH_ready (rs := [1]) (by kernel_rfl) (by simp) ?_
        refine AllReadyH.cons (o := ?_) ?_ (fun K hK => ?_) AllReadyH.nil
        rotate_left
        · simp only [List.getElem?_toArray, List.getElem?_cons_zero, List.getElem?_cons_succ]; rfl
        go_simp
        refine hK.out _ _ (trivial) (fun h1 => ?_)
        clear hK K
        (try simp only [Act.put, List.setIfInBounds_toArray, List.set_cons_zero, List.set_cons_succ])
        refine wpAnyH_take (i := 7) (oi := ?_) (v := .string (s ++ u.extract k (k + 1))) ?_ (by kernel_rfl) (by kernel_rfl) (by kernel_rfl) ?_ ?_ h1 ?_
        rotate_left
        · simp only [List.getElem?_toArray, List.getElem?_cons_zero, List.getElem?_cons_succ]; rfl
        · exact fun _ _ _ h => h
        · refine Or.inl ⟨by rfl, ?_⟩
          intro w hSw
          (try dsimp only at hSw)
          go_simp
          omega
        (try simp only [Act.put, List.setIfInBounds_toArray, List.set_cons_zero, List.set_cons_succ])
        refine wpAnyH_take (i := 8) (oi := ?_) (v := ?_) ?_ (by kernel_rfl) (by kernel_rfl) (by kernel_rfl) ?_ ?_ h1 ?_
        rotate_left 2
        · simp only [List.getElem?_toArray, List.getElem?_cons_zero, List.getElem?_cons_succ]; rfl
        · exact fun _ _ _ h => h
        · refine Or.inl ⟨by rfl, ?_⟩
          intro w hSw
          (try dsimp only at hSw)
          go_simp
          (try with_reducible rfl)
        (try simp only [Act.put, List.setIfInBounds_toArray, List.set_cons_zero, List.set_cons_succ])
        refine wpAnyH_ready (rs := [9]) (by kernel_rfl) (by simp) ?_
        refine AllReadyH.cons (o := ?_) ?_ (fun K hK => ?_) AllReadyH.nil
        rotate_left
        · simp only [List.getElem?_toArray, List.getElem?_cons_zero, List.getElem?_cons_succ]; rfl
        go_simp
        refine hK.out _ _ (trivial) (fun h2 => ?_)
        clear hK K
        (try simp only [Act.put, List.setIfInBounds_toArray, List.set_cons_zero, List.set_cons_succ])
        refine wpAnyH_done (by kernel_rfl) ?_ _
        refine NoPanic.normal ?_
        clear h0 h1 h2 q0 q1 f0 f1 g0 z0 XD hap wk
        obtain ⟨W2, hW2⟩ : ∃ W2, W2 = WD.setCell ⟨w.heap.size + 1, 0, none⟩ (.string (s ++ u.extract k (k + 1))) := ⟨_, rfl⟩
        rw [← hW2] at AP2 ⊢
        clear hW2
        generalize s ++ u.extract k (k + 1) = s' at *
        have AP3 := Lib.hid AP2
        clear AP2
        go_wp2_with fail
        go_roundw
        case rel => exact ⟨k + 1, s', vv, V, by go_num, by omega, by omega, HSZ.out, AP3, HA2, hin⟩
        case measure => simp [intOf]; omega
    · obtain rfl : k = u.size := by omega
      obtain ⟨A, c, rfl, h1, h2, hs, hat⟩ := hap.out.look
      have hwide : ∀ n ∈ V, -9223372036854775808 ≤ n ∧ n ≤ 9223372036854775807 := fun n hn => by
        have := hin.out n hn; omega
      have hm : 1000000 ≤ maxLen := by decide
      have C := Lib.hid (fun W' (x : Ext wr W') => rexc_any ⟨s, V, A, c⟩ ⟨h1, h2, by show s.size ≤ _; omega, hwide⟩ (by show s.size ≤ _; omega) (by show V.length ≤ _; omega) W' (SeenL.ext hs x))
      have HE := Lib.hid (has.out.fin rfl)
      have HSS := Lib.hid (show tn ⟨s, V, A, c⟩ = (s.data.toList, V) from rfl)
      unfold wpV at C
      dsimp only at C
      have AP3 := hap
      clear hap has hin h1 h2 hs hat hwide hm
      go_wp2_with fail
      refine (C.out _ (Ext.refl _)).mono ?_; rintro e w5 ⟨rfl, x5⟩
      obtain ⟨W, hW⟩ : ∃ W, W = (w5.setCell ⟨w.heap.size, 0, none⟩ (.string s)).setCell ⟨w.heap.size, 1, none⟩ (.slice A V.length c) := ⟨_, rfl⟩
      rw [HSS.out]
      obtain ⟨b, hb⟩ : ∃ b, excB (s.data.toList, V) = b := ⟨_, rfl⟩
      rw [hb] at HE ⊢
      have FIN := Lib.hid (AP3.out.fin x5 (asExc u.data.toList) b HE.out W hW)
      have q0 := x5.at q0
      have q1 := x5.at q1
      have p0 : w5.cell? ⟨w.heap.size, 0, none⟩ = some (.string ByteArray.empty) := (AP3.out.kept x5).b0.cell 0
      have p1 : w5.cell? ⟨w.heap.size, 1, none⟩ = some (.slice none 0 0) := (AP3.out.kept x5).b0.cell 1
      have z0 := (AP3.out.kept x5).b0.free 0
      have z1 := (AP3.out.kept x5).b0.free 1
      clear C AP3 HE HSS hb x5
      go_wp2_with fail
      rw [← hW]
      clear hW
      refine bodyPost_ret (results_box_tmp rfl _ _ w.heap.size _ _ rfl rfl FIN.out.2.range (Tryd.isAgg45 _) (Tryd.sizeOf45 _)) rfl ?_
      exact FIN.out.1
end L10
end Go.Proofs.YtijhabhnhglhgaaDoor

