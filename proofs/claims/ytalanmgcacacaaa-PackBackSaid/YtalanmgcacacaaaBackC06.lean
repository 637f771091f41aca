/- PackBack, where there are bytes enough, and the number may be put. -/
import Derived.Test.YtalanmgcacacaaaBackKit06
import Derived.Deep.RegionHeld3
namespace Go.Proofs.Ytalanmgcacacaaa
open Go.ChangeShapes Go.WideShapes Go.ChangeAt Go.RowKit Go.Deep
namespace PackBack
open L06

set_option maxRecDepth 100000 in
set_option maxHeartbeats 4000000 in
theorem yes_yes (a s zi k : Int) (A : Option Addr) (l : List UInt8) (c : Nat) (hn : l.length ≤ 1000) (hc : l.length ≤ c) (ha : 0 ≤ a) (ha' : a ≤ 4294967295) (hs : 0 ≤ s) (hs' : s ≤ 255) (hz : 1 + s % 4 = zi) (hk : wrap64 (wrap32 a) = k) (k1 : -2147483648 ≤ k) (k2 : k < 2147483648) (w : World) (hl : SeenB w A l)
    (h1 : a < (256 : Int) ^ zi.toNat) (h2 : zi ≤ (l.length : Int)) :
    Calls Try.prog 5 #[.int .u32 a, .int .u8 s, .slice A l.length c] w (Ret w (.bool true)) := by
  have hln : ¬ (1000 < (l.length : Int)) := by omega
  have H1 := Lib.hid h1
  have z1 : 1 ≤ zi := by omega
  have z2 : zi ≤ 4 := by omega
  have hzz : ((zi.toNat : Nat) : Int) = zi := by omega
  have HZ := Lib.hid hzz
  have z3 : zi.toNat ≤ 4 := by omega
  clear h1 hzz
  go_enter Try.func5, Try.ntmps5
  go_wp2_with fail
  refine (L06.awake_any _).mono ?_; rintro e w1 ⟨rfl, x1⟩
  go_wp2_with fail
  refine (putn_yes a zi _ z1 z2 ha H1.out).mono ?_; rintro e w2 ⟨A2, c2, rfl, hc2, s2, x2⟩
  have X2 := x1.trans x2
  obtain ⟨v1, u1, A3, c3, u2, r1, r2, hc3, s3, xx1, xx2⟩ := run_join w2 A2 A zi.toNat l.length c2 c _ l s2 (hl.ext X2) (be_length _ _).symm rfl (by rw [be_length]; omega)
  have hzz := HZ.out
  go_wp2_with (first | (at_builtin; refine wpList_ran rfl _ _ rfl r1 ?_) | (at_builtin; refine wpList_ran rfl _ _ rfl r2 ?_))
  refine (take_back a zi A3 _ c3 l u2 z1 z2 ha H1.out s3 rfl hc3 hn).mono ?_; rintro e w3 ⟨A4, c4, rfl, s4, x4⟩
  have X3 := (X2.trans xx2).trans x4
  have q1 := str_of s4 c4 l.length rfl
  have q2 := str_of (hl.ext X3) c l.length rfl
  clear r1 r2 s3 s2 x1 x2 x4 xx1 xx2
  go_wp2_with fail
  clear q1 q2 s4 hzz
  refine (putfixn k _ k1 k2).mono ?_; rintro e w5 ⟨A5, c5, rfl, hc5, s5, x5⟩
  have X5 := X3.trans x5
  obtain ⟨v5, u5, A6, c6, u6, r5, r6, hc6, s6, xx5, xx6⟩ := run_join w5 A5 A 4 l.length c5 c _ l s5 (hl.ext X5) (be_length _ _).symm rfl (by rw [be_length]; omega)
  go_wp2_with (first | (at_builtin; refine wpList_ran rfl _ _ rfl r5 ?_) | (at_builtin; refine wpList_ran rfl _ _ rfl r6 ?_))
  refine (fix_back k A6 _ c6 l u6 k1 k2 s6 rfl hc6 hn).mono ?_; rintro e w7 ⟨A7, c7, rfl, s7, x7⟩
  have X7 := (X5.trans xx6).trans x7
  clear r5 r6 s6 s5 x5 x7 xx5 xx6 X5 X3
  go_wp2_with fail
  refine (takeb zi A l c _ (hl.ext X7) hc hn z1 z2 h2).mono ?_; rintro e w8 ⟨A8, c8, rfl, s8, x8⟩
  obtain ⟨r8, hr8⟩ : ∃ r8, r8 = l.length - zi.toNat := ⟨_, rfl⟩
  rw [← hr8]
  have HR := Lib.hid hr8
  clear hr8
  have X8 := X7.trans x8
  have s7 := s7.ext x8
  go_wp2_with fail
  refine (put_back zi l _ z1 z2 (by omega)).mono ?_; rintro e w9 ⟨A9, c9, rfl, hc9, s9, x9⟩
  obtain ⟨z9, hz9⟩ : ∃ z9, z9 = zi.toNat := ⟨_, rfl⟩
  rw [← hz9]
  have HZ9 := Lib.hid hz9
  clear hz9
  have X9 := X8.trans x9
  have s7 := s7.ext x9
  have s8 := s8.ext x9
  clear X8 X7 x8 x9
  have hb := hl.ext X9
  obtain ⟨v1, u1, A3, c3, u2, r1, r2, hc3, s3, xx1, xx2⟩ := run_join w9.drew A9 A8 z9 r8 c9 c8 _ _ s9 s8 (by rw [HZ9.out]; simp; omega) (by rw [HR.out]; simp) (by simp; omega)
  rw [List.take_append_drop] at s3
  rw [show z9 + r8 = l.length by rw [HZ9.out, HR.out]; omega] at r2 hc3
  have q0 : (convert 22 9 (.slice A l.length c)).run Try.prog w9.drew = .ok (.string ⟨l.toArray⟩) w9.drew := str_of (w := w9.drew) hb c l.length rfl
  have q1 : (convert 22 9 (.slice A l.length c)).run Try.prog (w9.drew.alloc (.cells #[] 5)) = .ok (.string ⟨l.toArray⟩) (w9.drew.alloc (.cells #[] 5)) := str_of (hb.ext ((Ext.refl w9).drew.alloc _)) c l.length rfl
  have q2 := str_of (hb.ext ((Ext.refl w9).drew.trans xx1)) c l.length rfl
  have q3 := str_of (hb.ext ((Ext.refl w9).drew.trans xx2)) c l.length rfl
  have q4 := str_of s3 c3 l.length rfl
  have q5 := str_of (s7.ext ((Ext.refl w9).drew.trans xx2)) c7 l.length rfl
  have q0 := Lib.hid q0; have q1 := Lib.hid q1; have q2 := Lib.hid q2; have q3 := Lib.hid q3
  go_wp2_with fail
  refine wp_region_noPanic ?_
  refine wp_region_held_drew (S := (fun w' => (convert 22 9 (.slice A l.length c)).run Try.prog w' = .ok (.string ⟨l.toArray⟩) w' ∧ Ext w9 w')) (by kernel_rfl) ⟨q0.out, (Ext.refl w9).drew⟩ (fun h0 => ?_)
  refine wpAnyH_take (i := 0) (oi := ?_) (v := ?_) ?_ (by kernel_rfl) (by kernel_rfl) (by kernel_rfl) ?_ ?_ h0 ?_
  rotate_left 2
  · simp only [List.getElem?_toArray, List.getElem?_cons_zero]; rfl
  · exact fun _ _ _ h => h
  · refine Or.inl ⟨by rfl, ?_⟩
    intro w hSw
    (try dsimp only at hSw)
    go_simp
    (try with_reducible rfl)
  (try simp only [Act.put, List.setIfInBounds_toArray, List.set_cons_zero, List.set_cons_succ])
  refine wpAnyH_take (i := 1) (oi := ?_) (v := ?_) ?_ (by kernel_rfl) (by kernel_rfl) (by kernel_rfl) ?_ ?_ h0 ?_
  rotate_left 2
  · simp only [List.getElem?_toArray, List.getElem?_cons_zero, List.getElem?_cons_succ]; rfl
  · exact fun _ _ _ h => h
  · refine Or.inl ⟨by rfl, ?_⟩
    intro w hSw
    (try dsimp only at hSw)
    go_simp
    (try with_reducible rfl)
  (try simp only [Act.put, List.setIfInBounds_toArray, List.set_cons_zero, List.set_cons_succ])
  refine wpAnyH_take (i := 2) (oi := ?_) (v := ?_) ?_ (by kernel_rfl) (by kernel_rfl) (by kernel_rfl) ?_ ?_ h0 ?_
  rotate_left 2
  · simp only [List.getElem?_toArray, List.getElem?_cons_zero, List.getElem?_cons_succ]; rfl
  · exact fun _ _ _ h => h
  · refine Or.inl ⟨by rfl, ?_⟩
    intro w hSw
    (try dsimp only at hSw)
    go_simp
    (try with_reducible rfl)
  (try simp only [Act.put, List.setIfInBounds_toArray, List.set_cons_zero, List.set_cons_succ])
  refine wpAnyH_take (i := 3) (oi := ?_) (v := ?_) ?_ (by kernel_rfl) (by kernel_rfl) (by kernel_rfl) ?_ ?_ h0 ?_
  rotate_left 2
  · simp only [List.getElem?_toArray, List.getElem?_cons_zero, List.getElem?_cons_succ]; rfl
  · exact fun _ _ _ h => h
  · refine Or.inl ⟨by rfl, ?_⟩
    intro w hSw
    (try dsimp only at hSw)
    go_simp
    (try with_reducible rfl)
  (try simp only [Act.put, List.setIfInBounds_toArray, List.set_cons_zero, List.set_cons_succ])
  refine wpAnyH_take (i := 4) (oi := ?_) (v := ?_) ?_ (by kernel_rfl) (by kernel_rfl) (by kernel_rfl) ?_ ?_ h0 ?_
  rotate_left 2
  · simp only [List.getElem?_toArray, List.getElem?_cons_zero, List.getElem?_cons_succ]; rfl
  · exact fun _ _ _ h => h
  · refine Or.inl ⟨by rfl, ?_⟩
    intro w hSw
    (try dsimp only at hSw)
    go_simp
    (try with_reducible rfl)
  (try simp only [Act.put, List.setIfInBounds_toArray, List.set_cons_zero, List.set_cons_succ])
  refine wpAnyH_take (i := 5) (oi := ?_) (v := ?_) ?_ (by kernel_rfl) (by kernel_rfl) (by kernel_rfl) ?_ ?_ h0 ?_
  rotate_left 2
  · simp only [List.getElem?_toArray, List.getElem?_cons_zero, List.getElem?_cons_succ]; rfl
  · exact fun _ _ _ h => h
  · refine Or.inl ⟨by rfl, ?_⟩
    intro w hSw
    (try dsimp only at hSw)
    go_simp
    (try with_reducible rfl)
  (try simp only [Act.put, List.setIfInBounds_toArray, List.set_cons_zero, List.set_cons_succ])
  refine wpAnyH_take (i := 7) (oi := ?_) (v := ?_) ?_ (by kernel_rfl) (by kernel_rfl) (by kernel_rfl) ?_ ?_ h0 ?_
  rotate_left 2
  · simp only [List.getElem?_toArray, List.getElem?_cons_zero, List.getElem?_cons_succ]; rfl
  · exact fun _ _ _ h => h
  · refine Or.inl ⟨by rfl, ?_⟩
    intro w hSw
    (try dsimp only at hSw)
    go_simp
    (try with_reducible rfl)
  (try simp only [Act.put, List.setIfInBounds_toArray, List.set_cons_zero, List.set_cons_succ])
  refine wpAnyH_take (i := 9) (oi := ?_) (v := ?_) ?_ (by kernel_rfl) (by kernel_rfl) (by kernel_rfl) ?_ ?_ h0 ?_
  rotate_left 2
  · simp only [List.getElem?_toArray, List.getElem?_cons_zero, List.getElem?_cons_succ]; rfl
  · exact fun _ _ _ h => h
  · refine Or.inl ⟨by rfl, ?_⟩
    intro w hSw
    (try dsimp only at hSw)
    go_simp
    (try with_reducible rfl)
  (try simp only [Act.put, List.setIfInBounds_toArray, List.set_cons_zero, List.set_cons_succ])
  refine wpAnyH_take (i := 12) (oi := ?_) (v := ?_) ?_ (by kernel_rfl) (by kernel_rfl) (by kernel_rfl) ?_ ?_ h0 ?_
  rotate_left 2
  · simp only [List.getElem?_toArray, List.getElem?_cons_zero, List.getElem?_cons_succ]; rfl
  · exact fun _ _ _ h => h
  · refine Or.inl ⟨by rfl, ?_⟩
    intro w hSw
    (try dsimp only at hSw)
    go_simp
    (try with_reducible rfl)
  (try simp only [Act.put, List.setIfInBounds_toArray, List.set_cons_zero, List.set_cons_succ])
  refine wpAnyH_take (i := 13) (oi := ?_) (v := ?_) ?_ (by kernel_rfl) (by kernel_rfl) (by kernel_rfl) ?_ ?_ h0 ?_
  rotate_left 2
  · simp only [List.getElem?_toArray, List.getElem?_cons_zero, List.getElem?_cons_succ]; rfl
  · exact fun _ _ _ h => h
  · refine Or.inl ⟨by rfl, ?_⟩
    intro w hSw
    (try dsimp only at hSw)
    go_simp
    (try with_reducible rfl)
  (try simp only [Act.put, List.setIfInBounds_toArray, List.set_cons_zero, List.set_cons_succ])
  refine wpAnyH_ready (rs := [6]) (by kernel_rfl) (by simp) ?_
  refine AllReadyH.cons (o := ?_) ?_ (fun K hK => ?_) AllReadyH.nil
  rotate_left
  · simp only [List.getElem?_toArray, List.getElem?_cons_zero, List.getElem?_cons_succ]; rfl
  go_simp
  refine hK.out _ _ ⟨q1.out, (Ext.refl w9).drew.alloc _⟩ (fun h1' => ?_)
  clear hK K
  (try simp only [Act.put, List.setIfInBounds_toArray, List.set_cons_zero, List.set_cons_succ])
  refine wpAnyH_ready (rs := [8]) (by kernel_rfl) (by simp) ?_
  refine AllReadyH.cons (o := ?_) ?_ (fun K hK => ?_) AllReadyH.nil
  rotate_left
  · simp only [List.getElem?_toArray, List.getElem?_cons_zero, List.getElem?_cons_succ]; rfl
  refine step_ran (.tmp 111) (.tmp 112) rfl (by kernel_rfl) r1 ?_
  refine hK.out _ _ ⟨q2.out, (Ext.refl w9).drew.trans xx1⟩ (fun h2' => ?_)
  clear hK K
  (try simp only [Act.put, List.setIfInBounds_toArray, List.set_cons_zero, List.set_cons_succ])
  refine wpAnyH_ready (rs := [10]) (by kernel_rfl) (by simp) ?_
  refine AllReadyH.cons (o := ?_) ?_ (fun K hK => ?_) AllReadyH.nil
  rotate_left
  · simp only [List.getElem?_toArray, List.getElem?_cons_zero, List.getElem?_cons_succ]; rfl
  refine step_ran (.tmp 113) (.tmp 114) rfl (by kernel_rfl) r2 ?_
  refine hK.out _ _ ⟨q3.out, (Ext.refl w9).drew.trans xx2⟩ (fun h3' => ?_)
  clear hK K
  (try simp only [Act.put, List.setIfInBounds_toArray, List.set_cons_zero, List.set_cons_succ])
  refine wpAnyH_ready (rs := [11]) (by kernel_rfl) (by simp) ?_
  refine AllReadyH.cons (o := ?_) ?_ (fun K hK => ?_) AllReadyH.nil
  rotate_left
  · simp only [List.getElem?_toArray, List.getElem?_cons_zero, List.getElem?_cons_succ]; rfl
  go_simp
  refine hK.out _ _ ⟨q3.out, (Ext.refl w9).drew.trans xx2⟩ (fun h4' => ?_)
  clear hK K
  (try simp only [Act.put, List.setIfInBounds_toArray, List.set_cons_zero, List.set_cons_succ])
  refine wpAnyH_take (i := 14) (oi := ?_) (v := ?_) ?_ (by kernel_rfl) (by kernel_rfl) (by kernel_rfl) ?_ ?_ h4' ?_
  rotate_left 2
  · simp only [List.getElem?_toArray, List.getElem?_cons_zero, List.getElem?_cons_succ]; rfl
  · exact fun _ _ _ h => h
  · refine Or.inl ⟨by rfl, ?_⟩
    intro w hSw
    (try dsimp only at hSw)
    go_simp
    (try with_reducible rfl)
  (try simp only [Act.put, List.setIfInBounds_toArray, List.set_cons_zero, List.set_cons_succ])
  refine wpAnyH_take (i := 15) (oi := ?_) (v := ?_) ?_ (by kernel_rfl) (by kernel_rfl) (by kernel_rfl) ?_ ?_ h4' ?_
  rotate_left 2
  · simp only [List.getElem?_toArray, List.getElem?_cons_zero, List.getElem?_cons_succ]; rfl
  · exact fun _ _ _ h => h
  · refine Or.inl ⟨by rfl, ?_⟩
    intro w hSw
    (try dsimp only at hSw)
    go_simp
    (try with_reducible rfl)
  (try simp only [Act.put, List.setIfInBounds_toArray, List.set_cons_zero, List.set_cons_succ])
  refine wpAnyH_take (i := 16) (oi := ?_) (v := ?_) ?_ (by kernel_rfl) (by kernel_rfl) (by kernel_rfl) ?_ ?_ h4' ?_
  rotate_left 2
  · simp only [List.getElem?_toArray, List.getElem?_cons_zero, List.getElem?_cons_succ]; rfl
  · exact fun _ _ _ h => h
  · refine Or.inl ⟨by rfl, ?_⟩
    intro w hSw
    (try dsimp only at hSw)
    go_simp
    (try with_reducible rfl)
  (try simp only [Act.put, List.setIfInBounds_toArray, List.set_cons_zero, List.set_cons_succ])
  refine wpAnyH_take (i := 17) (oi := ?_) (v := ?_) ?_ (by kernel_rfl) (by kernel_rfl) (by kernel_rfl) ?_ ?_ h4' ?_
  rotate_left 2
  · simp only [List.getElem?_toArray, List.getElem?_cons_zero, List.getElem?_cons_succ]; rfl
  · exact fun _ _ _ h => h
  · refine Or.inl ⟨by rfl, ?_⟩
    intro w hSw
    (try dsimp only at hSw)
    go_simp
    (try with_reducible rfl)
  (try simp only [Act.put, List.setIfInBounds_toArray, List.set_cons_zero, List.set_cons_succ])
  refine wpAnyH_done (by kernel_rfl) ?_ _
  refine NoPanic.normal ?_
  clear h0 h1' h2' h3' h4' r1 r2
  have q3 := q3.out
  go_wp2_with fail
  go_ret
  exact ⟨rfl, X9.trans ((Ext.refl w9).drew.trans xx2)⟩

end PackBack
end Go.Proofs.Ytalanmgcacacaaa

