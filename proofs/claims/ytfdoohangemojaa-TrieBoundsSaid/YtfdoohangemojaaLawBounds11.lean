/- TrieBounds: numbers are as many as a word's letters, and 1 more, each 0 to 9, and a trie has at most as many nodes as its patterns have bytes, and 1 more. For every input, without a condition. -/
import Derived.Test.YtfdoohangemojaaAwake11
import Derived.Test.YtfdoohangemojaaRWord11
import Derived.ChangeMaps5
namespace Go.Proofs.Ytfdoohangemojaa
open Go.ChangeShapes Go.WideShapes Go.ChangeAt Go.RowKit
open Go.Lib hiding intOf
namespace TrieBounds
open L10 (TN plainB patB tn rd patsB fewD fewp_any few_len)
open L11

theorem sum_step {l : List WP} {k : Nat} (h : k < l.length) : sumLen ((l.take (k + 1)).map tn) = sumLen ((l.take k).map tn) + l[k].s.size := by
  rw [List.take_succ_eq_append_getElem h, List.map_append]
  simp [sumLen, tn]
theorem sum_most {l : List WP} (h : ∀ x ∈ l, x.s.size ≤ 60) : ∀ k, k ≤ l.length → sumLen ((l.take k).map tn) ≤ 60 * k
  | 0, _ => by simp [sumLen]
  | k + 1, hk => by
    have h1 := sum_most h k (by omega)
    have h2 := h l[k] (List.getElem_mem _)
    rw [sum_step (by omega)]
    omega

set_option maxRecDepth 100000 in
set_option maxHeartbeats 16000000 in
theorem main (D : PatsD) (P : PatsP) (ok : PatsOk D P) (s : ByteArray) (hs : s.size ≤ 60) (w : World) (sn : SeenPats w D P) (hf : fewD D = true) (hp : patsB (rd D) = true) :
    Calls Try.prog 7 #[patsV D P, .string s] w (Ret w (.bool true)) := by
  obtain ⟨f1, f2, f3⟩ := few_len hf
  obtain ⟨V, hV⟩ : ∃ V, V = w.alloc (.cells #[.slice P.x D.l.length P.c, .slice P.y D.m.length P.d] 37) := ⟨_, rfl⟩
  have W0 : Ext w V := by rw [hV]; exact (Ext.refl _).alloc _
  have kB : Blk V w.heap.size 37 [.slice P.x D.l.length P.c, .slice P.y D.m.length P.d] := by rw [hV]; exact Blk.lit _ _ _ _ rfl
  have FEW := Lib.hid (fun w' (x : Ext V w') => by have := fewp_any D P w' ((sn.ext W0).ext x); rw [hf] at this; exact this)
  have NEW := Lib.hid (fun w' (x : Ext V w') => new_yes D P ok.li ok.mi w' ((sn.ext W0).ext x) (by omega) (by omega) hp)
  have AW := Lib.hid (awake_any V)
  have SL := Lib.hid (sn.ext W0).l
  have HD := Lib.hid (show ∀ x ∈ D.l, x.s.size ≤ 60 from fun x hx => (f3 x (List.mem_append.2 (.inl hx))).1)
  unfold patsV at FEW NEW ⊢
  obtain ⟨l, m⟩ := D
  obtain ⟨A, c, A2, d⟩ := P
  dsimp only at FEW NEW SL HD kB hV f1 ⊢
  have HX := Lib.hid W0
  obtain ⟨n, hnl⟩ : ∃ n, n = l.length := ⟨_, rfl⟩
  have HN := Lib.hid hnl
  rw [← hnl] at FEW NEW kB hV f1 ⊢
  have WD := Lib.hid (fun w' => rword_any s w')
  obtain ⟨vl, hvl⟩ : ∃ vl, vl = valsL (l.map tn) s.data.toList := ⟨_, rfl⟩
  have HVL := Lib.hid hvl
  have HPAT := Lib.hid (show ∀ v ∈ vl, 0 ≤ v ∧ v ≤ 9 from fun v hv => by
    rw [hvl] at hv
    refine valsL_mem (fun x hx => ?_) hv
    obtain ⟨y, hy, rfl⟩ := List.mem_map.1 hx
    have h1 := L10.patsB_rd ⟨l, m⟩
    rw [hp] at h1
    have h2 := h1.symm
    simp only [Bool.and_eq_true, decide_eq_true_eq, List.all_eq_true] at h2
    exact h2.2.1 y hy)
  have HCASE := Lib.hid (show (plainB s.data.toList = true ∧ vl.length = s.size + 1) ∨ (plainB s.data.toList = false ∧ vl.length = 0) by
    cases h : plainB s.data.toList with
    | true => exact .inl ⟨rfl, by rw [hvl, valsL_length h, list_size]⟩
    | false => exact .inr ⟨rfl, by rw [hvl, valsL_no h]; rfl⟩)
  obtain ⟨b, hb⟩ : ∃ b, plainB s.data.toList = b := ⟨_, rfl⟩
  rw [hb] at WD HCASE
  clear sn ok hp hf f2 f3 hnl hvl hb W0
  generalize m.length = q at *
  go_enter Try.func7, Try.ntmps7
  go_upto_region 1 with (fail)
  rw [← hV]
  clear hV
  generalize hR : w.heap.size = R at *
  have HR := Lib.hid hR
  clear hR
  go_wp2_with fail
  refine AW.out.mono ?_; rintro e w1 ⟨rfl, x1⟩
  have q0 : w1.cell? ⟨R, 0, none⟩ = some (.slice A n c) := (kB.ext x1).cell 0
  have q1 : w1.cell? ⟨R, 1, none⟩ = some (.slice A2 q d) := (kB.ext x1).cell 1
  have X1 := Lib.hid x1
  have RLT := Lib.hid (show R < V.heap.size from kB.lt)
  clear x1 AW kB
  go_wp2_with fail
  refine (FEW.out _ X1.out).mono ?_; rintro e w2 ⟨rfl, x2⟩
  have q0 := x2.at q0
  have q1 := x2.at q1
  have X2 := Lib.hid (X1.out.trans x2)
  clear x2 X1 FEW
  go_wp2_with fail
  refine (NEW.out _ X2.out).mono ?_; rintro e w3 ⟨B, F, rfl, x3, T3, hB, hF⟩
  have q0 := x3.at q0
  have X3 := Lib.hid (X2.out.trans x3)
  have HB := Lib.hid (show V.heap.size ≤ B from Nat.le_trans X2.out.size hB)
  have VA := Lib.hid (vals_any w3 B F _ T3 s)
  clear x3 X2 NEW T3 hB hF q1
  go_wp2_with fail
  refine VA.out.mono ?_; rintro e w4 ⟨b4, F4, A4, c4, rfl, T4, _, s4, _⟩
  rw [← HVL.out] at s4 ⊢
  have q0 := b4.at q0 (by show ¬ R = B; have := HB.out; have := RLT.out; omega)
  have X4 := Lib.hid (b4.ext X3.out (fun k hk => by rw [show k = B from hk]; exact HB.out))
  have T4 := Lib.hid T4
  have S4 := Lib.hid s4
  clear b4 X3 VA s4
  have SL4 := Lib.hid (SL.out.ext X4.out)
  obtain ⟨z, hz⟩ : ∃ z, z = vl.length := ⟨_, rfl⟩
  have HZ := Lib.hid hz
  rw [← hz] at HCASE ⊢
  have hz61 : z ≤ 61 := by have := HCASE.out; omega
  clear hz
  go_wp2_with fail
  go_loop [9, 10] (fun a i => ∃ (k y : Nat), k ≤ n ∧ i = .int .i64 k ∧ a = .int .i64 y ∧ y ≤ 1 + 60 * k ∧ Hid (y = 1 + sumLen ((l.take k).map tn))) (fun _ i => n - (intOf i).toNat)
  case atStart => exact ⟨0, 1, Nat.zero_le _, rfl, rfl, by omega, rfl⟩
  case round =>
    obtain ⟨k, y, hk, rfl, rfl, hy, hh⟩ := hrel
    by_cases hlt : k < n
    · have hlt' : k < l.length := by rw [← HN.out]; exact hlt
      obtain ⟨⟨ad, rfl, a0, _⟩, _⟩ := SL4.out.get hlt'
      have hx := HD.out _ (List.getElem_mem hlt')
      have E1 := Lib.hid (show y + l[k].s.size = 1 + sumLen ((l.take (k + 1)).map tn) by rw [hh.out, sum_step hlt', Nat.add_assoc])
      generalize l[k].s = u at *
      clear hh
      go_wp2_with fail
      go_round
      case rel => exact ⟨k + 1, y + u.size, by omega, by go_num, by go_num, by omega, E1⟩
      case measure => simp [intOf]; omega
    · obtain rfl : k = n := by omega
      have HY := Lib.hid (show (nodesL (l.map tn)).length ≤ y by
        rw [hh.out, List.take_of_length_le (by rw [← HN.out]; exact Nat.le_refl _)]
        exact (nodes_length _).2)
      clear hh
      go_wp2_with fail
      go_loop [11] (fun i => ∃ k : Nat, k ≤ z ∧ i = .int .i64 k) (fun i => z - (intOf i).toNat)
      case atStart => exact ⟨0, Nat.zero_le _, rfl⟩
      case round =>
        obtain ⟨j, hj, rfl⟩ := hrel
        by_cases hlt : j < z
        · have hj' : j < vl.length := by rw [← HZ.out]; exact hlt
          obtain ⟨ae, rfl, hc⟩ := S4.out.get hj'
          have hv := HPAT.out (vl.getD j 0) (by rw [List.getD, List.getElem?_eq_getElem hj']; exact List.getElem_mem _)
          generalize vl.getD j 0 = v at *
          go_wp2_with fail
          go_round
          case rel => exact ⟨j + 1, by omega, by go_num⟩
          case measure => simp [intOf]; omega
        · obtain rfl : j = z := by omega
          have hn0 := nodes_length (l.map tn)
          have ND := Lib.hid (fun w' (x : Ext w4 w') => nodes_any w' B F4 _ (T4.out.ext x))
          have HBV := Lib.hid (show R ≤ B by have := HB.out; have := RLT.out; omega)
          have hyn := HY.out
          have hN1 := hn0.1
          generalize hN0 : (nodesL (l.map tn)).length = N0 at *
          have HN0 := Lib.hid hN0
          clear hN0 hn0
          rcases HCASE.out with ⟨rfl, rfl⟩ | ⟨rfl, rfl⟩
          all_goals
            go_wp2_with fail
            refine (WD.out _).mono ?_; rintro e w5 ⟨rfl, x5⟩
            go_wp2_with fail
            refine (ND.out w5 x5).mono ?_; rintro e w6 ⟨rfl, b6, F6, T6, _⟩
            rw [HN0.out]
            have ND2 := Lib.hid (nodes_any w6 B F6 _ T6)
            have B6 := Lib.hid (b6.ext (X4.out.trans x5) (fun k hk => by rw [show k = B from hk]; exact HB.out))
            clear b6 T6 ND
            go_wp2_with fail
            refine ND2.out.mono ?_; rintro e w7 ⟨rfl, b7, _⟩
            rw [HN0.out]
            have B7 := Lib.hid (b7.ext B6.out (fun k hk => by rw [show k = B from hk]; exact HB.out))
            clear b7 ND2
            go_wp2_with fail
            go_ret
            exact ⟨rfl, HX.out.trans B7.out⟩
/-- The other ways out. -/
theorem short (D : PatsD) (P : PatsP) (s : ByteArray) (w : World) (sn : SeenPats w D P) (h : fewD D = false ∨ 60 < s.size) :
    Calls Try.prog 7 #[patsV D P, .string s] w (Ret w (.bool true)) := by
  obtain ⟨V, hV⟩ : ∃ V, V = w.alloc (.cells #[.slice P.x D.l.length P.c, .slice P.y D.m.length P.d] 37) := ⟨_, rfl⟩
  have W0 : Ext w V := by rw [hV]; exact (Ext.refl _).alloc _
  have kB : Blk V w.heap.size 37 [.slice P.x D.l.length P.c, .slice P.y D.m.length P.d] := by rw [hV]; exact Blk.lit _ _ _ _ rfl
  obtain ⟨b, hb⟩ : ∃ b, fewD D = b := ⟨_, rfl⟩
  have FEW := Lib.hid (fun w' (x : Ext V w') => by have := fewp_any D P w' ((sn.ext W0).ext x); rw [hb] at this; exact this)
  have HB := Lib.hid (show b = false ∨ (b = true ∧ 60 < s.size) by
    cases b with
    | false => exact .inl rfl
    | true => exact .inr ⟨rfl, h.elim (fun e => by rw [hb] at e; cases e) id⟩)
  have AW := Lib.hid (awake_any V)
  unfold patsV at FEW ⊢
  have HX := Lib.hid W0
  clear sn hb h W0
  generalize D.l.length = n at *
  generalize D.m.length = q at *
  obtain ⟨A, c, A2, d⟩ := P
  dsimp only at *
  go_enter Try.func7, Try.ntmps7
  go_upto_region 1 with (fail)
  rw [← hV]
  clear hV
  generalize w.heap.size = R at *
  go_wp2_with fail
  refine AW.out.mono ?_; rintro e w1 ⟨rfl, x1⟩
  have q0 : w1.cell? ⟨R, 0, none⟩ = some (.slice A n c) := (kB.ext x1).cell 0
  have q1 : w1.cell? ⟨R, 1, none⟩ = some (.slice A2 q d) := (kB.ext x1).cell 1
  go_wp2_with fail
  refine (FEW.out _ x1).mono ?_; rintro e w2 ⟨rfl, x2⟩
  have FIN := Lib.hid (show Ext w w2 from (HX.out.trans x1).trans x2)
  rcases HB.out with rfl | ⟨rfl, hs⟩
  · clear x1 x2
    go_wp2_with fail
    go_ret
    exact ⟨rfl, FIN.out⟩
  · clear x1 x2
    go_wp2_with fail
    go_ret
    exact ⟨rfl, FIN.out⟩
theorem none_ (D : PatsD) (P : PatsP) (ok : PatsOk D P) (s : ByteArray) (hs : s.size ≤ 60) (w : World) (sn : SeenPats w D P) (hf : fewD D = true) (hp : patsB (rd D) = false) :
    Calls Try.prog 7 #[patsV D P, .string s] w (Ret w (.bool true)) := by
  obtain ⟨f1, f2, f3⟩ := few_len hf
  obtain ⟨V, hV⟩ : ∃ V, V = w.alloc (.cells #[.slice P.x D.l.length P.c, .slice P.y D.m.length P.d] 37) := ⟨_, rfl⟩
  have W0 : Ext w V := by rw [hV]; exact (Ext.refl _).alloc _
  have kB : Blk V w.heap.size 37 [.slice P.x D.l.length P.c, .slice P.y D.m.length P.d] := by rw [hV]; exact Blk.lit _ _ _ _ rfl
  have FEW := Lib.hid (fun w' (x : Ext V w') => by have := fewp_any D P w' ((sn.ext W0).ext x); rw [hf] at this; exact this)
  have NEW := Lib.hid (fun w' (x : Ext V w') => new_no D P ok.li ok.mi w' ((sn.ext W0).ext x) (by omega) (by omega) hp)
  have AW := Lib.hid (awake_any V)
  unfold patsV at FEW NEW ⊢
  have HX := Lib.hid W0
  clear sn ok hp hf f1 f2 f3 W0
  generalize D.l.length = n at *
  generalize D.m.length = q at *
  obtain ⟨A, c, A2, d⟩ := P
  dsimp only at *
  go_enter Try.func7, Try.ntmps7
  go_upto_region 1 with (fail)
  rw [← hV]
  clear hV
  generalize w.heap.size = R at *
  go_wp2_with fail
  refine AW.out.mono ?_; rintro e w1 ⟨rfl, x1⟩
  have q0 : w1.cell? ⟨R, 0, none⟩ = some (.slice A n c) := (kB.ext x1).cell 0
  have q1 : w1.cell? ⟨R, 1, none⟩ = some (.slice A2 q d) := (kB.ext x1).cell 1
  have X1 := Lib.hid x1
  clear x1 kB
  go_wp2_with fail
  refine (FEW.out _ X1.out).mono ?_; rintro e w2 ⟨rfl, x2⟩
  have q0 := x2.at q0
  have q1 := x2.at q1
  have X2 := Lib.hid (X1.out.trans x2)
  clear x2 FEW
  go_wp2_with fail
  refine (NEW.out _ X2.out).mono ?_; rintro e w3 ⟨rfl, x3⟩
  have X3 := Lib.hid ((HX.out.trans X2.out).trans x3)
  clear x3 NEW
  go_wp2_with fail
  go_ret
  exact ⟨rfl, X3.out⟩
theorem walk (D : PatsD) (P : PatsP) (ok : PatsOk D P) (s : ByteArray) (_ : s.size ≤ maxLen) (w : World) (sn : SeenPats w D P) :
    Calls Try.prog 7 #[patsV D P, .string s] w (Ret w (.bool true)) := by
  cases hf : fewD D with
  | false => exact short D P s w sn (.inl hf)
  | true =>
    by_cases hs : s.size ≤ 60
    · cases hp : patsB (rd D) with
      | false => exact none_ D P ok s hs w sn hf hp
      | true => exact main D P ok s hs w sn hf hp
    · exact short D P s w sn (.inr (by omega))

set_option maxRecDepth 100000 in
theorem lifted (os : Os) (started : os.Started) (H : Type) (enc : TypeId × Value → H) :
    ReturnsInHanded {} Try.checked os 7 .any (Rows.trieBoundsSpec.pre6 enc Try.prog Try.f7 [] false) (Rows.trieBoundsSpec.post enc Try.prog Try.f7 false true false false) := by
  refine law_lift (C := Try.checked) own started (by kernel_rfl) Try.func7 laidOut rfl rfl Try.underlying4 (by kernel_rfl) ?_
    (ChangeSpec.witness6 (enc := enc) (C := Try.checked) false ⟨#[], #[.agg #[.slice none 0 0, .slice none 0 0], .string ByteArray.empty], []⟩ 8 (by kernel_rfl) (by kernel_rfl) (by kernel_rfl) (by kernel_rfl)) ?_
  · intro H ds h
    match ds, h with
    | [_, _], _ => rfl
  · intro W base args ds p hval hA hlt hwt hsh
    rw [Try.params7] at hA hval
    obtain ⟨v0, vs0, d0, ds0, p0, q0, hargs, rfl, rfl, h0, r0⟩ := trodAll_cons hA
    obtain ⟨v1, vs1, d1, ds1, p1, q1, rfl, rfl, rfl, h1, r1⟩ := trodAll_cons r0
    obtain ⟨rfl, rfl, rfl⟩ := trodAll_nil r1
    obtain rfl : args = #[v0, v1] := by cases args; simp_all
    obtain ⟨D0, P0, rfl, ok0, hs0⟩ := arg_pats (hval 0 37 v0 rfl rfl) h0
    obtain ⟨a1, rfl, rfl, rfl, hs1⟩ := Go.ChangeMaps.open_string Try.underlying9 (hval 1 9 v1 rfl rfl) h1
    exact walk D0 P0 ok0 a1 hs1 W hs0

theorem holds : Rows.TrieBoundsSaid :=
  OpenClaim.holds_of_wide 7 Try.f7 rfl rfl rfl rfl rfl rfl rfl ⟨rfl, rfl, rfl, rfl, rfl⟩ rfl rfl rfl rfl rfl (by kernel_rfl) Try.func7 (by kernel_rfl)
    (of_decide_eq_true (by kernel_rfl)) (by unfold Func.isWrapper; first | (rw [if_pos (by decide +kernel)]; kernel_rfl) | (rw [if_neg (by decide +kernel)]; exact ⟨rfl, rfl⟩))
    (fun os started H enc _ => lifted os started H enc)
end TrieBounds
end Go.Proofs.Ytfdoohangemojaa

