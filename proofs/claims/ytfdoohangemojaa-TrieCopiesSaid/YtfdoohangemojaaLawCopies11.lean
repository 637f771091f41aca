/- TrieCopies: a trie does not hang on what is done with the patterns it was made of, nor on being asked ahead. For every input, without a condition. -/
import Derived.Test.YtfdoohangemojaaDuo11
import Derived.ChangeMaps5
import Derived.Deep.RegionHeld3
namespace Go.Proofs.Ytfdoohangemojaa
open Go.ChangeShapes Go.WideShapes Go.ChangeAt Go.RowKit
open Go.Lib hiding intOf
namespace TrieCopies
open L10 (TN plainB patB tn rd patsB fewD fewp_any few_len)
open L11

set_option maxRecDepth 100000 in
set_option maxHeartbeats 16000000 in
theorem main (D : PatsD) (P : PatsP) (ok : PatsOk D P) (s : ByteArray) (hs : s.size ≤ 60) (m : Nat) (hm : m ≤ 255) (w : World) (sn : SeenPats w D P) (hf : fewD D = true) :
    Calls Try.prog 8 #[patsV D P, .string s, .int .u8 m] w (Ret w (.bool true)) := by
  obtain ⟨f1, f2, f3⟩ := few_len hf
  obtain ⟨V, hV⟩ : ∃ V, V = w.alloc (.cells #[.slice P.x D.l.length P.c, .slice P.y D.m.length P.d] 37) := ⟨_, rfl⟩
  have W0 : Ext w V := by rw [hV]; exact (Ext.refl _).alloc _
  have kB : Blk V w.heap.size 37 [.slice P.x D.l.length P.c, .slice P.y D.m.length P.d] := by rw [hV]; exact Blk.lit _ _ _ _ rfl
  have FEW := Lib.hid (fun w' (x : Ext V w') => by have := fewp_any D P w' ((sn.ext W0).ext x); rw [hf] at this; exact this)
  have AW := Lib.hid (awake_any V)
  have SL := Lib.hid (sn.ext W0).l
  have HD := Lib.hid (show ∀ x ∈ D.l, x.s.size ≤ 60 ∧ x.ns.length ≤ 60 from fun x hx => f3 x (List.mem_append.2 (.inl hx)))
  have OKL := Lib.hid ok.li
  unfold patsV at FEW ⊢
  obtain ⟨l, mm⟩ := D
  obtain ⟨A, c, A2, d⟩ := P
  dsimp only at FEW SL HD OKL kB hV f1 ⊢
  have HX := Lib.hid W0
  obtain ⟨n, hnl⟩ : ∃ n, n = l.length := ⟨_, rfl⟩
  have HN := Lib.hid hnl
  rw [← hnl] at FEW kB hV f1 ⊢
  clear sn ok hf f2 f3 hnl W0
  generalize mm.length = q at *
  go_enter Try.func8, Try.ntmps8
  go_upto_region 1 with (fail)
  rw [← hV]
  clear hV
  generalize hR : w.heap.size = R at *
  clear hR
  have KB := Lib.hid kB
  go_wp2_with fail
  refine AW.out.mono ?_; rintro e w1 ⟨rfl, x1⟩
  have q0 : w1.cell? ⟨R, 0, none⟩ = some (.slice A n c) := (KB.out.ext x1).cell 0
  have q1 : w1.cell? ⟨R, 1, none⟩ = some (.slice A2 q d) := (KB.out.ext x1).cell 1
  have X1 := Lib.hid x1
  clear x1 AW kB
  go_wp2_with fail
  refine (FEW.out _ X1.out).mono ?_; rintro e w3 ⟨rfl, x3⟩
  have q0 := x3.at q0
  have X3 := Lib.hid (X1.out.trans x3)
  clear x3 X1 FEW q1
  go_upto_region 5 with (fail)
  have QS := Lib.hid (show CAt w3.heap.size w3 (w3.alloc (.cells #[.slice none 0 0, .slice none 0 0] 37)) (.slice none 0 0) [] from
    ⟨(Ext.refl _).alloc _, Blk.lit _ _ _ _ rfl, Nat.le_refl _, World.ownsRow_nil _ _ _ _, fun y hy => by simp at hy⟩)
  have RQ := Lib.hid (show V.heap.size ≤ w3.heap.size from X3.out.size)
  generalize w3.alloc (.cells #[.slice none 0 0, .slice none 0 0] 37) = w4 at *
  generalize hQ : w3.heap.size = Q at *
  have HQ := Lib.hid hQ
  clear hQ
  have q0w := Lib.hid q0
  have q0 : w4.cell? ⟨R, 0, none⟩ = some (.slice A n c) := QS.out.x.at q0w.out
  go_wp2_with fail
  go_loopw [9] (fun i wr => ∃ k : Nat, k ≤ n ∧ i = .int .i64 k ∧ Hid (∃ vl cl, CAt Q w3 wr vl cl ∧ cl.map tn = (l.take k).map tn ∧ (∀ y ∈ cl, y.ns.length ≤ 60 ∧ y.Ok))) (fun i _ => n - (intOf i).toNat)
  case atStart => exact ⟨0, Nat.zero_le _, rfl, ⟨_, _, QS.out, rfl, fun y hy => by simp at hy⟩⟩
  case round =>
    obtain ⟨k, hk, rfl, hh⟩ := hrel
    obtain ⟨vl, cl, hq, hmap, hok⟩ := hh.out
    by_cases hlt : k < n
    · have hlt' : k < l.length := by rw [← HN.out]; exact hlt
      have RS := Lib.hid (show (l.take (k + 1)).map tn = (l.take k).map tn ++ [tn l[k]] by rw [List.take_succ_eq_append_getElem hlt', List.map_append]; rfl)
      obtain ⟨⟨ad, eA, a0, a1⟩, sy⟩ := (SL.out.ext X3.out).get hlt'
      have HLT := Lib.hid (show Nat.lt k n from hlt)
      have hb := HD.out l[k] (List.getElem_mem _)
      have hoy := OKL.out l[k] (List.getElem_mem _)
      have hlc : cl.length = k := by
        have := congrArg List.length hmap
        rw [List.length_map, List.length_map, List.length_take] at this
        omega
      subst eA
      obtain ⟨yn, hyn⟩ : ∃ yn, yn = l[k].ns.length := ⟨_, rfl⟩
      obtain ⟨A8, c8, w9, A9, n9, c9, w11, r1, hr, hq9, ⟨g0, gf⟩, ⟨d7, d8, d9, d10⟩, y7, y8, y9, y10, y11, y12⟩ := copy_step hq l[k] yn hyn sy (by omega) (by omega) 25 34
      have FIN := Lib.hid (show ∃ vl cl, CAt Q w3 (w11.setCell ⟨Q, 0, none⟩ (.slice A9 n9 c9)) vl cl ∧ cl.map tn = (l.take (k + 1)).map tn ∧ (∀ y ∈ cl, y.ns.length ≤ 60 ∧ y.Ok) from ⟨_, _, hq9, by rw [RS.out, List.map_append, hmap]; rfl, fun y hy => by
        have hro := (hq9.nums y hy).room
        rcases List.mem_append.1 hy with h | h
        · exact hok y h
        · rw [List.mem_singleton.1 h] at hro ⊢
          exact ⟨hb.2, hro.1, hro.2, hoy.size, hoy.wide⟩⟩)
      have S0 := Lib.hid (show ∀ w', Ext w3 w' → w'.cell? ⟨R, 0, none⟩ = some (.slice (some ad) n c) ∧ w'.cell? (ad.add (k * 2)) = some (.string l[k].s) ∧ w'.cell? ⟨(ad.add (k * 2)).block, (ad.add (k * 2)).off + 1, none⟩ = some (.slice l[k].A yn l[k].c) from fun w' x => ⟨x.at q0w.out, x.at a0, by rw [hyn]; exact x.at a1⟩)
      have S7 := S0.out _ y7
      have S8 := S0.out _ y8
      have S9 := S0.out _ y9
      have S10 := S0.out _ y10
      have S11 := S0.out _ y11
      have S12 := S0.out _ y12
      have q0 := S7.1
      generalize l[k].s = ys at *
      generalize l[k].A = yA at *
      generalize l[k].c = yc at *
      have q0 : wr.cell? ⟨R, 0, none⟩ = some (.slice (some ad) n c) := hq.x.at q0w.out
      clear hq hh hq9 y7 y8 y9 y10 y11 y12 a0 a1 sy S0 RS hb hoy hlc hmap hok hyn
      go_wp2_with fail
      refine wp_region_noPanic ?_
      refine wp_region_held_drew (S := (fun w' => w'.cell? ⟨R, 0, none⟩ = some (.slice (some ad) n c) ∧ w'.cell? (ad.add (k * 2)) = some (.string ys) ∧ w'.cell? ⟨(ad.add (k * 2)).block, (ad.add (k * 2)).off + 1, none⟩ = some (.slice yA yn yc))) (by kernel_rfl) S7 (fun h0 => ?_)
      generalize wr.drew = W7 at *
      refine wpAnyH_take (i := 0) (oi := ?_) (v := ?_) ?_ (by kernel_rfl) (by kernel_rfl) (by kernel_rfl) ?_ ?_ h0 ?_
      rotate_left 2
      · simp only [List.getElem?_toArray, List.getElem?_cons_zero]; rfl
      · exact fun _ _ _ h => h
      · refine Or.inl ⟨by rfl, ?_⟩
        intro w hSw
        (try dsimp only at hSw)
        go_simp
        (try with_reducible rfl)
      (try simp only [Act.put, List.setIfInBounds_toArray, List.set_cons_zero, List.set_cons_succ])
      refine wpAnyH_take (i := 2) (oi := ?_) (v := ?_) ?_ (by kernel_rfl) (by kernel_rfl) (by kernel_rfl) ?_ ?_ h0 ?_
      rotate_left 2
      · simp only [List.getElem?_toArray, List.getElem?_cons_zero, List.getElem?_cons_succ]; rfl
      · exact fun _ _ _ h => h
      · refine Or.inl ⟨by rfl, ?_⟩
        intro w hSw
        (try dsimp only at hSw)
        go_simp
        (try with_reducible rfl)
      (try simp only [Act.put, List.setIfInBounds_toArray, List.set_cons_zero, List.set_cons_succ])
      refine wpAnyH_take (i := 3) (oi := ?_) (v := ?_) ?_ (by kernel_rfl) (by kernel_rfl) (by kernel_rfl) ?_ ?_ h0 ?_
      rotate_left 2
      · simp only [List.getElem?_toArray, List.getElem?_cons_zero, List.getElem?_cons_succ]; rfl
      · exact fun _ _ _ h => h
      · refine Or.inl ⟨by rfl, ?_⟩
        intro w hSw
        (try dsimp only at hSw)
        go_simp
        (try with_reducible rfl)
      (try simp only [Act.put, List.setIfInBounds_toArray, List.set_cons_zero, List.set_cons_succ])
      refine wpAnyH_take (i := 4) (oi := ?_) (v := ?_) ?_ (by kernel_rfl) (by kernel_rfl) (by kernel_rfl) ?_ ?_ h0 ?_
      rotate_left 2
      · simp only [List.getElem?_toArray, List.getElem?_cons_zero, List.getElem?_cons_succ]; rfl
      · exact fun _ _ _ h => h
      · refine Or.inl ⟨by rfl, ?_⟩
        intro w hSw
        (try dsimp only at hSw)
        go_simp
        (try with_reducible rfl)
      (try simp only [Act.put, List.setIfInBounds_toArray, List.set_cons_zero, List.set_cons_succ])
      refine wpAnyH_take (i := 5) (oi := ?_) (v := ?_) ?_ (by kernel_rfl) (by kernel_rfl) (by kernel_rfl) ?_ ?_ h0 ?_
      rotate_left 2
      · simp only [List.getElem?_toArray, List.getElem?_cons_zero, List.getElem?_cons_succ]; rfl
      · exact fun _ _ _ h => h
      · refine Or.inl ⟨by rfl, ?_⟩
        intro w hSw
        (try dsimp only at hSw)
        go_simp
        (try with_reducible rfl)
      (try simp only [Act.put, List.setIfInBounds_toArray, List.set_cons_zero, List.set_cons_succ])
      refine wpAnyH_take (i := 6) (oi := ?_) (v := ?_) ?_ (by kernel_rfl) (by kernel_rfl) (by kernel_rfl) ?_ ?_ h0 ?_
      rotate_left 2
      · simp only [List.getElem?_toArray, List.getElem?_cons_zero, List.getElem?_cons_succ]; rfl
      · exact fun _ _ _ h => h
      · refine Or.inl ⟨by rfl, ?_⟩
        intro w hSw
        (try dsimp only at hSw)
        go_simp
        (try with_reducible rfl)
      (try simp only [Act.put, List.setIfInBounds_toArray, List.set_cons_zero, List.set_cons_succ])
      refine wpAnyH_take (i := 7) (oi := ?_) (v := ?_) ?_ (by kernel_rfl) (by kernel_rfl) (by kernel_rfl) ?_ ?_ h0 ?_
      rotate_left 2
      · simp only [List.getElem?_toArray, List.getElem?_cons_zero, List.getElem?_cons_succ]; rfl
      · exact fun _ _ _ h => h
      · refine Or.inl ⟨by rfl, ?_⟩
        intro w hSw
        (try dsimp only at hSw)
        go_simp
        (try with_reducible rfl)
      (try simp only [Act.put, List.setIfInBounds_toArray, List.set_cons_zero, List.set_cons_succ])
      refine wpAnyH_take (i := 9) (oi := ?_) (v := ?_) ?_ (by kernel_rfl) (by kernel_rfl) (by kernel_rfl) ?_ ?_ h0 ?_
      rotate_left 2
      · simp only [List.getElem?_toArray, List.getElem?_cons_zero, List.getElem?_cons_succ]; rfl
      · exact fun _ _ _ h => h
      · refine Or.inl ⟨by rfl, ?_⟩
        intro w hSw
        (try dsimp only at hSw)
        go_simp
        (try with_reducible rfl)
      (try simp only [Act.put, List.setIfInBounds_toArray, List.set_cons_zero, List.set_cons_succ])
      refine wpAnyH_take (i := 10) (oi := ?_) (v := ?_) ?_ (by kernel_rfl) (by kernel_rfl) (by kernel_rfl) ?_ ?_ h0 ?_
      rotate_left 2
      · simp only [List.getElem?_toArray, List.getElem?_cons_zero, List.getElem?_cons_succ]; rfl
      · exact fun _ _ _ h => h
      · refine Or.inl ⟨by rfl, ?_⟩
        intro w hSw
        (try dsimp only at hSw)
        go_simp
        (try with_reducible rfl)
      (try simp only [Act.put, List.setIfInBounds_toArray, List.set_cons_zero, List.set_cons_succ])
      refine wpAnyH_take (i := 11) (oi := ?_) (v := ?_) ?_ (by kernel_rfl) (by kernel_rfl) (by kernel_rfl) ?_ ?_ h0 ?_
      rotate_left 2
      · simp only [List.getElem?_toArray, List.getElem?_cons_zero, List.getElem?_cons_succ]; rfl
      · exact fun _ _ _ h => h
      · refine Or.inl ⟨by rfl, ?_⟩
        intro w hSw
        (try dsimp only at hSw)
        go_simp
        (try with_reducible rfl)
      (try simp only [Act.put, List.setIfInBounds_toArray, List.set_cons_zero, List.set_cons_succ])
      refine wpAnyH_take (i := 12) (oi := ?_) (v := ?_) ?_ (by kernel_rfl) (by kernel_rfl) (by kernel_rfl) ?_ ?_ h0 ?_
      rotate_left 2
      · simp only [List.getElem?_toArray, List.getElem?_cons_zero, List.getElem?_cons_succ]; rfl
      · exact fun _ _ _ h => h
      · refine Or.inl ⟨by rfl, ?_⟩
        intro w hSw
        (try dsimp only at hSw)
        go_simp
        (try with_reducible rfl)
      (try simp only [Act.put, List.setIfInBounds_toArray, List.set_cons_zero, List.set_cons_succ])
      refine wpAnyH_take (i := 13) (oi := ?_) (v := ?_) ?_ (by kernel_rfl) (by kernel_rfl) (by kernel_rfl) ?_ ?_ h0 ?_
      rotate_left 2
      · simp only [List.getElem?_toArray, List.getElem?_cons_zero, List.getElem?_cons_succ]; rfl
      · exact fun _ _ _ h => h
      · refine Or.inl ⟨by rfl, ?_⟩
        intro w hSw
        (try dsimp only at hSw)
        go_simp
        (try with_reducible rfl)
      (try simp only [Act.put, List.setIfInBounds_toArray, List.set_cons_zero, List.set_cons_succ])
      refine wpAnyH_take (i := 14) (oi := ?_) (v := ?_) ?_ (by kernel_rfl) (by kernel_rfl) (by kernel_rfl) ?_ ?_ h0 ?_
      rotate_left 2
      · simp only [List.getElem?_toArray, List.getElem?_cons_zero, List.getElem?_cons_succ]; rfl
      · exact fun _ _ _ h => h
      · refine Or.inl ⟨by rfl, ?_⟩
        intro w hSw
        (try dsimp only at hSw)
        go_simp
        (try with_reducible rfl)
      (try simp only [Act.put, List.setIfInBounds_toArray, List.set_cons_zero, List.set_cons_succ])
      refine wpAnyH_ready (rs := [1, 8]) (by kernel_rfl) (by simp) ?_
      refine AllReadyH.cons (o := ?_) ?_ (fun K hK => ?_) ?_
      rotate_left
      · simp only [List.getElem?_toArray, List.getElem?_cons_zero, List.getElem?_cons_succ]; rfl
      · skip
        go_simp
        refine hK.out _ _ S7 (fun h1 => ?_)
        clear hK K
        (try simp only [Act.put, List.setIfInBounds_toArray, List.set_cons_zero, List.set_cons_succ])
        refine wpAnyH_ready (rs := [8]) (by kernel_rfl) (by simp) ?_
        refine AllReadyH.cons (o := ?_) ?_ (fun K hK => ?_) AllReadyH.nil
        rotate_left
        · simp only [List.getElem?_toArray, List.getElem?_cons_zero, List.getElem?_cons_succ]; rfl
        go_simp
        refine hK.out _ _ S8 (fun h2 => ?_)
        clear hK K
        (try simp only [Act.put, List.setIfInBounds_toArray, List.set_cons_zero, List.set_cons_succ])
        refine wpAnyH_ready (rs := [15]) (by kernel_rfl) (by simp) ?_
        refine AllReadyH.cons (o := ?_) ?_ (fun K hK => ?_) AllReadyH.nil
        rotate_left
        · simp only [List.getElem?_toArray, List.getElem?_cons_zero, List.getElem?_cons_succ]; rfl
        refine step_app11 (.tmp 43) (.tmp 49) rfl (by kernel_rfl) r1 ?_
        refine hK.out _ _ S9 (fun h3 => ?_)
        clear hK K
        (try simp only [Act.put, List.setIfInBounds_toArray, List.set_cons_zero, List.set_cons_succ])
        refine wpAnyH_take (i := 16) (oi := ?_) (v := ?_) ?_ (by kernel_rfl) (by kernel_rfl) (by kernel_rfl) ?_ ?_ h3 ?_
        rotate_left 2
        · simp only [List.getElem?_toArray, List.getElem?_cons_zero, List.getElem?_cons_succ]; rfl
        · exact fun _ _ _ h => h
        · refine Or.inl ⟨by rfl, ?_⟩
          intro w hSw
          (try dsimp only at hSw)
          go_simp
          (try with_reducible rfl)
        (try simp only [Act.put, List.setIfInBounds_toArray, List.set_cons_zero, List.set_cons_succ])
        refine wpAnyH_ready (rs := [17]) (by kernel_rfl) (by simp) ?_
        refine AllReadyH.cons (o := ?_) ?_ (fun K hK => ?_) AllReadyH.nil
        rotate_left
        · simp only [List.getElem?_toArray, List.getElem?_cons_zero, List.getElem?_cons_succ]; rfl
        go_simp
        refine hK.out _ _ S10 (fun h4 => ?_)
        clear hK K
        (try simp only [Act.put, List.setIfInBounds_toArray, List.set_cons_zero, List.set_cons_succ])
        refine wpAnyH_ready (rs := [18]) (by kernel_rfl) (by simp) ?_
        refine AllReadyH.cons (o := ?_) ?_ (fun K hK => ?_) AllReadyH.nil
        rotate_left
        · simp only [List.getElem?_toArray, List.getElem?_cons_zero, List.getElem?_cons_succ]; rfl
        refine step_app11 (.tmp 36) (.tmp 52) rfl (by kernel_rfl) hr ?_
        refine hK.out _ _ S11 (fun h5 => ?_)
        clear hK K
        (try simp only [Act.put, List.setIfInBounds_toArray, List.set_cons_zero, List.set_cons_succ])
        refine wpAnyH_take (i := 19) (oi := ?_) (v := ?_) ?_ (by kernel_rfl) (by kernel_rfl) (by kernel_rfl) ?_ ?_ h5 ?_
        rotate_left 2
        · simp only [List.getElem?_toArray, List.getElem?_cons_zero, List.getElem?_cons_succ]; rfl
        · exact fun _ _ _ h => h
        · refine Or.inl ⟨by rfl, ?_⟩
          intro w hSw
          (try dsimp only at hSw)
          go_simp
          (try with_reducible rfl)
        (try simp only [Act.put, List.setIfInBounds_toArray, List.set_cons_zero, List.set_cons_succ])
        refine wpAnyH_ready (rs := [20]) (by kernel_rfl) (by simp) ?_
        refine AllReadyH.cons (o := ?_) ?_ (fun K hK => ?_) AllReadyH.nil
        rotate_left
        · simp only [List.getElem?_toArray, List.getElem?_cons_zero, List.getElem?_cons_succ]; rfl
        go_simp
        refine hK.out _ _ S12 (fun h6 => ?_)
        clear hK K
        (try simp only [Act.put, List.setIfInBounds_toArray, List.set_cons_zero, List.set_cons_succ])
        refine wpAnyH_done (by kernel_rfl) ?_ _
        refine NoPanic.normal ?_
        clear h0 hr r1
        go_wp2_with fail
        go_roundw
        case rel => exact ⟨k + 1, HLT.out, by go_num, FIN⟩
        case measure => simp [intOf]; omega
      · refine AllReadyH.cons (o := ?_) ?_ (fun K hK => ?_) AllReadyH.nil
        rotate_left
        · simp only [List.getElem?_toArray, List.getElem?_cons_zero, List.getElem?_cons_succ]; rfl
        go_simp
        refine hK.out _ _ S8 (fun h7 => ?_)
        clear hK K
        (try simp only [Act.put, List.setIfInBounds_toArray, List.set_cons_zero, List.set_cons_succ])
        refine wpAnyH_ready (rs := [1, 15]) (by kernel_rfl) (by simp) ?_
        refine AllReadyH.cons (o := ?_) ?_ (fun K hK => ?_) ?_
        rotate_left
        · simp only [List.getElem?_toArray, List.getElem?_cons_zero, List.getElem?_cons_succ]; rfl
        · skip
          go_simp
          refine hK.out _ _ S8 (fun h8 => ?_)
          clear hK K
          (try simp only [Act.put, List.setIfInBounds_toArray, List.set_cons_zero, List.set_cons_succ])
          refine wpAnyH_ready (rs := [15]) (by kernel_rfl) (by simp) ?_
          refine AllReadyH.cons (o := ?_) ?_ (fun K hK => ?_) AllReadyH.nil
          rotate_left
          · simp only [List.getElem?_toArray, List.getElem?_cons_zero, List.getElem?_cons_succ]; rfl
          refine step_app11 (.tmp 43) (.tmp 49) rfl (by kernel_rfl) r1 ?_
          refine hK.out _ _ S9 (fun h9 => ?_)
          clear hK K
          (try simp only [Act.put, List.setIfInBounds_toArray, List.set_cons_zero, List.set_cons_succ])
          refine wpAnyH_take (i := 16) (oi := ?_) (v := ?_) ?_ (by kernel_rfl) (by kernel_rfl) (by kernel_rfl) ?_ ?_ h9 ?_
          rotate_left 2
          · simp only [List.getElem?_toArray, List.getElem?_cons_zero, List.getElem?_cons_succ]; rfl
          · exact fun _ _ _ h => h
          · refine Or.inl ⟨by rfl, ?_⟩
            intro w hSw
            (try dsimp only at hSw)
            go_simp
            (try with_reducible rfl)
          (try simp only [Act.put, List.setIfInBounds_toArray, List.set_cons_zero, List.set_cons_succ])
          refine wpAnyH_ready (rs := [17]) (by kernel_rfl) (by simp) ?_
          refine AllReadyH.cons (o := ?_) ?_ (fun K hK => ?_) AllReadyH.nil
          rotate_left
          · simp only [List.getElem?_toArray, List.getElem?_cons_zero, List.getElem?_cons_succ]; rfl
          go_simp
          refine hK.out _ _ S10 (fun h10 => ?_)
          clear hK K
          (try simp only [Act.put, List.setIfInBounds_toArray, List.set_cons_zero, List.set_cons_succ])
          refine wpAnyH_ready (rs := [18]) (by kernel_rfl) (by simp) ?_
          refine AllReadyH.cons (o := ?_) ?_ (fun K hK => ?_) AllReadyH.nil
          rotate_left
          · simp only [List.getElem?_toArray, List.getElem?_cons_zero, List.getElem?_cons_succ]; rfl
          refine step_app11 (.tmp 36) (.tmp 52) rfl (by kernel_rfl) hr ?_
          refine hK.out _ _ S11 (fun h11 => ?_)
          clear hK K
          (try simp only [Act.put, List.setIfInBounds_toArray, List.set_cons_zero, List.set_cons_succ])
          refine wpAnyH_take (i := 19) (oi := ?_) (v := ?_) ?_ (by kernel_rfl) (by kernel_rfl) (by kernel_rfl) ?_ ?_ h11 ?_
          rotate_left 2
          · simp only [List.getElem?_toArray, List.getElem?_cons_zero, List.getElem?_cons_succ]; rfl
          · exact fun _ _ _ h => h
          · refine Or.inl ⟨by rfl, ?_⟩
            intro w hSw
            (try dsimp only at hSw)
            go_simp
            (try with_reducible rfl)
          (try simp only [Act.put, List.setIfInBounds_toArray, List.set_cons_zero, List.set_cons_succ])
          refine wpAnyH_ready (rs := [20]) (by kernel_rfl) (by simp) ?_
          refine AllReadyH.cons (o := ?_) ?_ (fun K hK => ?_) AllReadyH.nil
          rotate_left
          · simp only [List.getElem?_toArray, List.getElem?_cons_zero, List.getElem?_cons_succ]; rfl
          go_simp
          refine hK.out _ _ S12 (fun h12 => ?_)
          clear hK K
          (try simp only [Act.put, List.setIfInBounds_toArray, List.set_cons_zero, List.set_cons_succ])
          refine wpAnyH_done (by kernel_rfl) ?_ _
          refine NoPanic.normal ?_
          clear h0 hr r1
          go_wp2_with fail
          go_roundw
          case rel => exact ⟨k + 1, HLT.out, by go_num, FIN⟩
          case measure => simp [intOf]; omega
        · refine AllReadyH.cons (o := ?_) ?_ (fun K hK => ?_) AllReadyH.nil
          rotate_left
          · simp only [List.getElem?_toArray, List.getElem?_cons_zero, List.getElem?_cons_succ]; rfl
          refine step_app11 (.tmp 43) (.tmp 49) rfl (by kernel_rfl) r1 ?_
          refine hK.out _ _ S9 (fun h13 => ?_)
          clear hK K
          (try simp only [Act.put, List.setIfInBounds_toArray, List.set_cons_zero, List.set_cons_succ])
          refine wpAnyH_take (i := 16) (oi := ?_) (v := ?_) ?_ (by kernel_rfl) (by kernel_rfl) (by kernel_rfl) ?_ ?_ h13 ?_
          rotate_left 2
          · simp only [List.getElem?_toArray, List.getElem?_cons_zero, List.getElem?_cons_succ]; rfl
          · exact fun _ _ _ h => h
          · refine Or.inl ⟨by rfl, ?_⟩
            intro w hSw
            (try dsimp only at hSw)
            go_simp
            (try with_reducible rfl)
          (try simp only [Act.put, List.setIfInBounds_toArray, List.set_cons_zero, List.set_cons_succ])
          refine wpAnyH_ready (rs := [1, 17]) (by kernel_rfl) (by simp) ?_
          refine AllReadyH.cons (o := ?_) ?_ (fun K hK => ?_) ?_
          rotate_left
          · simp only [List.getElem?_toArray, List.getElem?_cons_zero, List.getElem?_cons_succ]; rfl
          · skip
            go_simp
            refine hK.out _ _ S9 (fun h14 => ?_)
            clear hK K
            (try simp only [Act.put, List.setIfInBounds_toArray, List.set_cons_zero, List.set_cons_succ])
            refine wpAnyH_ready (rs := [17]) (by kernel_rfl) (by simp) ?_
            refine AllReadyH.cons (o := ?_) ?_ (fun K hK => ?_) AllReadyH.nil
            rotate_left
            · simp only [List.getElem?_toArray, List.getElem?_cons_zero, List.getElem?_cons_succ]; rfl
            go_simp
            refine hK.out _ _ S10 (fun h15 => ?_)
            clear hK K
            (try simp only [Act.put, List.setIfInBounds_toArray, List.set_cons_zero, List.set_cons_succ])
            refine wpAnyH_ready (rs := [18]) (by kernel_rfl) (by simp) ?_
            refine AllReadyH.cons (o := ?_) ?_ (fun K hK => ?_) AllReadyH.nil
            rotate_left
            · simp only [List.getElem?_toArray, List.getElem?_cons_zero, List.getElem?_cons_succ]; rfl
            refine step_app11 (.tmp 36) (.tmp 52) rfl (by kernel_rfl) hr ?_
            refine hK.out _ _ S11 (fun h16 => ?_)
            clear hK K
            (try simp only [Act.put, List.setIfInBounds_toArray, List.set_cons_zero, List.set_cons_succ])
            refine wpAnyH_take (i := 19) (oi := ?_) (v := ?_) ?_ (by kernel_rfl) (by kernel_rfl) (by kernel_rfl) ?_ ?_ h16 ?_
            rotate_left 2
            · simp only [List.getElem?_toArray, List.getElem?_cons_zero, List.getElem?_cons_succ]; rfl
            · exact fun _ _ _ h => h
            · refine Or.inl ⟨by rfl, ?_⟩
              intro w hSw
              (try dsimp only at hSw)
              go_simp
              (try with_reducible rfl)
            (try simp only [Act.put, List.setIfInBounds_toArray, List.set_cons_zero, List.set_cons_succ])
            refine wpAnyH_ready (rs := [20]) (by kernel_rfl) (by simp) ?_
            refine AllReadyH.cons (o := ?_) ?_ (fun K hK => ?_) AllReadyH.nil
            rotate_left
            · simp only [List.getElem?_toArray, List.getElem?_cons_zero, List.getElem?_cons_succ]; rfl
            go_simp
            refine hK.out _ _ S12 (fun h17 => ?_)
            clear hK K
            (try simp only [Act.put, List.setIfInBounds_toArray, List.set_cons_zero, List.set_cons_succ])
            refine wpAnyH_done (by kernel_rfl) ?_ _
            refine NoPanic.normal ?_
            clear h0 hr r1
            go_wp2_with fail
            go_roundw
            case rel => exact ⟨k + 1, HLT.out, by go_num, FIN⟩
            case measure => simp [intOf]; omega
          · refine AllReadyH.cons (o := ?_) ?_ (fun K hK => ?_) AllReadyH.nil
            rotate_left
            · simp only [List.getElem?_toArray, List.getElem?_cons_zero, List.getElem?_cons_succ]; rfl
            go_simp
            refine hK.out _ _ S10 (fun h18 => ?_)
            clear hK K
            (try simp only [Act.put, List.setIfInBounds_toArray, List.set_cons_zero, List.set_cons_succ])
            refine wpAnyH_ready (rs := [1]) (by kernel_rfl) (by simp) ?_
            refine AllReadyH.cons (o := ?_) ?_ (fun K hK => ?_) AllReadyH.nil
            rotate_left
            · simp only [List.getElem?_toArray, List.getElem?_cons_zero, List.getElem?_cons_succ]; rfl
            go_simp
            refine hK.out _ _ S10 (fun h19 => ?_)
            clear hK K
            (try simp only [Act.put, List.setIfInBounds_toArray, List.set_cons_zero, List.set_cons_succ])
            refine wpAnyH_ready (rs := [18]) (by kernel_rfl) (by simp) ?_
            refine AllReadyH.cons (o := ?_) ?_ (fun K hK => ?_) AllReadyH.nil
            rotate_left
            · simp only [List.getElem?_toArray, List.getElem?_cons_zero, List.getElem?_cons_succ]; rfl
            refine step_app11 (.tmp 36) (.tmp 52) rfl (by kernel_rfl) hr ?_
            refine hK.out _ _ S11 (fun h20 => ?_)
            clear hK K
            (try simp only [Act.put, List.setIfInBounds_toArray, List.set_cons_zero, List.set_cons_succ])
            refine wpAnyH_take (i := 19) (oi := ?_) (v := ?_) ?_ (by kernel_rfl) (by kernel_rfl) (by kernel_rfl) ?_ ?_ h20 ?_
            rotate_left 2
            · simp only [List.getElem?_toArray, List.getElem?_cons_zero, List.getElem?_cons_succ]; rfl
            · exact fun _ _ _ h => h
            · refine Or.inl ⟨by rfl, ?_⟩
              intro w hSw
              (try dsimp only at hSw)
              go_simp
              (try with_reducible rfl)
            (try simp only [Act.put, List.setIfInBounds_toArray, List.set_cons_zero, List.set_cons_succ])
            refine wpAnyH_ready (rs := [20]) (by kernel_rfl) (by simp) ?_
            refine AllReadyH.cons (o := ?_) ?_ (fun K hK => ?_) AllReadyH.nil
            rotate_left
            · simp only [List.getElem?_toArray, List.getElem?_cons_zero, List.getElem?_cons_succ]; rfl
            go_simp
            refine hK.out _ _ S12 (fun h21 => ?_)
            clear hK K
            (try simp only [Act.put, List.setIfInBounds_toArray, List.set_cons_zero, List.set_cons_succ])
            refine wpAnyH_done (by kernel_rfl) ?_ _
            refine NoPanic.normal ?_
            clear h0 hr r1
            go_wp2_with fail
            go_roundw
            case rel => exact ⟨k + 1, HLT.out, by go_num, FIN⟩
            case measure => simp [intOf]; omega
    · obtain rfl : k = n := by omega
      have hmap' : cl.map tn = l.map tn := by rw [hmap, HN.out, List.take_length]
      have hcl : cl.length = k := by
        have := congrArg List.length hmap'
        rw [List.length_map, List.length_map] at this
        rw [this, HN.out]
      obtain ⟨A1, c1, g, rfl, hov⟩ := hq.over
      have e0 : wr.cell? ⟨Q, 0, none⟩ = some (.slice A1 k c1) := by rw [← hcl]; exact hq.box.cell 0
      have e1 : wr.cell? ⟨Q, 1, none⟩ = some (.slice none 0 0) := hq.box.cell 1
      have q0 : wr.cell? ⟨R, 0, none⟩ = some (.slice A k c) := hq.x.at q0w.out
      obtain ⟨A', c', eA, hsn⟩ := hq.seen
      cases eA
      have okc : ∀ y ∈ cl, y.Ok := fun y hy => (hok y hy).2
      have XW := Lib.hid (X3.out.trans hq.x)
      have HQN := Lib.hid (show V.heap.size ≤ Q ∧ Q < wr.heap.size from ⟨RQ.out, hq.bw⟩)
      have HCL := Lib.hid hcl
      have HOV := Lib.hid hov
      have H60 := Lib.hid (show ∀ y ∈ cl, y.ns.length ≤ 60 from fun y hy => (hok y hy).1)
      obtain ⟨b, hb⟩ : ∃ b, patsB (rd ⟨l, []⟩) = b := ⟨_, rfl⟩
      have hbc : patsB (rd ⟨cl, []⟩) = b := by rw [rd_same hmap', hb]
      have hk310 : k ≤ 1000000 := by omega
      cases b with
      | false =>
        have NEWC := Lib.hid (show Calls Try.prog 16 #[.agg #[.slice A1 k c1, .slice none 0 0]] wr (Ret wr (.tuple #[.pointer none, .int .i64 100])) by
          rw [← hcl]
          exact L11.new_no ⟨cl, []⟩ ⟨A1, c1, none, 0⟩ okc (fun y hy => by simp at hy) wr hsn (by rw [hcl]; exact hk310) (by simp) hbc)
        have NEWL := Lib.hid (fun w' (x : Ext V w') => show Calls Try.prog 16 #[.agg #[.slice A k c, .slice none 0 0]] w' (Ret w' (.tuple #[.pointer none, .int .i64 100])) by
          rw [HN.out]
          exact L11.new_no ⟨l, []⟩ ⟨A, c, none, 0⟩ OKL.out (fun y hy => by simp at hy) w' ⟨SL.out.ext x, SeenW.nil⟩ (by rw [← HN.out]; exact hk310) (by simp) hb)
        clear hq hh hmap hmap' hok okc hsn hov hb hbc hcl
        go_wp2_with fail
        refine NEWC.out.mono ?_; rintro e w5 ⟨rfl, x5⟩
        have q0 := x5.at q0
        have X5 := Lib.hid (XW.out.trans x5)
        clear x5 NEWC e0 e1
        go_wp2_with fail
        refine (NEWL.out _ X5.out).mono ?_; rintro e w6 ⟨rfl, x6⟩
        have X6 := Lib.hid ((HX.out.trans X5.out).trans x6)
        clear x6 NEWL
        go_wp2_with fail
        go_ret
        exact ⟨rfl, X6.out⟩
      | true =>
        have NEWC := Lib.hid (show Calls Try.prog 16 #[.agg #[.slice A1 k c1, .slice none 0 0]] wr (NewQ wr (l.map tn)) by
          rw [← hcl, ← hmap']
          exact L11.new_yes ⟨cl, []⟩ ⟨A1, c1, none, 0⟩ okc (fun y hy => by simp at hy) wr hsn (by rw [hcl]; exact hk310) (by simp) hbc)
        have NEWL := Lib.hid (fun w' (x : Ext V w') => show Calls Try.prog 16 #[.agg #[.slice A k c, .slice none 0 0]] w' (NewQ w' (l.map tn)) by
          rw [HN.out]
          exact L11.new_yes ⟨l, []⟩ ⟨A, c, none, 0⟩ OKL.out (fun y hy => by simp at hy) w' ⟨SL.out.ext x, SeenW.nil⟩ (by rw [← HN.out]; exact hk310) (by simp) hb)
        clear hq hh hmap hmap' hok okc hsn hov hb hbc hcl
        generalize l.map tn = p at *
        go_wp2_with fail
        refine NEWC.out.mono ?_; rintro e w5 ⟨B, F, rfl, x5, T5, hB, hF⟩
        have q0 := x5.at q0
        have X5 := Lib.hid (XW.out.trans x5)
        have OV5 := Lib.hid (HOV.out.keep x5)
        have T5 := Lib.hid T5
        have HBF := Lib.hid (And.intro hB hF)
        clear x5 NEWC e0 e1 hB hF HOV
        go_wp2_with fail
        refine (NEWL.out _ X5.out).mono ?_; rintro e w6 ⟨B2, F2, rfl, x6, T6, hB2, hF2⟩
        have X6 := Lib.hid (X5.out.trans x6)
        have OV6 := Lib.hid (OV5.out.keep x6)
        have DN := Lib.hid (duo_new (N := wr.heap.size) (Nat.le_refl _) T5.out HBF.out.1 HBF.out.2 x6 T6 hB2 hF2)
        have HBB := Lib.hid (show V.heap.size ≤ B ∧ V.heap.size ≤ B2 from by
          have h1 := HBF.out.1
          have h2 := X5.out.size
          have h3 := XW.out.size
          omega)
        clear x6 NEWL T5 T6 hB2 hF2 HBF OV5 q0
        generalize wr.heap.size = N at *
        go_wp2_with fail
        go_loopw [14] (fun x wr => ∃ i : Nat, i ≤ k ∧ x = .int .i64 i ∧ Hid (But (fun b => Q ≤ b ∧ b < N) w6 wr ∧ Over Q N g wr A1 cl c1)) (fun x _ => k - (intOf x).toNat)
        case atStart => exact ⟨0, Nat.zero_le _, rfl, ⟨But.refl _ _, OV6.out⟩⟩
        case round =>
          obtain ⟨wo, rfl⟩ : ∃ wo : World, wo = wr := ⟨_, rfl⟩
          obtain ⟨i, hi, rfl, h7⟩ := hrel
          have b0 : wo.cell? ⟨Q, 0, none⟩ = some (.slice A1 k c1) := by rw [← HCL.out]; exact h7.out.2.box
          by_cases hik : i < k
          · have hic : i < cl.length := by rw [HCL.out]; exact hik
            obtain ⟨eA, hQg, hgN⟩ := h7.out.2.at_ i hic
            obtain ⟨⟨s0, s1⟩, s2⟩ := h7.out.2.str i hic
            have HIK := Lib.hid (show Nat.lt i k from hik)
            have N7 := Lib.hid (show But (fun b => Q ≤ b ∧ b < N) w6 (wo.setCell ⟨g, i * 2, none⟩ (.string ⟨#[122, 122, 122]⟩)) ∧ Over Q N g (wo.setCell ⟨g, i * 2, none⟩ (.string ⟨#[122, 122, 122]⟩)) A1 cl c1 from
              ⟨h7.out.1.trans (But.set (S := fun b => Q ≤ b ∧ b < N) wo ⟨g, i * 2, none⟩ _ ⟨by show Q ≤ g; omega, hgN⟩) (fun j hj => .inl hj), h7.out.2.putS i hic _⟩)
            have HGQ := Lib.hid (show g ≠ Q ∧ Q < g ∧ g < N from ⟨by omega, hQg, hgN⟩)
            subst eA
            clear h7 hQg hgN
            go_upto_region 17 with (fail)
            generalize wo.setCell ⟨g, i * 2, none⟩ (.string ⟨#[122, 122, 122]⟩) = w8 at *
            clear b0 s1 s2
            obtain ⟨y, hy⟩ : ∃ y, y = cl[i] := ⟨_, rfl⟩
            have HMY := Lib.hid (show y ∈ cl by rw [hy]; exact List.getElem_mem _)
            have HSL := Lib.hid (fun (w' : World) (h : Over Q N g w' (some ⟨g, 0, none⟩) cl c1) => show w'.cell? ⟨g, i * 2 + 1, none⟩ = some (.slice y.A y.ns.length y.c) by rw [hy]; exact h.sl i hic)
            have HNM := Lib.hid (fun (w' : World) (h : Over Q N g w' (some ⟨g, 0, none⟩) cl c1) => h.num y HMY.out)
            have hyn := H60.out y HMY.out
            clear hy hic HMY
            generalize y.A = yA at *
            generalize y.ns.length = yn at *
            generalize y.c = yc at *
            clear y
            go_wp2_with fail
            go_loopw [15] (fun x wr => ∃ j : Nat, j ≤ yn ∧ x = .int .i64 j ∧ Hid (But (fun b => Q ≤ b ∧ b < N) w6 wr ∧ Over Q N g wr (some ⟨g, 0, none⟩) cl c1)) (fun x _ => yn - (intOf x).toNat)
            case atStart => exact ⟨0, Nat.zero_le _, rfl, N7⟩
            case round =>
              obtain ⟨j, hj, rfl, h9⟩ := hrel
              have b0 : wr.cell? ⟨Q, 0, none⟩ = some (.slice (some ⟨g, 0, none⟩) k c1) := by rw [← HCL.out]; exact h9.out.2.box
              have b1 := HSL.out wr h9.out.2
              by_cases hjn : j < yn
              · obtain ⟨bn, v, rfl, c0, c0f, hbg, hQb, hbN⟩ := HNM.out wr h9.out.2 j hjn
                obtain ⟨x, hx⟩ : ∃ x, IntKind.i64.wrap (9 - v) = x := ⟨_, rfl⟩
                have N9 := Lib.hid (show But (fun b => Q ≤ b ∧ b < N) w6 (wr.setCell ⟨bn, j, none⟩ (.int .i64 x)).drew ∧ Over Q N g (wr.setCell ⟨bn, j, none⟩ (.int .i64 x)).drew (some ⟨g, 0, none⟩) cl c1 from
                  ⟨(h9.out.1.trans (But.set (S := fun b => Q ≤ b ∧ b < N) wr ⟨bn, j, none⟩ _ ⟨by show Q ≤ bn; omega, hbN⟩) (fun b hb => .inl hb)).drew, (h9.out.2.putN bn j ⟨hbg, hQb⟩ x).keep ((Ext.refl _).drew)⟩)
                have HJN := Lib.hid (show Nat.lt j yn from hjn)
                clear h9 hbg hQb hbN HNM HSL
                go_wp2_with fail
                go_still_tail 18, (by kernel_rfl)
                change wpList _ _ _ _ _ wr.drew
                go_wp2_with fail
                go_roundw
                case rel => exact ⟨j + 1, HJN.out, by go_num, N9⟩
                case measure => simp [intOf]; omega
              · obtain rfl : j = yn := by omega
                go_wp2_with fail
                go_roundw
                case rel => exact ⟨i + 1, HIK.out, by go_num, h9⟩
                case measure => simp [intOf]; omega
          · obtain rfl : i = k := by omega
            have DU := Lib.hid (DN.out _ wo (fun b h => h.2) h7.out.1)
            have X7 := Lib.hid (h7.out.1.ext X6.out (fun b hb => Nat.le_trans HQN.out.1 hb.1))
            clear h7 DN OV6 X6
            go_wp2_with fail
            refine (DU.out.rot.vals s).mono ?_; rintro e w8 ⟨b8, D8, A8, c8, rfl, s8, ha8⟩
            have hm61 := vals_most p s.data.toList
            rw [list_size] at hm61
            generalize hva : valsL p s.data.toList = va at *
            have HVA := Lib.hid hva
            have X8 := Lib.hid (b8.ext X7.out (fun b hb => by rw [show b = B2 from hb]; exact HBB.out.2))
            have SF := Lib.hid (soft_of s8 (fun ad e => (ha8 ad e).2.1))
            have KP := Lib.hid (duo_keep X7.out X8.out D8 ha8)
            have H61 := Lib.hid hm61
            obtain ⟨zv, hzv⟩ : ∃ zv, zv = va.length := ⟨_, rfl⟩
            have HZV := Lib.hid hzv
            rw [← hzv] at SF hm61 ⊢
            have hz61 : zv ≤ 61 := by omega
            clear hva hzv s8 b8 D8 ha8 DU X7 X8 hm61 b0
            go_wp2_with fail
            go_loopw [17] (fun x wr => ∃ j : Nat, j ≤ zv ∧ x = .int .i64 j ∧ Hid (But (Lies A8) w8 wr ∧ Soft wr A8 zv)) (fun x _ => zv - (intOf x).toNat)
            case atStart => exact ⟨0, Nat.zero_le _, rfl, ⟨But.refl _ _, SF.out⟩⟩
            case round =>
              obtain ⟨j, hj, rfl, h9⟩ := hrel
              by_cases hjz : j < zv
              · by_cases hjm : j < m
                · obtain ⟨ad, x, rfl, c0, c0f⟩ := h9.out.2 j hjz
                  have N9 := Lib.hid (show But (Lies (some ad)) w8 (wr.setCell (ad.add j) (.int .i64 7)) ∧ Soft (wr.setCell (ad.add j) (.int .i64 7)) (some ad) zv from
                    ⟨h9.out.1.trans (But.set (S := Lies (some ad)) wr (ad.add j) _ ⟨ad, rfl, by rw [addr_block]⟩) (fun b hb => .inl hb), h9.out.2.put ad j 7⟩)
                  have HJZ := Lib.hid (show Nat.lt j zv from hjz)
                  clear h9
                  go_wp2_with fail
                  go_roundw
                  case rel => exact ⟨j + 1, HJZ.out, by go_num, N9⟩
                  case measure => simp [intOf]; omega
                · obtain ⟨D9, X9⟩ := KP.out wr h9.out.1
                  have LT := Lib.hid D9.lt
                  have D9 := Lib.hid D9
                  have X9 := Lib.hid X9
                  clear h9 KP SF
                  go_wp2_with fail
                  refine (D9.out.rot.vals s).mono ?_; rintro e w10 ⟨b10, D10, A10, c10, rfl, s10, ha10⟩
                  have X10 := Lib.hid (b10.ext X9.out (fun b hb => by rw [show b = B from hb]; exact HBB.out.1))
                  have D10 := Lib.hid D10
                  have S10 := Lib.hid s10
                  have HA10 := Lib.hid (show ∀ ad, A10 = some ad → wr.heap.size ≤ ad.block from fun ad e => (ha10 ad e).1)
                  clear b10 s10 ha10 D9 X9
                  rw [HVA.out] at S10 ⊢
                  rw [← HZV.out]
                  go_wp2_with fail
                  refine (D10.out.rot.vals s).mono ?_; rintro e w11 ⟨b11, D11, A11, c11, rfl, s11, _⟩
                  have X11 := Lib.hid (b11.ext X10.out (fun b hb => by rw [show b = B2 from hb]; exact HBB.out.2))
                  have D11 := Lib.hid D11
                  rw [HVA.out] at s11 ⊢
                  have SM := Lib.hid (same_self c10 c11 (seenL_but S10.out b11 (fun ad e hb => by
                    have h1 := HA10.out ad e
                    have h2 := LT.out
                    have h3 : ad.block = B2 := hb
                    omega)) s11 (by have := H61.out; omega))
                  rw [← HZV.out] at SM ⊢
                  clear b11 s11 S10 D10 X10 HA10
                  go_wp2_with fail
                  refine SM.out.mono ?_; rintro e w12 ⟨rfl, x12⟩
                  have X12 := Lib.hid (X11.out.trans x12)
                  have D12 := Lib.hid (D11.out.ext x12)
                  clear x12 X11 D11 SM
                  go_wp2_with fail
                  refine D12.out.rot.nodes.mono ?_; rintro e w13 ⟨rfl, b13, D13⟩
                  have X13 := Lib.hid (b13.ext X12.out (fun b hb => by rw [show b = B from hb]; exact HBB.out.1))
                  have D13 := Lib.hid D13
                  clear b13 X12 D12
                  generalize hN0 : (nodesL p).length = N0 at *
                  have HN0 := Lib.hid hN0
                  clear hN0
                  go_wp2_with fail
                  refine D13.out.rot.nodes.mono ?_; rintro e w14 ⟨rfl, b14, _⟩
                  rw [HN0.out]
                  have X14 := Lib.hid (HX.out.trans (b14.ext X13.out (fun b hb => by rw [show b = B2 from hb]; exact HBB.out.2)))
                  clear b14 X13 D13
                  go_wp2_with fail
                  go_ret
                  exact ⟨rfl, X14.out⟩
              · obtain ⟨D9, X9⟩ := KP.out wr h9.out.1
                have LT := Lib.hid D9.lt
                have D9 := Lib.hid D9
                have X9 := Lib.hid X9
                clear h9 KP SF
                go_wp2_with fail
                refine (D9.out.rot.vals s).mono ?_; rintro e w10 ⟨b10, D10, A10, c10, rfl, s10, ha10⟩
                have X10 := Lib.hid (b10.ext X9.out (fun b hb => by rw [show b = B from hb]; exact HBB.out.1))
                have D10 := Lib.hid D10
                have S10 := Lib.hid s10
                have HA10 := Lib.hid (show ∀ ad, A10 = some ad → wr.heap.size ≤ ad.block from fun ad e => (ha10 ad e).1)
                clear b10 s10 ha10 D9 X9
                rw [HVA.out] at S10 ⊢
                rw [← HZV.out]
                go_wp2_with fail
                refine (D10.out.rot.vals s).mono ?_; rintro e w11 ⟨b11, D11, A11, c11, rfl, s11, _⟩
                have X11 := Lib.hid (b11.ext X10.out (fun b hb => by rw [show b = B2 from hb]; exact HBB.out.2))
                have D11 := Lib.hid D11
                rw [HVA.out] at s11 ⊢
                have SM := Lib.hid (same_self c10 c11 (seenL_but S10.out b11 (fun ad e hb => by
                  have h1 := HA10.out ad e
                  have h2 := LT.out
                  have h3 : ad.block = B2 := hb
                  omega)) s11 (by have := H61.out; omega))
                rw [← HZV.out] at SM ⊢
                clear b11 s11 S10 D10 X10 HA10
                go_wp2_with fail
                refine SM.out.mono ?_; rintro e w12 ⟨rfl, x12⟩
                have X12 := Lib.hid (X11.out.trans x12)
                have D12 := Lib.hid (D11.out.ext x12)
                clear x12 X11 D11 SM
                go_wp2_with fail
                refine D12.out.rot.nodes.mono ?_; rintro e w13 ⟨rfl, b13, D13⟩
                have X13 := Lib.hid (b13.ext X12.out (fun b hb => by rw [show b = B from hb]; exact HBB.out.1))
                have D13 := Lib.hid D13
                clear b13 X12 D12
                generalize hN0 : (nodesL p).length = N0 at *
                have HN0 := Lib.hid hN0
                clear hN0
                go_wp2_with fail
                refine D13.out.rot.nodes.mono ?_; rintro e w14 ⟨rfl, b14, _⟩
                rw [HN0.out]
                have X14 := Lib.hid (HX.out.trans (b14.ext X13.out (fun b hb => by rw [show b = B2 from hb]; exact HBB.out.2)))
                clear b14 X13 D13
                go_wp2_with fail
                go_ret
                exact ⟨rfl, X14.out⟩
set_option maxRecDepth 100000 in
/-- The other ways out. -/
theorem short (D : PatsD) (P : PatsP) (s : ByteArray) (m : Nat) (w : World) (sn : SeenPats w D P) (h : fewD D = false ∨ 60 < s.size) :
    Calls Try.prog 8 #[patsV D P, .string s, .int .u8 m] w (Ret w (.bool true)) := by
  obtain ⟨V, hV⟩ : ∃ V, V = w.alloc (.cells #[.slice P.x D.l.length P.c, .slice P.y D.m.length P.d] 37) := ⟨_, rfl⟩
  have W0 : Ext w V := by rw [hV]; exact (Ext.refl _).alloc _
  have kB : Blk V w.heap.size 37 [.slice P.x D.l.length P.c, .slice P.y D.m.length P.d] := by rw [hV]; exact Blk.lit _ _ _ _ rfl
  obtain ⟨b, hb⟩ : ∃ b, fewD D = b := ⟨_, rfl⟩
  have FEW := Lib.hid (fun w' (x : Ext V w') => by have := fewp_any D P w' ((sn.ext W0).ext x); rw [hb] at this; exact this)
  have HB := Lib.hid (show b = false ∨ (b = true ∧ 60 < s.size) by
    cases b with
    | false => exact .inl rfl
    | true => exact .inr ⟨rfl, h.elim (fun e => by rw [hb] at e; cases e) id⟩)
  have AW := Lib.hid (awake_any V)
  unfold patsV at FEW ⊢
  have HX := Lib.hid W0
  clear sn hb h W0
  generalize D.l.length = n at *
  generalize D.m.length = q at *
  obtain ⟨A, c, A2, d⟩ := P
  dsimp only at *
  go_enter Try.func8, Try.ntmps8
  go_upto_region 1 with (fail)
  rw [← hV]
  clear hV
  generalize w.heap.size = R at *
  go_wp2_with fail
  refine AW.out.mono ?_; rintro e w1 ⟨rfl, x1⟩
  have q0 : w1.cell? ⟨R, 0, none⟩ = some (.slice A n c) := (kB.ext x1).cell 0
  have q1 : w1.cell? ⟨R, 1, none⟩ = some (.slice A2 q d) := (kB.ext x1).cell 1
  go_wp2_with fail
  refine (FEW.out _ x1).mono ?_; rintro e w2 ⟨rfl, x2⟩
  have FIN := Lib.hid (show Ext w w2 from (HX.out.trans x1).trans x2)
  rcases HB.out with rfl | ⟨rfl, hs⟩
  · clear x1 x2
    go_wp2_with fail
    go_ret
    exact ⟨rfl, FIN.out⟩
  · clear x1 x2
    go_wp2_with fail
    go_ret
    exact ⟨rfl, FIN.out⟩
theorem walk (D : PatsD) (P : PatsP) (ok : PatsOk D P) (s : ByteArray) (_ : s.size ≤ maxLen) (z : Int) (hz : 0 ≤ z ∧ z ≤ 255) (w : World) (sn : SeenPats w D P) :
    Calls Try.prog 8 #[patsV D P, .string s, .int .u8 z] w (Ret w (.bool true)) := by
  obtain ⟨m, rfl⟩ := Int.eq_ofNat_of_zero_le hz.1
  cases hf : fewD D with
  | false => exact short D P s m w sn (.inl hf)
  | true =>
    by_cases hs : s.size ≤ 60
    · exact main D P ok s hs m (by omega) w sn hf
    · exact short D P s m w sn (.inr (by omega))

set_option maxRecDepth 100000 in
theorem lifted (os : Os) (started : os.Started) (H : Type) (enc : TypeId × Value → H) :
    ReturnsInHanded {} Try.checked os 8 .any (Rows.trieCopiesSpec.pre6 enc Try.prog Try.f8 [] false) (Rows.trieCopiesSpec.post enc Try.prog Try.f8 false true false false) := by
  refine law_lift (C := Try.checked) own started (by kernel_rfl) Try.func8 laidOut rfl rfl Try.underlying4 (by kernel_rfl) ?_
    (ChangeSpec.witness6 (enc := enc) (C := Try.checked) false ⟨#[], #[.agg #[.slice none 0 0, .slice none 0 0], .string ByteArray.empty, .int .u8 0], []⟩ 8 (by kernel_rfl) (by kernel_rfl) (by kernel_rfl) (by kernel_rfl)) ?_
  · intro H ds h
    match ds, h with
    | [_, _, _], _ => rfl
  · intro W base args ds p hval hA hlt hwt hsh
    rw [Try.params8] at hA hval
    obtain ⟨v0, vs0, d0, ds0, p0, q0, hargs, rfl, rfl, h0, r0⟩ := trodAll_cons hA
    obtain ⟨v1, vs1, d1, ds1, p1, q1, rfl, rfl, rfl, h1, r1⟩ := trodAll_cons r0
    obtain ⟨v2, vs2, d2, ds2, p2, q2, rfl, rfl, rfl, h2, r2⟩ := trodAll_cons r1
    obtain ⟨rfl, rfl, rfl⟩ := trodAll_nil r2
    obtain rfl : args = #[v0, v1, v2] := by cases args; simp_all
    obtain ⟨D0, P0, rfl, ok0, hs0⟩ := arg_pats (hval 0 37 v0 rfl rfl) h0
    obtain ⟨a1, rfl, rfl, rfl, hs1⟩ := Go.ChangeMaps.open_string Try.underlying9 (hval 1 9 v1 rfl rfl) h1
    obtain ⟨a2, rfl, rfl, rfl, wf2⟩ := open_int Try.underlying5 (hval 2 5 v2 rfl rfl) h2
    exact walk D0 P0 ok0 a1 hs1 a2 (bounds_u8 wf2) W hs0

theorem holds : Rows.TrieCopiesSaid :=
  OpenClaim.holds_of_wide 8 Try.f8 rfl rfl rfl rfl rfl rfl rfl ⟨rfl, rfl, rfl, rfl, rfl⟩ rfl rfl rfl rfl rfl (by kernel_rfl) Try.func8 (by kernel_rfl)
    (of_decide_eq_true (by kernel_rfl)) (by unfold Func.isWrapper; first | (rw [if_pos (by decide +kernel)]; kernel_rfl) | (rw [if_neg (by decide +kernel)]; exact ⟨rfl, rfl⟩))
    (fun os started H enc _ => lifted os started H enc)
end TrieCopies
end Go.Proofs.Ytfdoohangemojaa

