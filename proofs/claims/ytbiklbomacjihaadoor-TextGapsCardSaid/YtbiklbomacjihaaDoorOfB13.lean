/- The document's of, layer 13: a word of bytes. Written by gen13/of.py. -/
import Derived.Test.YtbiklbomacjihaaDoorOfA13
import Derived.Deep.RegionHeld3
namespace Go.Proofs.YtbiklbomacjihaaDoor
open Go.RowKit
namespace L13

/-- An append whose run is known, in a region that draws its order. -/
theorem step_app13 {P : Program} {ops : Array Oper} {o : Oper} {a : Act} {w w' : World} {K : Act → World → Prop} {Q : Exit → Act → World → Prop} {E : Prop} {t : TypeId} {v : Value} (s x : Operand)
    (ho : o.op = .call { callee := .builtin .append, args := #[s, x], argTypes := #[t, t] }) (hw : Region.wanted o (yielded ops a.tmps) = true) (hrun : (Builtin.append_ #[t, t] o.type #[a.eval s, a.eval x]).run P w = .ok v w')
    (h : K (a.put o.dst v) w') : if Region.wanted o (yielded ops a.tmps) = true then Oper.wp P o a w K Q else E := by
  rw [if_pos hw]
  unfold Oper.wp execOp
  simp only [ho, resolve, invoke, builtin, Sem.run_bind, Sem.run_pure, Result.andThen_ok, List.map_toArray, List.map_cons, List.map_nil, hrun]
  exact h
set_option maxRecDepth 100000 in
set_option maxHeartbeats 8000000 in
theorem rof_any (A : Option Addr) (l : List UInt8) (n c : Nat) (w : World) (hs : SeenB w A l) (hn : n = l.length) (hm : n ≤ 100000) : Calls Tryd.prog 22 #[.slice A n c] w (OfQ w (ofL l)) := by
  obtain ⟨V, hV⟩ : ∃ V, V = (w.alloc (.cells #[.slice none 0 0, .slice none 0 0] 36)).alloc (.cells #[.slice none 0 0, .slice none 0 0] 36) := ⟨_, rfl⟩
  have START := Lib.hid (Of.start w V hV)
  have SB := Lib.hid hs
  have HN := Lib.hid hn
  clear hs hn
  go_enter Tryd.func22, Tryd.ntmps22
  go_upto_region 2 with (fail)
  rw [← hV]
  clear hV
  go_wp2_with fail
  go_loopw [5] (fun i wr => ∃ (k : Nat) (va vb : Value) (cs ss : List Int), i = .int .i64 k ∧ k ≤ n ∧ Hid (Of w wr va vb cs ss) ∧ Hid (OfR l k cs ss)) (fun i _ => n - (intOf i).toNat)
  case atStart => exact ⟨0, _, _, [], [], rfl, Nat.zero_le _, START, Lib.hid (OfR.start l)⟩
  case round =>
    obtain ⟨k, va, vb, cs, ss, rfl, hk, hof, orr⟩ := hrel
    have hck : cs.length ≤ k := orr.out.2.2.2.1
    have hsk : ss.length ≤ k := orr.out.2.2.2.2
    by_cases hlt : k < n
    · have hlt' : k < l.length := by rw [← HN.out]; exact hlt
      obtain ⟨ad, rfl, _, b0⟩ := (SB.out.ext hof.out.x).get hlt'
      have BK := Lib.hid (fun w' (x : Ext w w') => show w'.cell? (ad.add k) = some (.int .u8 (l[k].toNat : Int)) by
        obtain ⟨ad', e, _, h⟩ := (SB.out.ext x).get hlt'
        cases e
        exact h)
      have hk64 : (k : Int) < (n : Int) := by omega
      by_cases e1 : l[k] = 194
      · obtain ⟨j, hj⟩ : ∃ j, j = k + 1 := ⟨_, rfl⟩
        have wk : IntKind.i64.wrap ((k : Int) + 1) = (j : Int) := by rw [IntWalk.i64_in _ (by omega)]; omega
        have wk' : wrap64 ((k : Int) + 1) = (j : Int) := by rw [IntWalk.wrap64_in _ (by omega)]; omega
        have HJ := Lib.hid hj
        by_cases h1 : j < n
        · have h1' : j < l.length := by rw [← HN.out]; exact h1
          have h164 : (j : Int) < (n : Int) := by omega
          obtain ⟨ad', e, _, b1⟩ := (SB.out.ext hof.out.x).get h1'
          cases e
          by_cases e2 : l[j] = 173
          · have R2 := Lib.hid (show OfR l (j + 1) cs (ss ++ [(cs.length : Int)]) by subst hj; exact orr.out.soft h1' e1 e2)
            rw [e1, show ((194 : UInt8).toNat : Int) = 194 from rfl] at b0
            rw [e2, show ((173 : UInt8).toNat : Int) = 173 from rfl] at b1
            obtain ⟨v9, w9, hr, k9, of9, _⟩ := hof.out.place (cs.length : Int) (by omega) 34
            obtain ⟨A9, n9, c9, rfl⟩ : ∃ A9 n9 c9, v9 = .slice A9 n9 c9 := by obtain ⟨_, _, A9, c9, _, e9, _⟩ := of9.look; exact ⟨_, _, _, e9⟩
            have q0 : wr.cell? ⟨w.heap.size + 1, 0, none⟩ = some va := hof.out.b1.cell 0
            have q1 : wr.cell? ⟨w.heap.size + 1, 1, none⟩ = some vb := hof.out.b1.cell 1
            have g9 : w9.cell? ⟨w.heap.size + 1, 1, none⟩ = some vb := k9.cell 1
            have f9 : w9.frozen? ⟨w.heap.size + 1, 1, none⟩ = false := k9.free 1
            obtain ⟨A1, c1, B1, d1, rfl, rfl, _, _, _, _, _, _⟩ := hof.out.look
            have OF9 := Lib.hid of9
            have HW := Lib.hid (show w.heap.size + 1 < wr.heap.size by have := hof.out.two; omega)
            have hj2 : (j : Int) + 1 ≤ (n : Int) := by omega
            clear of9 k9 hof orr BK hj e1 e2
            go_wp2_with (first | (at_builtin; refine wpList_ran rfl _ _ rfl hr ?_) | fail)
            go_roundw
            case rel => exact ⟨j + 1, .slice A1 cs.length c1, .slice A9 n9 c9, cs, ss ++ [(cs.length : Int)], by go_num, by omega, OF9, R2⟩
            case measure => have hj := HJ.out; simp [intOf]; omega
          · have HNO := Lib.hid (fun h2 : k + 1 < l.length => show ¬ (l[k] = 194 ∧ l[k + 1] = 173) from fun e => e2 (by subst hj; exact e.2))
            have NZ : ¬ (l[j].toNat : Int) = 173 := fun e => e2 (UInt8.toNat_inj.1 (by rw [show (173 : UInt8).toNat = 173 from rfl]; omega))
            generalize (l[j].toNat : Int) = y at *
            clear hj e2
            have hz : (l[k].toNat : Int) = 194 := by rw [e1]; rfl
            have wz : IntKind.i64.wrap 194 = 194 := by decide
            have R2 := Lib.hid (orr.out.code hlt' HNO.out)
            rw [hz] at R2 b0
            rw [← HJ.out] at R2
            have OF7 : Of w wr.drew va vb cs ss := hof.out.kept ((Ext.refl wr).drew)
            obtain ⟨v9, w9, hr, k9, of9, bg9⟩ := OF7.code 194 (by omega) 34
            obtain ⟨A9, n9, c9, rfl⟩ : ∃ A9 n9 c9, v9 = .slice A9 n9 c9 := by obtain ⟨A9, c9, _, _, e9, _⟩ := of9.look; exact ⟨_, _, _, e9⟩
            have X9 : Ext w w9 := bg9.ext (OF7.x.alloc _) (fun i e => by have := (OF7.a.lt i e).1; omega)
            have S7 := BK.out _ OF7.x
            have S8 := BK.out _ (OF7.x.alloc (.cells #[.int .i64 194] 3))
            have S9 := BK.out _ X9
            have S10 := BK.out _ of9.x
            rw [hz] at S7 S8 S9 S10
            have c7 : wr.drew.cell? ⟨w.heap.size + 1, 0, none⟩ = some va := OF7.b1.cell 0
            have d7 : (wr.drew.alloc (.cells #[.int .i64 194] 3)).cell? ⟨w.heap.size + 1, 0, none⟩ = some va := (OF7.b1.ext ((Ext.refl _).alloc _)).cell 0
            have g9 : w9.cell? ⟨w.heap.size + 1, 0, none⟩ = some va := k9.cell 0
            have f9 : w9.frozen? ⟨w.heap.size + 1, 0, none⟩ = false := k9.free 0
            have OF9 := Lib.hid of9
            clear OF7 of9 bg9 X9 k9 hof orr HNO hz BK
            go_wp2_with fail
            refine wp_region_noPanic ?_
            refine wp_region_held_drew (S := (fun w' => w'.cell? (ad.add k) = some (.int .u8 194))) (by kernel_rfl) S7 (fun h0 => ?_)
            generalize wr.drew = W7 at *
            refine wpAnyH_take (i := 0) (oi := ?_) (v := ?_) ?_ (by kernel_rfl) (by kernel_rfl) (by kernel_rfl) ?_ ?_ h0 ?_
            rotate_left 2
            · simp only [List.getElem?_toArray, List.getElem?_cons_zero]; rfl
            · exact fun _ _ _ h => h
            · refine Or.inl ⟨by rfl, ?_⟩
              intro w hSw
              (try dsimp only at hSw)
              go_simp
              (try with_reducible rfl)
            (try simp only [Act.put, List.setIfInBounds_toArray, List.set_cons_zero, List.set_cons_succ])
            refine wpAnyH_take (i := 2) (oi := ?_) (v := ?_) ?_ (by kernel_rfl) (by kernel_rfl) (by kernel_rfl) ?_ ?_ h0 ?_
            rotate_left 2
            · simp only [List.getElem?_toArray, List.getElem?_cons_zero, List.getElem?_cons_succ]; rfl
            · exact fun _ _ _ h => h
            · refine Or.inl ⟨by rfl, ?_⟩
              intro w hSw
              (try dsimp only at hSw)
              go_simp
              (try with_reducible rfl)
            (try simp only [Act.put, List.setIfInBounds_toArray, List.set_cons_zero, List.set_cons_succ])
            refine wpAnyH_take (i := 3) (oi := ?_) (v := ?_) ?_ (by kernel_rfl) (by kernel_rfl) (by kernel_rfl) ?_ ?_ h0 ?_
            rotate_left 2
            · simp only [List.getElem?_toArray, List.getElem?_cons_zero, List.getElem?_cons_succ]; rfl
            · exact fun _ _ _ h => h
            · refine Or.inl ⟨by rfl, ?_⟩
              intro w hSw
              (try dsimp only at hSw)
              go_simp
              (try with_reducible rfl)
            (try simp only [Act.put, List.setIfInBounds_toArray, List.set_cons_zero, List.set_cons_succ])
            refine wpAnyH_take (i := 4) (oi := ?_) (v := ?_) ?_ (by kernel_rfl) (by kernel_rfl) (by kernel_rfl) ?_ ?_ h0 ?_
            rotate_left 2
            · simp only [List.getElem?_toArray, List.getElem?_cons_zero, List.getElem?_cons_succ]; rfl
            · exact fun _ _ _ h => h
            · refine Or.inl ⟨by rfl, ?_⟩
              intro w hSw
              (try dsimp only at hSw)
              go_simp
              (try with_reducible rfl)
            (try simp only [Act.put, List.setIfInBounds_toArray, List.set_cons_zero, List.set_cons_succ])
            refine wpAnyH_take (i := 5) (oi := ?_) (v := ?_) ?_ (by kernel_rfl) (by kernel_rfl) (by kernel_rfl) ?_ ?_ h0 ?_
            rotate_left 2
            · simp only [List.getElem?_toArray, List.getElem?_cons_zero, List.getElem?_cons_succ]; rfl
            · exact fun _ _ _ h => h
            · refine Or.inl ⟨by rfl, ?_⟩
              intro w hSw
              (try dsimp only at hSw)
              go_simp
              (try with_reducible rfl)
            (try simp only [Act.put, List.setIfInBounds_toArray, List.set_cons_zero, List.set_cons_succ])
            refine wpAnyH_take (i := 6) (oi := ?_) (v := ?_) ?_ (by kernel_rfl) (by kernel_rfl) (by kernel_rfl) ?_ ?_ h0 ?_
            rotate_left 2
            · simp only [List.getElem?_toArray, List.getElem?_cons_zero, List.getElem?_cons_succ]; rfl
            · exact fun _ _ _ h => h
            · refine Or.inl ⟨by rfl, ?_⟩
              intro w hSw
              (try dsimp only at hSw)
              go_simp
              (try with_reducible rfl)
            (try simp only [Act.put, List.setIfInBounds_toArray, List.set_cons_zero, List.set_cons_succ])
            refine wpAnyH_ready (rs := [1, 7]) (by kernel_rfl) (by simp) ?_
            refine AllReadyH.cons (o := ?_) ?_ (fun K hK => ?_) ?_
            rotate_left
            · simp only [List.getElem?_toArray, List.getElem?_cons_zero, List.getElem?_cons_succ]; rfl
            · skip
              go_simp
              refine hK.out _ _ S7 (fun h1 => ?_)
              clear hK K
              (try simp only [Act.put, List.setIfInBounds_toArray, List.set_cons_zero, List.set_cons_succ])
              refine wpAnyH_ready (rs := [7]) (by kernel_rfl) (by simp) ?_
              refine AllReadyH.cons (o := ?_) ?_ (fun K hK => ?_) AllReadyH.nil
              rotate_left
              · simp only [List.getElem?_toArray, List.getElem?_cons_zero, List.getElem?_cons_succ]; rfl
              go_simp
              refine hK.out _ _ S8 (fun h2 => ?_)
              clear hK K
              (try simp only [Act.put, List.setIfInBounds_toArray, List.set_cons_zero, List.set_cons_succ])
              refine wpAnyH_ready (rs := [8]) (by kernel_rfl) (by simp) ?_
              refine AllReadyH.cons (o := ?_) ?_ (fun K hK => ?_) AllReadyH.nil
              rotate_left
              · simp only [List.getElem?_toArray, List.getElem?_cons_zero, List.getElem?_cons_succ]; rfl
              refine step_app13 (.tmp 45) (.tmp 51) rfl (by kernel_rfl) hr ?_
              refine hK.out _ _ S9 (fun h8 => ?_)
              clear hK K
              (try simp only [Act.put, List.setIfInBounds_toArray, List.set_cons_zero, List.set_cons_succ])
              refine wpAnyH_take (i := 9) (oi := ?_) (v := ?_) ?_ (by kernel_rfl) (by kernel_rfl) (by kernel_rfl) ?_ ?_ h8 ?_
              rotate_left 2
              · simp only [List.getElem?_toArray, List.getElem?_cons_zero, List.getElem?_cons_succ]; rfl
              · exact fun _ _ _ h => h
              · refine Or.inl ⟨by rfl, ?_⟩
                intro w hSw
                (try dsimp only at hSw)
                go_simp
                (try with_reducible rfl)
              (try simp only [Act.put, List.setIfInBounds_toArray, List.set_cons_zero, List.set_cons_succ])
              refine wpAnyH_ready (rs := [10]) (by kernel_rfl) (by simp) ?_
              refine AllReadyH.cons (o := ?_) ?_ (fun K hK => ?_) AllReadyH.nil
              rotate_left
              · simp only [List.getElem?_toArray, List.getElem?_cons_zero, List.getElem?_cons_succ]; rfl
              go_simp
              refine hK.out _ _ S10 (fun h10 => ?_)
              clear hK K
              (try simp only [Act.put, List.setIfInBounds_toArray, List.set_cons_zero, List.set_cons_succ])
              refine wpAnyH_done (by kernel_rfl) ?_ _
              refine NoPanic.normal ?_
              clear h0 h1 h2 h8 h10 hr
              go_wp2_with fail
              go_roundw
              case rel => exact ⟨j, .slice A9 n9 c9, vb, cs ++ [194], ss, by go_num, by omega, OF9, R2⟩
              case measure => have hj := HJ.out; simp [intOf]; omega
            · refine AllReadyH.cons (o := ?_) ?_ (fun K hK => ?_) AllReadyH.nil
              rotate_left
              · simp only [List.getElem?_toArray, List.getElem?_cons_zero, List.getElem?_cons_succ]; rfl
              go_simp
              refine hK.out _ _ S8 (fun h1 => ?_)
              clear hK K
              (try simp only [Act.put, List.setIfInBounds_toArray, List.set_cons_zero, List.set_cons_succ])
              refine wpAnyH_ready (rs := [1]) (by kernel_rfl) (by simp) ?_
              refine AllReadyH.cons (o := ?_) ?_ (fun K hK => ?_) AllReadyH.nil
              rotate_left
              · simp only [List.getElem?_toArray, List.getElem?_cons_zero, List.getElem?_cons_succ]; rfl
              go_simp
              refine hK.out _ _ S8 (fun h2 => ?_)
              clear hK K
              (try simp only [Act.put, List.setIfInBounds_toArray, List.set_cons_zero, List.set_cons_succ])
              refine wpAnyH_ready (rs := [8]) (by kernel_rfl) (by simp) ?_
              refine AllReadyH.cons (o := ?_) ?_ (fun K hK => ?_) AllReadyH.nil
              rotate_left
              · simp only [List.getElem?_toArray, List.getElem?_cons_zero, List.getElem?_cons_succ]; rfl
              refine step_app13 (.tmp 45) (.tmp 51) rfl (by kernel_rfl) hr ?_
              refine hK.out _ _ S9 (fun h8 => ?_)
              clear hK K
              (try simp only [Act.put, List.setIfInBounds_toArray, List.set_cons_zero, List.set_cons_succ])
              refine wpAnyH_take (i := 9) (oi := ?_) (v := ?_) ?_ (by kernel_rfl) (by kernel_rfl) (by kernel_rfl) ?_ ?_ h8 ?_
              rotate_left 2
              · simp only [List.getElem?_toArray, List.getElem?_cons_zero, List.getElem?_cons_succ]; rfl
              · exact fun _ _ _ h => h
              · refine Or.inl ⟨by rfl, ?_⟩
                intro w hSw
                (try dsimp only at hSw)
                go_simp
                (try with_reducible rfl)
              (try simp only [Act.put, List.setIfInBounds_toArray, List.set_cons_zero, List.set_cons_succ])
              refine wpAnyH_ready (rs := [10]) (by kernel_rfl) (by simp) ?_
              refine AllReadyH.cons (o := ?_) ?_ (fun K hK => ?_) AllReadyH.nil
              rotate_left
              · simp only [List.getElem?_toArray, List.getElem?_cons_zero, List.getElem?_cons_succ]; rfl
              go_simp
              refine hK.out _ _ S10 (fun h10 => ?_)
              clear hK K
              (try simp only [Act.put, List.setIfInBounds_toArray, List.set_cons_zero, List.set_cons_succ])
              refine wpAnyH_done (by kernel_rfl) ?_ _
              refine NoPanic.normal ?_
              clear h0 h1 h2 h8 h10 hr
              go_wp2_with fail
              go_roundw
              case rel => exact ⟨j, .slice A9 n9 c9, vb, cs ++ [194], ss, by go_num, by omega, OF9, R2⟩
              case measure => have hj := HJ.out; simp [intOf]; omega
        · have HNO := Lib.hid (fun h2 : k + 1 < l.length => show ¬ (l[k] = 194 ∧ l[k + 1] = 173) from fun e => h1 (by rw [HN.out, hj]; exact h2))
          have NZ : ¬ (j : Int) < (n : Int) := by omega
          have hjn : j ≤ n := by omega
          clear hj
          have hz : (l[k].toNat : Int) = 194 := by rw [e1]; rfl
          have wz : IntKind.i64.wrap 194 = 194 := by decide
          have R2 := Lib.hid (orr.out.code hlt' HNO.out)
          rw [hz] at R2 b0
          rw [← HJ.out] at R2
          have OF7 : Of w wr.drew va vb cs ss := hof.out.kept ((Ext.refl wr).drew)
          obtain ⟨v9, w9, hr, k9, of9, bg9⟩ := OF7.code 194 (by omega) 34
          obtain ⟨A9, n9, c9, rfl⟩ : ∃ A9 n9 c9, v9 = .slice A9 n9 c9 := by obtain ⟨A9, c9, _, _, e9, _⟩ := of9.look; exact ⟨_, _, _, e9⟩
          have X9 : Ext w w9 := bg9.ext (OF7.x.alloc _) (fun i e => by have := (OF7.a.lt i e).1; omega)
          have S7 := BK.out _ OF7.x
          have S8 := BK.out _ (OF7.x.alloc (.cells #[.int .i64 194] 3))
          have S9 := BK.out _ X9
          have S10 := BK.out _ of9.x
          rw [hz] at S7 S8 S9 S10
          have c7 : wr.drew.cell? ⟨w.heap.size + 1, 0, none⟩ = some va := OF7.b1.cell 0
          have d7 : (wr.drew.alloc (.cells #[.int .i64 194] 3)).cell? ⟨w.heap.size + 1, 0, none⟩ = some va := (OF7.b1.ext ((Ext.refl _).alloc _)).cell 0
          have g9 : w9.cell? ⟨w.heap.size + 1, 0, none⟩ = some va := k9.cell 0
          have f9 : w9.frozen? ⟨w.heap.size + 1, 0, none⟩ = false := k9.free 0
          have OF9 := Lib.hid of9
          clear OF7 of9 bg9 X9 k9 hof orr HNO hz BK
          go_wp2_with fail
          refine wp_region_noPanic ?_
          refine wp_region_held_drew (S := (fun w' => w'.cell? (ad.add k) = some (.int .u8 194))) (by kernel_rfl) S7 (fun h0 => ?_)
          generalize wr.drew = W7 at *
          refine wpAnyH_take (i := 0) (oi := ?_) (v := ?_) ?_ (by kernel_rfl) (by kernel_rfl) (by kernel_rfl) ?_ ?_ h0 ?_
          rotate_left 2
          · simp only [List.getElem?_toArray, List.getElem?_cons_zero]; rfl
          · exact fun _ _ _ h => h
          · refine Or.inl ⟨by rfl, ?_⟩
            intro w hSw
            (try dsimp only at hSw)
            go_simp
            (try with_reducible rfl)
          (try simp only [Act.put, List.setIfInBounds_toArray, List.set_cons_zero, List.set_cons_succ])
          refine wpAnyH_take (i := 2) (oi := ?_) (v := ?_) ?_ (by kernel_rfl) (by kernel_rfl) (by kernel_rfl) ?_ ?_ h0 ?_
          rotate_left 2
          · simp only [List.getElem?_toArray, List.getElem?_cons_zero, List.getElem?_cons_succ]; rfl
          · exact fun _ _ _ h => h
          · refine Or.inl ⟨by rfl, ?_⟩
            intro w hSw
            (try dsimp only at hSw)
            go_simp
            (try with_reducible rfl)
          (try simp only [Act.put, List.setIfInBounds_toArray, List.set_cons_zero, List.set_cons_succ])
          refine wpAnyH_take (i := 3) (oi := ?_) (v := ?_) ?_ (by kernel_rfl) (by kernel_rfl) (by kernel_rfl) ?_ ?_ h0 ?_
          rotate_left 2
          · simp only [List.getElem?_toArray, List.getElem?_cons_zero, List.getElem?_cons_succ]; rfl
          · exact fun _ _ _ h => h
          · refine Or.inl ⟨by rfl, ?_⟩
            intro w hSw
            (try dsimp only at hSw)
            go_simp
            (try with_reducible rfl)
          (try simp only [Act.put, List.setIfInBounds_toArray, List.set_cons_zero, List.set_cons_succ])
          refine wpAnyH_take (i := 4) (oi := ?_) (v := ?_) ?_ (by kernel_rfl) (by kernel_rfl) (by kernel_rfl) ?_ ?_ h0 ?_
          rotate_left 2
          · simp only [List.getElem?_toArray, List.getElem?_cons_zero, List.getElem?_cons_succ]; rfl
          · exact fun _ _ _ h => h
          · refine Or.inl ⟨by rfl, ?_⟩
            intro w hSw
            (try dsimp only at hSw)
            go_simp
            (try with_reducible rfl)
          (try simp only [Act.put, List.setIfInBounds_toArray, List.set_cons_zero, List.set_cons_succ])
          refine wpAnyH_take (i := 5) (oi := ?_) (v := ?_) ?_ (by kernel_rfl) (by kernel_rfl) (by kernel_rfl) ?_ ?_ h0 ?_
          rotate_left 2
          · simp only [List.getElem?_toArray, List.getElem?_cons_zero, List.getElem?_cons_succ]; rfl
          · exact fun _ _ _ h => h
          · refine Or.inl ⟨by rfl, ?_⟩
            intro w hSw
            (try dsimp only at hSw)
            go_simp
            (try with_reducible rfl)
          (try simp only [Act.put, List.setIfInBounds_toArray, List.set_cons_zero, List.set_cons_succ])
          refine wpAnyH_take (i := 6) (oi := ?_) (v := ?_) ?_ (by kernel_rfl) (by kernel_rfl) (by kernel_rfl) ?_ ?_ h0 ?_
          rotate_left 2
          · simp only [List.getElem?_toArray, List.getElem?_cons_zero, List.getElem?_cons_succ]; rfl
          · exact fun _ _ _ h => h
          · refine Or.inl ⟨by rfl, ?_⟩
            intro w hSw
            (try dsimp only at hSw)
            go_simp
            (try with_reducible rfl)
          (try simp only [Act.put, List.setIfInBounds_toArray, List.set_cons_zero, List.set_cons_succ])
          refine wpAnyH_ready (rs := [1, 7]) (by kernel_rfl) (by simp) ?_
          refine AllReadyH.cons (o := ?_) ?_ (fun K hK => ?_) ?_
          rotate_left
          · simp only [List.getElem?_toArray, List.getElem?_cons_zero, List.getElem?_cons_succ]; rfl
          · skip
            go_simp
            refine hK.out _ _ S7 (fun h1 => ?_)
            clear hK K
            (try simp only [Act.put, List.setIfInBounds_toArray, List.set_cons_zero, List.set_cons_succ])
            refine wpAnyH_ready (rs := [7]) (by kernel_rfl) (by simp) ?_
            refine AllReadyH.cons (o := ?_) ?_ (fun K hK => ?_) AllReadyH.nil
            rotate_left
            · simp only [List.getElem?_toArray, List.getElem?_cons_zero, List.getElem?_cons_succ]; rfl
            go_simp
            refine hK.out _ _ S8 (fun h2 => ?_)
            clear hK K
            (try simp only [Act.put, List.setIfInBounds_toArray, List.set_cons_zero, List.set_cons_succ])
            refine wpAnyH_ready (rs := [8]) (by kernel_rfl) (by simp) ?_
            refine AllReadyH.cons (o := ?_) ?_ (fun K hK => ?_) AllReadyH.nil
            rotate_left
            · simp only [List.getElem?_toArray, List.getElem?_cons_zero, List.getElem?_cons_succ]; rfl
            refine step_app13 (.tmp 45) (.tmp 51) rfl (by kernel_rfl) hr ?_
            refine hK.out _ _ S9 (fun h8 => ?_)
            clear hK K
            (try simp only [Act.put, List.setIfInBounds_toArray, List.set_cons_zero, List.set_cons_succ])
            refine wpAnyH_take (i := 9) (oi := ?_) (v := ?_) ?_ (by kernel_rfl) (by kernel_rfl) (by kernel_rfl) ?_ ?_ h8 ?_
            rotate_left 2
            · simp only [List.getElem?_toArray, List.getElem?_cons_zero, List.getElem?_cons_succ]; rfl
            · exact fun _ _ _ h => h
            · refine Or.inl ⟨by rfl, ?_⟩
              intro w hSw
              (try dsimp only at hSw)
              go_simp
              (try with_reducible rfl)
            (try simp only [Act.put, List.setIfInBounds_toArray, List.set_cons_zero, List.set_cons_succ])
            refine wpAnyH_ready (rs := [10]) (by kernel_rfl) (by simp) ?_
            refine AllReadyH.cons (o := ?_) ?_ (fun K hK => ?_) AllReadyH.nil
            rotate_left
            · simp only [List.getElem?_toArray, List.getElem?_cons_zero, List.getElem?_cons_succ]; rfl
            go_simp
            refine hK.out _ _ S10 (fun h10 => ?_)
            clear hK K
            (try simp only [Act.put, List.setIfInBounds_toArray, List.set_cons_zero, List.set_cons_succ])
            refine wpAnyH_done (by kernel_rfl) ?_ _
            refine NoPanic.normal ?_
            clear h0 h1 h2 h8 h10 hr
            go_wp2_with fail
            go_roundw
            case rel => exact ⟨j, .slice A9 n9 c9, vb, cs ++ [194], ss, by go_num, by omega, OF9, R2⟩
            case measure => have hj := HJ.out; simp [intOf]; omega
          · refine AllReadyH.cons (o := ?_) ?_ (fun K hK => ?_) AllReadyH.nil
            rotate_left
            · simp only [List.getElem?_toArray, List.getElem?_cons_zero, List.getElem?_cons_succ]; rfl
            go_simp
            refine hK.out _ _ S8 (fun h1 => ?_)
            clear hK K
            (try simp only [Act.put, List.setIfInBounds_toArray, List.set_cons_zero, List.set_cons_succ])
            refine wpAnyH_ready (rs := [1]) (by kernel_rfl) (by simp) ?_
            refine AllReadyH.cons (o := ?_) ?_ (fun K hK => ?_) AllReadyH.nil
            rotate_left
            · simp only [List.getElem?_toArray, List.getElem?_cons_zero, List.getElem?_cons_succ]; rfl
            go_simp
            refine hK.out _ _ S8 (fun h2 => ?_)
            clear hK K
            (try simp only [Act.put, List.setIfInBounds_toArray, List.set_cons_zero, List.set_cons_succ])
            refine wpAnyH_ready (rs := [8]) (by kernel_rfl) (by simp) ?_
            refine AllReadyH.cons (o := ?_) ?_ (fun K hK => ?_) AllReadyH.nil
            rotate_left
            · simp only [List.getElem?_toArray, List.getElem?_cons_zero, List.getElem?_cons_succ]; rfl
            refine step_app13 (.tmp 45) (.tmp 51) rfl (by kernel_rfl) hr ?_
            refine hK.out _ _ S9 (fun h8 => ?_)
            clear hK K
            (try simp only [Act.put, List.setIfInBounds_toArray, List.set_cons_zero, List.set_cons_succ])
            refine wpAnyH_take (i := 9) (oi := ?_) (v := ?_) ?_ (by kernel_rfl) (by kernel_rfl) (by kernel_rfl) ?_ ?_ h8 ?_
            rotate_left 2
            · simp only [List.getElem?_toArray, List.getElem?_cons_zero, List.getElem?_cons_succ]; rfl
            · exact fun _ _ _ h => h
            · refine Or.inl ⟨by rfl, ?_⟩
              intro w hSw
              (try dsimp only at hSw)
              go_simp
              (try with_reducible rfl)
            (try simp only [Act.put, List.setIfInBounds_toArray, List.set_cons_zero, List.set_cons_succ])
            refine wpAnyH_ready (rs := [10]) (by kernel_rfl) (by simp) ?_
            refine AllReadyH.cons (o := ?_) ?_ (fun K hK => ?_) AllReadyH.nil
            rotate_left
            · simp only [List.getElem?_toArray, List.getElem?_cons_zero, List.getElem?_cons_succ]; rfl
            go_simp
            refine hK.out _ _ S10 (fun h10 => ?_)
            clear hK K
            (try simp only [Act.put, List.setIfInBounds_toArray, List.set_cons_zero, List.set_cons_succ])
            refine wpAnyH_done (by kernel_rfl) ?_ _
            refine NoPanic.normal ?_
            clear h0 h1 h2 h8 h10 hr
            go_wp2_with fail
            go_roundw
            case rel => exact ⟨j, .slice A9 n9 c9, vb, cs ++ [194], ss, by go_num, by omega, OF9, R2⟩
            case measure => have hj := HJ.out; simp [intOf]; omega
      · have HNO := Lib.hid (fun h2 : k + 1 < l.length => show ¬ (l[k] = 194 ∧ l[k + 1] = 173) from fun e => e1 e.1)
        have NZ : ¬ (l[k].toNat : Int) = 194 := fun e => e1 (UInt8.toNat_inj.1 (by rw [show (194 : UInt8).toNat = 194 from rfl]; omega))
        obtain ⟨z, hz⟩ : ∃ z, (l[k].toNat : Int) = z := ⟨_, rfl⟩
        have z0 : 0 ≤ z := by omega
        have z1 : z ≤ 255 := by have := l[k].toNat_lt; omega
        have wz : IntKind.i64.wrap z = z := IntWalk.i64_in _ (by omega)
        have R2 := Lib.hid (orr.out.code hlt' HNO.out)
        rw [hz] at R2 b0 NZ
        skip
        have OF7 : Of w wr.drew va vb cs ss := hof.out.kept ((Ext.refl wr).drew)
        obtain ⟨v9, w9, hr, k9, of9, bg9⟩ := OF7.code z (by omega) 34
        obtain ⟨A9, n9, c9, rfl⟩ : ∃ A9 n9 c9, v9 = .slice A9 n9 c9 := by obtain ⟨A9, c9, _, _, e9, _⟩ := of9.look; exact ⟨_, _, _, e9⟩
        have X9 : Ext w w9 := bg9.ext (OF7.x.alloc _) (fun i e => by have := (OF7.a.lt i e).1; omega)
        have S7 := BK.out _ OF7.x
        have S8 := BK.out _ (OF7.x.alloc (.cells #[.int .i64 z] 3))
        have S9 := BK.out _ X9
        have S10 := BK.out _ of9.x
        rw [hz] at S7 S8 S9 S10
        have c7 : wr.drew.cell? ⟨w.heap.size + 1, 0, none⟩ = some va := OF7.b1.cell 0
        have d7 : (wr.drew.alloc (.cells #[.int .i64 z] 3)).cell? ⟨w.heap.size + 1, 0, none⟩ = some va := (OF7.b1.ext ((Ext.refl _).alloc _)).cell 0
        have g9 : w9.cell? ⟨w.heap.size + 1, 0, none⟩ = some va := k9.cell 0
        have f9 : w9.frozen? ⟨w.heap.size + 1, 0, none⟩ = false := k9.free 0
        have OF9 := Lib.hid of9
        clear OF7 of9 bg9 X9 k9 hof orr HNO hz BK
        go_wp2_with fail
        refine wp_region_noPanic ?_
        refine wp_region_held_drew (S := (fun w' => w'.cell? (ad.add k) = some (.int .u8 z))) (by kernel_rfl) S7 (fun h0 => ?_)
        generalize wr.drew = W7 at *
        refine wpAnyH_take (i := 0) (oi := ?_) (v := ?_) ?_ (by kernel_rfl) (by kernel_rfl) (by kernel_rfl) ?_ ?_ h0 ?_
        rotate_left 2
        · simp only [List.getElem?_toArray, List.getElem?_cons_zero]; rfl
        · exact fun _ _ _ h => h
        · refine Or.inl ⟨by rfl, ?_⟩
          intro w hSw
          (try dsimp only at hSw)
          go_simp
          (try with_reducible rfl)
        (try simp only [Act.put, List.setIfInBounds_toArray, List.set_cons_zero, List.set_cons_succ])
        refine wpAnyH_take (i := 2) (oi := ?_) (v := ?_) ?_ (by kernel_rfl) (by kernel_rfl) (by kernel_rfl) ?_ ?_ h0 ?_
        rotate_left 2
        · simp only [List.getElem?_toArray, List.getElem?_cons_zero, List.getElem?_cons_succ]; rfl
        · exact fun _ _ _ h => h
        · refine Or.inl ⟨by rfl, ?_⟩
          intro w hSw
          (try dsimp only at hSw)
          go_simp
          (try with_reducible rfl)
        (try simp only [Act.put, List.setIfInBounds_toArray, List.set_cons_zero, List.set_cons_succ])
        refine wpAnyH_take (i := 3) (oi := ?_) (v := ?_) ?_ (by kernel_rfl) (by kernel_rfl) (by kernel_rfl) ?_ ?_ h0 ?_
        rotate_left 2
        · simp only [List.getElem?_toArray, List.getElem?_cons_zero, List.getElem?_cons_succ]; rfl
        · exact fun _ _ _ h => h
        · refine Or.inl ⟨by rfl, ?_⟩
          intro w hSw
          (try dsimp only at hSw)
          go_simp
          (try with_reducible rfl)
        (try simp only [Act.put, List.setIfInBounds_toArray, List.set_cons_zero, List.set_cons_succ])
        refine wpAnyH_take (i := 4) (oi := ?_) (v := ?_) ?_ (by kernel_rfl) (by kernel_rfl) (by kernel_rfl) ?_ ?_ h0 ?_
        rotate_left 2
        · simp only [List.getElem?_toArray, List.getElem?_cons_zero, List.getElem?_cons_succ]; rfl
        · exact fun _ _ _ h => h
        · refine Or.inl ⟨by rfl, ?_⟩
          intro w hSw
          (try dsimp only at hSw)
          go_simp
          (try with_reducible rfl)
        (try simp only [Act.put, List.setIfInBounds_toArray, List.set_cons_zero, List.set_cons_succ])
        refine wpAnyH_take (i := 5) (oi := ?_) (v := ?_) ?_ (by kernel_rfl) (by kernel_rfl) (by kernel_rfl) ?_ ?_ h0 ?_
        rotate_left 2
        · simp only [List.getElem?_toArray, List.getElem?_cons_zero, List.getElem?_cons_succ]; rfl
        · exact fun _ _ _ h => h
        · refine Or.inl ⟨by rfl, ?_⟩
          intro w hSw
          (try dsimp only at hSw)
          go_simp
          (try with_reducible rfl)
        (try simp only [Act.put, List.setIfInBounds_toArray, List.set_cons_zero, List.set_cons_succ])
        refine wpAnyH_take (i := 6) (oi := ?_) (v := ?_) ?_ (by kernel_rfl) (by kernel_rfl) (by kernel_rfl) ?_ ?_ h0 ?_
        rotate_left 2
        · simp only [List.getElem?_toArray, List.getElem?_cons_zero, List.getElem?_cons_succ]; rfl
        · exact fun _ _ _ h => h
        · refine Or.inl ⟨by rfl, ?_⟩
          intro w hSw
          (try dsimp only at hSw)
          go_simp
          (try with_reducible rfl)
        (try simp only [Act.put, List.setIfInBounds_toArray, List.set_cons_zero, List.set_cons_succ])
        refine wpAnyH_ready (rs := [1, 7]) (by kernel_rfl) (by simp) ?_
        refine AllReadyH.cons (o := ?_) ?_ (fun K hK => ?_) ?_
        rotate_left
        · simp only [List.getElem?_toArray, List.getElem?_cons_zero, List.getElem?_cons_succ]; rfl
        · skip
          go_simp
          refine hK.out _ _ S7 (fun h1 => ?_)
          clear hK K
          (try simp only [Act.put, List.setIfInBounds_toArray, List.set_cons_zero, List.set_cons_succ])
          refine wpAnyH_ready (rs := [7]) (by kernel_rfl) (by simp) ?_
          refine AllReadyH.cons (o := ?_) ?_ (fun K hK => ?_) AllReadyH.nil
          rotate_left
          · simp only [List.getElem?_toArray, List.getElem?_cons_zero, List.getElem?_cons_succ]; rfl
          go_simp
          refine hK.out _ _ S8 (fun h2 => ?_)
          clear hK K
          (try simp only [Act.put, List.setIfInBounds_toArray, List.set_cons_zero, List.set_cons_succ])
          refine wpAnyH_ready (rs := [8]) (by kernel_rfl) (by simp) ?_
          refine AllReadyH.cons (o := ?_) ?_ (fun K hK => ?_) AllReadyH.nil
          rotate_left
          · simp only [List.getElem?_toArray, List.getElem?_cons_zero, List.getElem?_cons_succ]; rfl
          refine step_app13 (.tmp 45) (.tmp 51) rfl (by kernel_rfl) hr ?_
          refine hK.out _ _ S9 (fun h8 => ?_)
          clear hK K
          (try simp only [Act.put, List.setIfInBounds_toArray, List.set_cons_zero, List.set_cons_succ])
          refine wpAnyH_take (i := 9) (oi := ?_) (v := ?_) ?_ (by kernel_rfl) (by kernel_rfl) (by kernel_rfl) ?_ ?_ h8 ?_
          rotate_left 2
          · simp only [List.getElem?_toArray, List.getElem?_cons_zero, List.getElem?_cons_succ]; rfl
          · exact fun _ _ _ h => h
          · refine Or.inl ⟨by rfl, ?_⟩
            intro w hSw
            (try dsimp only at hSw)
            go_simp
            (try with_reducible rfl)
          (try simp only [Act.put, List.setIfInBounds_toArray, List.set_cons_zero, List.set_cons_succ])
          refine wpAnyH_ready (rs := [10]) (by kernel_rfl) (by simp) ?_
          refine AllReadyH.cons (o := ?_) ?_ (fun K hK => ?_) AllReadyH.nil
          rotate_left
          · simp only [List.getElem?_toArray, List.getElem?_cons_zero, List.getElem?_cons_succ]; rfl
          go_simp
          refine hK.out _ _ S10 (fun h10 => ?_)
          clear hK K
          (try simp only [Act.put, List.setIfInBounds_toArray, List.set_cons_zero, List.set_cons_succ])
          refine wpAnyH_done (by kernel_rfl) ?_ _
          refine NoPanic.normal ?_
          clear h0 h1 h2 h8 h10 hr
          go_wp2_with fail
          go_roundw
          case rel => exact ⟨k + 1, .slice A9 n9 c9, vb, cs ++ [z], ss, by go_num, by omega, OF9, R2⟩
          case measure => simp [intOf]; omega
        · refine AllReadyH.cons (o := ?_) ?_ (fun K hK => ?_) AllReadyH.nil
          rotate_left
          · simp only [List.getElem?_toArray, List.getElem?_cons_zero, List.getElem?_cons_succ]; rfl
          go_simp
          refine hK.out _ _ S8 (fun h1 => ?_)
          clear hK K
          (try simp only [Act.put, List.setIfInBounds_toArray, List.set_cons_zero, List.set_cons_succ])
          refine wpAnyH_ready (rs := [1]) (by kernel_rfl) (by simp) ?_
          refine AllReadyH.cons (o := ?_) ?_ (fun K hK => ?_) AllReadyH.nil
          rotate_left
          · simp only [List.getElem?_toArray, List.getElem?_cons_zero, List.getElem?_cons_succ]; rfl
          go_simp
          refine hK.out _ _ S8 (fun h2 => ?_)
          clear hK K
          (try simp only [Act.put, List.setIfInBounds_toArray, List.set_cons_zero, List.set_cons_succ])
          refine wpAnyH_ready (rs := [8]) (by kernel_rfl) (by simp) ?_
          refine AllReadyH.cons (o := ?_) ?_ (fun K hK => ?_) AllReadyH.nil
          rotate_left
          · simp only [List.getElem?_toArray, List.getElem?_cons_zero, List.getElem?_cons_succ]; rfl
          refine step_app13 (.tmp 45) (.tmp 51) rfl (by kernel_rfl) hr ?_
          refine hK.out _ _ S9 (fun h8 => ?_)
          clear hK K
          (try simp only [Act.put, List.setIfInBounds_toArray, List.set_cons_zero, List.set_cons_succ])
          refine wpAnyH_take (i := 9) (oi := ?_) (v := ?_) ?_ (by kernel_rfl) (by kernel_rfl) (by kernel_rfl) ?_ ?_ h8 ?_
          rotate_left 2
          · simp only [List.getElem?_toArray, List.getElem?_cons_zero, List.getElem?_cons_succ]; rfl
          · exact fun _ _ _ h => h
          · refine Or.inl ⟨by rfl, ?_⟩
            intro w hSw
            (try dsimp only at hSw)
            go_simp
            (try with_reducible rfl)
          (try simp only [Act.put, List.setIfInBounds_toArray, List.set_cons_zero, List.set_cons_succ])
          refine wpAnyH_ready (rs := [10]) (by kernel_rfl) (by simp) ?_
          refine AllReadyH.cons (o := ?_) ?_ (fun K hK => ?_) AllReadyH.nil
          rotate_left
          · simp only [List.getElem?_toArray, List.getElem?_cons_zero, List.getElem?_cons_succ]; rfl
          go_simp
          refine hK.out _ _ S10 (fun h10 => ?_)
          clear hK K
          (try simp only [Act.put, List.setIfInBounds_toArray, List.set_cons_zero, List.set_cons_succ])
          refine wpAnyH_done (by kernel_rfl) ?_ _
          refine NoPanic.normal ?_
          clear h0 h1 h2 h8 h10 hr
          go_wp2_with fail
          go_roundw
          case rel => exact ⟨k + 1, .slice A9 n9 c9, vb, cs ++ [z], ss, by go_num, by omega, OF9, R2⟩
          case measure => simp [intOf]; omega
    · obtain rfl : k = n := by omega
      obtain ⟨A1, c1, B1, d1, rfl, rfl, r1, m1, r2, m2, s1, s2⟩ := hof.out.look
      have q0 : wr.cell? ⟨w.heap.size + 1, 0, none⟩ = some (.slice A1 cs.length c1) := hof.out.b1.cell 0
      have q1 : wr.cell? ⟨w.heap.size + 1, 1, none⟩ = some (.slice B1 ss.length d1) := hof.out.b1.cell 1
      have HP := Lib.hid (orr.out.fin HN.out)
      have C := Lib.hid (rword_any ⟨cs, A1, c1, ss, B1, d1⟩ ⟨r1, m1, r2, m2, fun x hx => by have := orr.out.2.1 x hx; omega, fun x hx => by have := orr.out.2.2.1 x hx; omega⟩ wr s1 s2)
      unfold cwV tw at C
      dsimp only at C
      rw [HP.out] at C
      generalize ofL l = p at *
      clear s1 s2 orr r1 m1 r2 m2 hck hsk
      go_wp2_with fail
      refine C.out.mono ?_; rintro e w5 ⟨rfl, x5⟩
      obtain ⟨W, hW⟩ : ∃ W, W = (w5.setCell ⟨w.heap.size, 0, none⟩ (.slice A1 cs.length c1)).setCell ⟨w.heap.size, 1, none⟩ (.slice B1 ss.length d1) := ⟨_, rfl⟩
      have FIN := Lib.hid (hof.out.fin x5 p HP.out W hW)
      have q0 := x5.at q0
      have q1 := x5.at q1
      have p0 : w5.cell? ⟨w.heap.size, 0, none⟩ = some (.slice none 0 0) := (hof.out.kept x5).b0.cell 0
      have p1 : w5.cell? ⟨w.heap.size, 1, none⟩ = some (.slice none 0 0) := (hof.out.kept x5).b0.cell 1
      have z0 := (hof.out.kept x5).b0.free 0
      have z1 := (hof.out.kept x5).b0.free 1
      clear C hof HP x5
      go_wp2_with fail
      rw [← hW]
      clear hW
      refine bodyPost_ret (results_box_tmp rfl _ _ w.heap.size _ _ rfl rfl FIN.out.2.range (Tryd.isAgg36 _) (Tryd.sizeOf36 _)) rfl ?_
      exact FIN.out.1
end L13
end Go.Proofs.YtbiklbomacjihaaDoor

