/- TrieMixes: it does not matter in which order patterns come, nor whether one comes twice, and more have no lesser numbers. For every input, without a condition. -/
import Derived.Test.YtfdoohangemojaaMany11
import Derived.ChangeMaps5
import Derived.Deep.RegionHeld3
namespace Go.Proofs.Ytfdoohangemojaa
open Go.ChangeShapes Go.WideShapes Go.ChangeAt Go.RowKit
open Go.Lib hiding intOf
namespace TrieMixes
open L10 (TN plainB patB tn rd patsB fewD fewp_any few_len)
open L11

theorem rev_step {l : List WP} {k j : Nat} (h : k < l.length) (hj : j = l.length - 1 - k) (hjl : j < l.length) : (l.drop (l.length - (k + 1))).reverse = (l.drop (l.length - k)).reverse ++ [l[j]] := by
  subst hj
  have e : l.drop (l.length - (k + 1)) = l[l.length - 1 - k]'(by omega) :: l.drop (l.length - k) := by
    have e1 : l.length - (k + 1) = l.length - 1 - k := by omega
    rw [e1, List.drop_eq_getElem_cons (by omega)]
    congr 2
    omega
  rw [e, List.reverse_cons]

theorem vals_more (p q : List TN) (w : List UInt8) : (valsL (p ++ q) w).length = (valsL p w).length ∧ ∀ j, (valsL p w).getD j 0 ≤ (valsL (p ++ q) w).getD j 0 := by
  unfold valsL
  split
  · refine ⟨by simp, fun j => ?_⟩
    by_cases hj : j < w.length + 1
    · simp only [List.getD, List.getElem?_map, List.getElem?_range hj, Option.map_some, Option.getD_some, numF_append]
      omega
    · rw [List.getD, List.getD, List.getElem?_eq_none (by simp; omega), List.getElem?_eq_none (by simp; omega)]
      exact Int.le_refl _
  · exact ⟨rfl, fun _ => Int.le_refl _⟩
theorem SeenW.numbers {w : World} {A : Option Addr} {l : List WP} (h : SeenW w A l) : ∀ y ∈ l, SeenL w y.A y.ns := fun y hy => by
  obtain ⟨i, hi, rfl⟩ := List.getElem_of_mem hy
  exact (h i _ (List.getElem?_eq_getElem hi)).2
/-- One pattern more, behind a literal. -/
theorem mix_step {Q : Nat} {w3 wr : World} {vl : Value} {cl : List WP} (hq : QAt Q w3 wr vl cl) (y : WP) (sy : SeenL w3 y.A y.ns) (hcl : cl.length ≤ 400) (ty : TypeId) :
    ∃ A' n' c' w', (Builtin.append_ #[34, 34] ty #[vl, .slice (some ⟨wr.drew.heap.size, 0, none⟩) 1 1]).run Try.prog (wr.drew.alloc (.cells #[.string y.s, .slice y.A y.ns.length y.c] 49)) = .ok (.slice A' n' c') w' ∧
      QAt Q w3 (w'.setCell ⟨Q, 0, none⟩ (.slice A' n' c')) (.slice A' n' c') (cl ++ [y]) ∧ (w'.cell? ⟨Q, 0, none⟩ = some vl ∧ w'.frozen? ⟨Q, 0, none⟩ = false) ∧
      (wr.drew.cell? ⟨Q, 0, none⟩ = some vl ∧ (wr.drew.alloc (.cells #[.string y.s, .slice y.A y.ns.length y.c] 49)).cell? ⟨Q, 0, none⟩ = some vl) ∧
      (Ext w3 wr.drew ∧ Ext w3 (wr.drew.alloc (.cells #[.string y.s, .slice y.A y.ns.length y.c] 49)) ∧ Ext w3 w' ∧ Ext w3 (w'.setCell ⟨Q, 0, none⟩ (.slice A' n' c'))) := by
  have q7 := hq.ext ((Ext.refl wr).drew)
  have x8 : Ext wr.drew (wr.drew.alloc (.cells #[.string y.s, .slice y.A y.ns.length y.c] 49)) := (Ext.refl _).alloc _
  have q8 := q7.ext x8
  have sw : SeenW (wr.drew.alloc (.cells #[.string y.s, .slice y.A y.ns.length y.c] 49)) (some ⟨wr.drew.heap.size, 0, none⟩) [y] :=
    blk_seenW (Blk.lit _ _ _ _ rfl) rfl (fun z hz => by rw [List.mem_singleton.1 hz]; exact sy.ext q8.x)
  obtain ⟨A', n', c', w', hr, _, h1, h2, h3, h4, _⟩ := q8.puts (some ⟨wr.drew.heap.size, 0, none⟩) [y] 1 1 sw rfl (fun z hz => by rw [List.mem_singleton.1 hz]; exact sy) (by simp only [List.length_cons, List.length_nil]; omega) ty
  have hb := hq.bQ
  exact ⟨A', n', c', w', hr, h1, ⟨h2, h3⟩, ⟨q7.box.cell 0, q8.box.cell 0⟩, q7.x, q8.x, h4.ext q8.x (fun k hk => by have := (q8.row.lt k hk).1; omega), h1.x⟩

set_option maxRecDepth 100000 in
set_option maxHeartbeats 16000000 in
theorem main (D : PatsD) (P : PatsP) (ok : PatsOk D P) (x : WP) (okx : x.Ok) (s : ByteArray) (hs : s.size ≤ 60) (w : World) (sn : SeenPats w D P) (sx : SeenL w x.A x.ns) (hf : fewD D = true) (hn : D.l.length ≤ 140) (hx1 : x.s.size ≤ 60) (hx2 : x.ns.length ≤ 60) (hp : patsB (rd D) = true) :
    Calls Try.prog 5 #[patsV D P, wpV x, .string s] w (Ret w (.bool true)) := by
  obtain ⟨f1, f2, f3⟩ := few_len hf
  have AW := Lib.hid (fun w' => awake_any w')
  have FEW := Lib.hid (fun w' (x : Ext w w') => by have := fewp_any D P w' (sn.ext x); rw [hf] at this; exact this)
  have NEW := Lib.hid (fun w' (x : Ext w w') => new_yes D P ok.li ok.mi w' (sn.ext x) (by omega) (by omega) hp)
  have hpat : ∀ y ∈ D.l, patB (tn y) = true := by
    have h1 := L10.patsB_rd D
    rw [hp] at h1
    have h2 := h1.symm
    simp only [Bool.and_eq_true, decide_eq_true_eq, List.all_eq_true] at h2
    exact h2.2.1
  have SL := Lib.hid sn.l
  have OKL := Lib.hid ok.li
  have OKX := Lib.hid okx
  have SX := Lib.hid sx
  have HPAT := Lib.hid hpat
  unfold patsV wpV at *
  obtain ⟨l, m⟩ := D
  obtain ⟨A, c, A2, d⟩ := P
  obtain ⟨xs, xn, xA, xc⟩ := x
  dsimp only at FEW NEW SL OKL SX HPAT hn hx1 hx2 ⊢
  obtain ⟨n, hnl⟩ : ∃ n, n = l.length := ⟨_, rfl⟩
  have HN := Lib.hid hnl
  obtain ⟨z, hzl⟩ : ∃ z, z = xn.length := ⟨_, rfl⟩
  have HZ := Lib.hid hzl
  rw [← hnl] at FEW NEW hn ⊢
  rw [← hzl] at hx2 ⊢
  obtain ⟨V, hV⟩ : ∃ V, V = (w.alloc (.cells #[.slice A n c, .slice A2 m.length d] 37)).alloc (.cells #[.string xs, .slice xA z xc] 49) := ⟨_, rfl⟩
  have W0 : Ext w V := by rw [hV]; exact ((Ext.refl _).alloc _).alloc _
  have kB : Blk V w.heap.size 37 [.slice A n c, .slice A2 m.length d] := by rw [hV]; exact (Blk.lit w _ _ _ rfl).ext ((Ext.refl _).alloc _)
  have kX : Blk V (w.heap.size + 1) 49 [.string xs, .slice xA z xc] := by rw [hV]; exact Blk.lit _ _ _ _ (by simp)
  have HX := Lib.hid W0
  have SLV := Lib.hid (SL.out.ext W0)
  have SXV := Lib.hid (SX.out.ext W0)
  have KB := Lib.hid kB
  have KX := Lib.hid kX
  have RV := Lib.hid (show w.heap.size + 1 < V.heap.size from kX.lt)
  clear sn sx ok okx hp hf f1 f2 f3 hnl hzl W0 hpat SL SX kB kX
  generalize m.length = q at *
  go_enter Try.func5, Try.ntmps5
  go_upto_region 1 with (fail)
  rw [← hV]
  clear hV
  generalize hR : w.heap.size = R at *
  have HR := Lib.hid hR
  clear hR
  go_wp2_with fail
  refine (AW.out _).mono ?_; rintro e w1 ⟨rfl, x1⟩
  have X1 := Lib.hid x1
  have q0 : w1.cell? ⟨R, 0, none⟩ = some (.slice A n c) := (KB.out.ext x1).cell 0
  have q1 : w1.cell? ⟨R, 1, none⟩ = some (.slice A2 q d) := (KB.out.ext x1).cell 1
  have r0 : w1.cell? ⟨R + 1, 0, none⟩ = some (.string xs) := (KX.out.ext x1).cell 0
  have r1 : w1.cell? ⟨R + 1, 1, none⟩ = some (.slice xA z xc) := (KX.out.ext x1).cell 1
  clear x1
  go_wp2_with fail
  refine (FEW.out _ (HX.out.trans X1.out)).mono ?_; rintro e w2 ⟨rfl, x2⟩
  have q0 := x2.at q0
  have q1 := x2.at q1
  have r0 := x2.at r0
  have r1 := x2.at r1
  have X2 := Lib.hid (X1.out.trans x2)
  clear x2 X1 FEW
  go_wp2_with fail
  refine (NEW.out _ (HX.out.trans X2.out)).mono ?_; rintro e w3 ⟨B, F, rfl, x3, T3, hB, hF⟩
  have q0 := x3.at q0
  have X3 := Lib.hid (X2.out.trans x3)
  have HB := Lib.hid (show V.heap.size ≤ B from Nat.le_trans X2.out.size hB)
  have T3 := Lib.hid T3
  clear x3 X2 NEW hB hF q1 r0 r1
  go_upto_region 8 with (fail)
  have QS := Lib.hid (show QAt w3.heap.size w3 (w3.alloc (.cells #[.slice none 0 0, .slice none 0 0] 37)) (.slice none 0 0) [] from
    ⟨(Ext.refl _).alloc _, Blk.lit _ _ _ _ rfl, Nat.le_refl _, World.ownsRow_nil _ _ _ _, fun y hy => by simp at hy⟩)
  have RQ := Lib.hid (show V.heap.size ≤ w3.heap.size from X3.out.size)
  generalize w3.alloc (.cells #[.slice none 0 0, .slice none 0 0] 37) = w4 at *
  generalize hQ : w3.heap.size = Q at *
  have HQ := Lib.hid hQ
  clear hQ
  have q0w := Lib.hid q0
  have q0 : w4.cell? ⟨R, 0, none⟩ = some (.slice A n c) := QS.out.x.at q0w.out
  go_wp2_with fail
  go_loopw [11] (fun i wr => ∃ k : Nat, k ≤ n ∧ i = .int .i64 ((n : Int) - 1 - k) ∧ Hid (∃ vl, QAt Q w3 wr vl (l.drop (l.length - k)).reverse)) (fun i _ => (intOf i + 1).toNat)
  case atStart => exact ⟨0, Nat.zero_le _, (by simp), ⟨_, (by rw [Nat.sub_zero, List.drop_length]; exact QS.out)⟩⟩
  case round =>
    obtain ⟨k, hk, rfl, hh⟩ := hrel
    obtain ⟨vl, hq⟩ := hh.out
    by_cases hlt : k < n
    · have hlt' : k < l.length := by rw [← HN.out]; exact hlt
      obtain ⟨j, hj⟩ : ∃ j, j = l.length - 1 - k := ⟨_, rfl⟩
      have hjl : j < l.length := by omega
      have ej : (n : Int) - 1 - k = (j : Int) := by have := HN.out; omega
      have RS := Lib.hid (rev_step hlt' hj hjl)
      obtain ⟨⟨ad, eA, a0, a1⟩, sy⟩ := (SLV.out.ext X3.out).get hjl
      have hjn : j < n := by have := HN.out; omega
      have NEXT := Lib.hid (show Value.int .i64 ((j : Int) - 1) = .int .i64 ((n : Int) - 1 - ((k + 1 : Nat) : Int)) by have := HN.out; congr 1; omega)
      have HLT := Lib.hid (show Nat.lt k n from hlt)
      have hcl : (l.drop (l.length - k)).reverse.length ≤ 400 := by rw [List.length_reverse, List.length_drop]; have := HN.out; omega
      rw [ej]
      have HJ := Lib.hid hj
      clear hj ej
      subst eA
      obtain ⟨A9, n9, c9, w9, hr, hq9, ⟨g0, gf⟩, ⟨d7, d8⟩, y7, y8, y9, y10⟩ := mix_step hq l[j] sy hcl 34
      have FIN := Lib.hid (show ∃ vl, QAt Q w3 (w9.setCell ⟨Q, 0, none⟩ (.slice A9 n9 c9)) vl (l.drop (l.length - (k + 1))).reverse from ⟨_, by rw [RS.out]; exact hq9⟩)
      have S0 := Lib.hid (show ∀ w', Ext w3 w' → w'.cell? ⟨R, 0, none⟩ = some (.slice (some ad) n c) ∧ w'.cell? (ad.add (j * 2)) = some (.string l[j].s) ∧ w'.cell? ⟨(ad.add (j * 2)).block, (ad.add (j * 2)).off + 1, none⟩ = some (.slice l[j].A l[j].ns.length l[j].c) from fun w' x => ⟨x.at q0w.out, x.at a0, x.at a1⟩)
      have S7 := S0.out _ y7
      have S8 := S0.out _ y8
      have S9 := S0.out _ y9
      have S10 := S0.out _ y10
      generalize l[j].s = ys at *
      generalize l[j].A = yA at *
      generalize l[j].ns.length = yn at *
      generalize l[j].c = yc at *
      clear hq hh hq9 y7 y8 y9 y10 a0 a1 sy S0 RS hcl
      go_wp2_with fail
      refine wp_region_noPanic ?_
      refine wp_region_held_drew (S := (fun w' => w'.cell? ⟨R, 0, none⟩ = some (.slice (some ad) n c) ∧ w'.cell? (ad.add (j * 2)) = some (.string ys) ∧ w'.cell? ⟨(ad.add (j * 2)).block, (ad.add (j * 2)).off + 1, none⟩ = some (.slice yA yn yc))) (by kernel_rfl) S7 (fun h0 => ?_)
      generalize wr.drew = W7 at *
      refine wpAnyH_take (i := 0) (oi := ?_) (v := ?_) ?_ (by kernel_rfl) (by kernel_rfl) (by kernel_rfl) ?_ ?_ h0 ?_
      rotate_left 2
      · simp only [List.getElem?_toArray, List.getElem?_cons_zero]; rfl
      · exact fun _ _ _ h => h
      · refine Or.inl ⟨by rfl, ?_⟩
        intro w hSw
        (try dsimp only at hSw)
        go_simp
        (try with_reducible rfl)
      (try simp only [Act.put, List.setIfInBounds_toArray, List.set_cons_zero, List.set_cons_succ])
      refine wpAnyH_take (i := 2) (oi := ?_) (v := ?_) ?_ (by kernel_rfl) (by kernel_rfl) (by kernel_rfl) ?_ ?_ h0 ?_
      rotate_left 2
      · simp only [List.getElem?_toArray, List.getElem?_cons_zero, List.getElem?_cons_succ]; rfl
      · exact fun _ _ _ h => h
      · refine Or.inl ⟨by rfl, ?_⟩
        intro w hSw
        (try dsimp only at hSw)
        go_simp
        (try with_reducible rfl)
      (try simp only [Act.put, List.setIfInBounds_toArray, List.set_cons_zero, List.set_cons_succ])
      refine wpAnyH_take (i := 3) (oi := ?_) (v := ?_) ?_ (by kernel_rfl) (by kernel_rfl) (by kernel_rfl) ?_ ?_ h0 ?_
      rotate_left 2
      · simp only [List.getElem?_toArray, List.getElem?_cons_zero, List.getElem?_cons_succ]; rfl
      · exact fun _ _ _ h => h
      · refine Or.inl ⟨by rfl, ?_⟩
        intro w hSw
        (try dsimp only at hSw)
        go_simp
        (try with_reducible rfl)
      (try simp only [Act.put, List.setIfInBounds_toArray, List.set_cons_zero, List.set_cons_succ])
      refine wpAnyH_take (i := 4) (oi := ?_) (v := ?_) ?_ (by kernel_rfl) (by kernel_rfl) (by kernel_rfl) ?_ ?_ h0 ?_
      rotate_left 2
      · simp only [List.getElem?_toArray, List.getElem?_cons_zero, List.getElem?_cons_succ]; rfl
      · exact fun _ _ _ h => h
      · refine Or.inl ⟨by rfl, ?_⟩
        intro w hSw
        (try dsimp only at hSw)
        go_simp
        (try with_reducible rfl)
      (try simp only [Act.put, List.setIfInBounds_toArray, List.set_cons_zero, List.set_cons_succ])
      refine wpAnyH_take (i := 5) (oi := ?_) (v := ?_) ?_ (by kernel_rfl) (by kernel_rfl) (by kernel_rfl) ?_ ?_ h0 ?_
      rotate_left 2
      · simp only [List.getElem?_toArray, List.getElem?_cons_zero, List.getElem?_cons_succ]; rfl
      · exact fun _ _ _ h => h
      · refine Or.inl ⟨by rfl, ?_⟩
        intro w hSw
        (try dsimp only at hSw)
        go_simp
        (try with_reducible rfl)
      (try simp only [Act.put, List.setIfInBounds_toArray, List.set_cons_zero, List.set_cons_succ])
      refine wpAnyH_take (i := 6) (oi := ?_) (v := ?_) ?_ (by kernel_rfl) (by kernel_rfl) (by kernel_rfl) ?_ ?_ h0 ?_
      rotate_left 2
      · simp only [List.getElem?_toArray, List.getElem?_cons_zero, List.getElem?_cons_succ]; rfl
      · exact fun _ _ _ h => h
      · refine Or.inl ⟨by rfl, ?_⟩
        intro w hSw
        (try dsimp only at hSw)
        go_simp
        (try with_reducible rfl)
      (try simp only [Act.put, List.setIfInBounds_toArray, List.set_cons_zero, List.set_cons_succ])
      refine wpAnyH_ready (rs := [1, 7]) (by kernel_rfl) (by simp) ?_
      refine AllReadyH.cons (o := ?_) ?_ (fun K hK => ?_) ?_
      rotate_left
      · simp only [List.getElem?_toArray, List.getElem?_cons_zero, List.getElem?_cons_succ]; rfl
      · skip
        go_simp
        refine hK.out _ _ S7 (fun h1 => ?_)
        clear hK K
        (try simp only [Act.put, List.setIfInBounds_toArray, List.set_cons_zero, List.set_cons_succ])
        refine wpAnyH_ready (rs := [7]) (by kernel_rfl) (by simp) ?_
        refine AllReadyH.cons (o := ?_) ?_ (fun K hK => ?_) AllReadyH.nil
        rotate_left
        · simp only [List.getElem?_toArray, List.getElem?_cons_zero, List.getElem?_cons_succ]; rfl
        go_simp
        refine hK.out _ _ S8 (fun h2 => ?_)
        clear hK K
        (try simp only [Act.put, List.setIfInBounds_toArray, List.set_cons_zero, List.set_cons_succ])
        refine wpAnyH_ready (rs := [8]) (by kernel_rfl) (by simp) ?_
        refine AllReadyH.cons (o := ?_) ?_ (fun K hK => ?_) AllReadyH.nil
        rotate_left
        · simp only [List.getElem?_toArray, List.getElem?_cons_zero, List.getElem?_cons_succ]; rfl
        refine step_app11 (.tmp 73) (.tmp 79) rfl (by kernel_rfl) hr ?_
        refine hK.out _ _ S9 (fun h8 => ?_)
        clear hK K
        (try simp only [Act.put, List.setIfInBounds_toArray, List.set_cons_zero, List.set_cons_succ])
        refine wpAnyH_take (i := 9) (oi := ?_) (v := ?_) ?_ (by kernel_rfl) (by kernel_rfl) (by kernel_rfl) ?_ ?_ h8 ?_
        rotate_left 2
        · simp only [List.getElem?_toArray, List.getElem?_cons_zero, List.getElem?_cons_succ]; rfl
        · exact fun _ _ _ h => h
        · refine Or.inl ⟨by rfl, ?_⟩
          intro w hSw
          (try dsimp only at hSw)
          go_simp
          (try with_reducible rfl)
        (try simp only [Act.put, List.setIfInBounds_toArray, List.set_cons_zero, List.set_cons_succ])
        refine wpAnyH_ready (rs := [10]) (by kernel_rfl) (by simp) ?_
        refine AllReadyH.cons (o := ?_) ?_ (fun K hK => ?_) AllReadyH.nil
        rotate_left
        · simp only [List.getElem?_toArray, List.getElem?_cons_zero, List.getElem?_cons_succ]; rfl
        go_simp
        refine hK.out _ _ S10 (fun h10 => ?_)
        clear hK K
        (try simp only [Act.put, List.setIfInBounds_toArray, List.set_cons_zero, List.set_cons_succ])
        refine wpAnyH_done (by kernel_rfl) ?_ _
        refine NoPanic.normal ?_
        clear h0 h1 h2 h8 h10 hr
        go_wp2_with fail
        go_roundw
        case rel => exact ⟨k + 1, HLT.out, NEXT.out, FIN⟩
        case measure => simp [intOf]
      · refine AllReadyH.cons (o := ?_) ?_ (fun K hK => ?_) AllReadyH.nil
        rotate_left
        · simp only [List.getElem?_toArray, List.getElem?_cons_zero, List.getElem?_cons_succ]; rfl
        go_simp
        refine hK.out _ _ S8 (fun h1 => ?_)
        clear hK K
        (try simp only [Act.put, List.setIfInBounds_toArray, List.set_cons_zero, List.set_cons_succ])
        refine wpAnyH_ready (rs := [1]) (by kernel_rfl) (by simp) ?_
        refine AllReadyH.cons (o := ?_) ?_ (fun K hK => ?_) AllReadyH.nil
        rotate_left
        · simp only [List.getElem?_toArray, List.getElem?_cons_zero, List.getElem?_cons_succ]; rfl
        go_simp
        refine hK.out _ _ S8 (fun h2 => ?_)
        clear hK K
        (try simp only [Act.put, List.setIfInBounds_toArray, List.set_cons_zero, List.set_cons_succ])
        refine wpAnyH_ready (rs := [8]) (by kernel_rfl) (by simp) ?_
        refine AllReadyH.cons (o := ?_) ?_ (fun K hK => ?_) AllReadyH.nil
        rotate_left
        · simp only [List.getElem?_toArray, List.getElem?_cons_zero, List.getElem?_cons_succ]; rfl
        refine step_app11 (.tmp 73) (.tmp 79) rfl (by kernel_rfl) hr ?_
        refine hK.out _ _ S9 (fun h8 => ?_)
        clear hK K
        (try simp only [Act.put, List.setIfInBounds_toArray, List.set_cons_zero, List.set_cons_succ])
        refine wpAnyH_take (i := 9) (oi := ?_) (v := ?_) ?_ (by kernel_rfl) (by kernel_rfl) (by kernel_rfl) ?_ ?_ h8 ?_
        rotate_left 2
        · simp only [List.getElem?_toArray, List.getElem?_cons_zero, List.getElem?_cons_succ]; rfl
        · exact fun _ _ _ h => h
        · refine Or.inl ⟨by rfl, ?_⟩
          intro w hSw
          (try dsimp only at hSw)
          go_simp
          (try with_reducible rfl)
        (try simp only [Act.put, List.setIfInBounds_toArray, List.set_cons_zero, List.set_cons_succ])
        refine wpAnyH_ready (rs := [10]) (by kernel_rfl) (by simp) ?_
        refine AllReadyH.cons (o := ?_) ?_ (fun K hK => ?_) AllReadyH.nil
        rotate_left
        · simp only [List.getElem?_toArray, List.getElem?_cons_zero, List.getElem?_cons_succ]; rfl
        go_simp
        refine hK.out _ _ S10 (fun h10 => ?_)
        clear hK K
        (try simp only [Act.put, List.setIfInBounds_toArray, List.set_cons_zero, List.set_cons_succ])
        refine wpAnyH_done (by kernel_rfl) ?_ _
        refine NoPanic.normal ?_
        clear h0 h1 h2 h8 h10 hr
        go_wp2_with fail
        go_roundw
        case rel => exact ⟨k + 1, HLT.out, NEXT.out, FIN⟩
        case measure => simp [intOf]
    · obtain rfl : k = n := by omega
      rw [← HN.out] at hq
      rw [Nat.sub_self, List.drop_zero] at hq
      have hq0 := Lib.hid (hq.base X3.out (fun y hy => SeenW.numbers SLV.out y (List.mem_reverse.1 hy)))
      have hsz : l.reverse.length + l.length ≤ 10000 := by rw [List.length_reverse]; have := HN.out; omega
      obtain ⟨A5, n5, c5, w5, hr, hn5, hq5, g0, gf, _, _⟩ := hq.puts A l k c (SLV.out.ext (X3.out.trans hq.x)) HN.out (fun y hy => SeenW.numbers (SLV.out.ext X3.out) y hy) hsz 34
      have q5 : wr.cell? ⟨Q, 0, none⟩ = some vl := hq.box.cell 0
      have q0 : wr.cell? ⟨R, 0, none⟩ = some (.slice A k c) := hq.x.at q0w.out
      have h5b : (w5.setCell ⟨Q, 0, none⟩ (.slice A5 n5 c5)).cell? ⟨Q, 0, none⟩ = some (.slice A5 n5 c5) := hq5.box.cell 0
      have h5c : (w5.setCell ⟨Q, 0, none⟩ (.slice A5 n5 c5)).cell? ⟨Q, 1, none⟩ = some (.slice none 0 0) := hq5.box.cell 1
      have HQ5 := Lib.hid hq5
      clear hh hq hq5 hq0 hsz
      have ALLP := Lib.hid (show (l.reverse ++ l).all (fun y => patB (tn y)) = true from List.all_eq_true.2 (fun y hy => HPAT.out y ((List.mem_append.1 hy).elim List.mem_reverse.1 id)))
      have HLEN := Lib.hid (show (l.reverse ++ l).length ≤ 280 by rw [List.length_append, List.length_reverse]; have := HN.out; omega)
      have OKQ := Lib.hid (show ∀ y ∈ l.reverse ++ l, y.Ok from fun y hy => OKL.out y ((List.mem_append.1 hy).elim List.mem_reverse.1 id))
      have INQ := Lib.hid (show ∀ y ∈ l.reverse ++ l, SeenL V y.A y.ns from fun y hy => SeenW.numbers SLV.out y ((List.mem_append.1 hy).elim List.mem_reverse.1 id))
      have HPQ := Lib.hid (show ∀ t, t ∈ l.map tn ↔ t ∈ (l.reverse ++ l).map tn from fun t => by simp)
      have HN5 := Lib.hid hn5
      clear hn5
      go_upto_region 13 with (first | (at_builtin; refine wpList_ran rfl _ _ rfl hr ?_))
      generalize w5.setCell ⟨Q, 0, none⟩ (.slice A5 n5 c5) = w6 at *
      have T6 := Lib.hid (T3.out.ext HQ5.out.x)
      have QV := Lib.hid (HQ5.out.base X3.out INQ.out)
      have X6 := Lib.hid QV.out.x
      have BQ := Lib.hid (show B < Q ∧ V.heap.size ≤ B from ⟨by rw [← HQ.out]; exact T3.out.lt, HB.out⟩)
      have NW := Lib.hid (QV.out.new_yes OKQ.out (by have := HLEN.out; omega) ALLP.out)
      generalize (l.reverse ++ l) = q1l at *
      have HFQ := Lib.hid (show ∀ k, F k → k < Q from fun k hk => by rw [← HQ.out]; exact T3.out.low k hk)
      obtain ⟨N6, hN6⟩ : ∃ N6, N6 = w6.heap.size := ⟨_, rfl⟩
      have HO6 := Lib.hid (show Q < N6 ∧ ∀ g, (Value.slice A5 n5 c5).ownBlock = some g → Q < g ∧ g < N6 from ⟨by rw [hN6]; exact QV.out.bw, fun g e => by have := QV.out.row.lt g e; rw [hN6]; omega⟩)
      clear hr g0 gf q5 q0 T3 HQ5 HB
      go_wp2_with fail
      refine NW.out.mono ?_; rintro e w7 ⟨B2, F2, rfl, x7, T27, hB2, hF2⟩
      have AP := Lib.hid (Apart.new T6.out hB2 hF2)
      have T7 := Lib.hid (T6.out.ext x7)
      have T27 := Lib.hid T27
      have QV7 := Lib.hid (QV.out.ext x7)
      have HB2 := Lib.hid (show V.heap.size ≤ B2 ∧ N6 ≤ B2 ∧ (∀ k, F2 k → N6 ≤ k) ∧ N6 ≤ w7.heap.size from ⟨Nat.le_trans X6.out.size hB2, by rw [hN6]; exact hB2, fun k hk => by rw [hN6]; exact hF2 k hk, by rw [hN6]; exact x7.size⟩)
      have X7 := Lib.hid (X6.out.trans x7)
      have VA := Lib.hid (vals_any w7 B F _ T7.out s)
      have HVA := Lib.hid (valsL_congr HPQ.out s.data.toList)
      clear NW x7 hB2 hF2 T6 QV X6 hN6
      go_wp2_with fail
      refine VA.out.mono ?_; rintro e w8 ⟨b8, F8, A8, c8, rfl, T8, hF8, s8, ha8⟩
      generalize hva : valsL (l.map tn) s.data.toList = va at *
      have HV1 := Lib.hid hva
      have OB := Lib.hid (show B ≠ Q ∧ (∀ g, (Value.slice A5 n5 c5).ownBlock = some g → g ≠ B ∧ g ≠ B2) ∧ B2 ≠ Q from by
        have h1 := BQ.out
        have h2 := HB2.out
        have h3 := HO6.out
        exact ⟨by omega, fun g e => by have := h3.2 g e; omega, by omega⟩)
      have HF8 := Lib.hid (show ∀ k, F8 k → k < Q ∨ N6 ≤ k from fun k hk => (hF8 k hk).elim (fun h => .inl (HFQ.out k h)) (fun h => .inr (by have := HB2.out.2.2.2; omega)))
      have AP8 := Lib.hid (AP.out.asked T27.out hF8)
      have T28 := Lib.hid (T27.out.beside b8 AP.out.symm)
      have X8 := Lib.hid (b8.ext X7.out (fun k hk => by rw [show k = B from hk]; exact BQ.out.2))
      have QV8 := Lib.hid (QV7.out.keepB b8 (fun k hk => by
        rw [show k = B from hk]
        exact ⟨BQ.out.2, OB.out.1, fun e => (OB.out.2.1 _ e).1 rfl⟩))
      have HA8 := Lib.hid (show ∀ ad, A8 = some ad → w7.heap.size ≤ ad.block ∧ B2 < w7.heap.size ∧ B < w7.heap.size from fun ad e => ⟨(ha8 ad e).1, T27.out.lt, T7.out.lt⟩)
      have S8 := Lib.hid s8
      have SZ8 := Lib.hid b8.size
      have T8 := Lib.hid T8
      have VU := Lib.hid (vals_any w8 B2 F2 _ T28.out s)
      clear VA b8 hF8 s8 ha8 hva T7 T27 X7 QV7 AP
      go_wp2_with fail
      refine VU.out.mono ?_; rintro e w9 ⟨b9, F9, A9, c9, rfl, T9, hF9, s9, ha9⟩
      rw [← HVA.out] at s9 ⊢
      have AP9 := Lib.hid ((AP8.out.symm.asked T8.out hF9).symm)
      have HF9 := Lib.hid (show ∀ k, F9 k → N6 ≤ k from fun k hk => (hF9 k hk).elim (HB2.out.2.2.1 k) (fun h => by have h1 := HB2.out.2.2.2; have h2 := SZ8.out; omega))
      have T19 := Lib.hid (T8.out.beside b9 AP8.out)
      have T29 := Lib.hid T9
      have X9 := Lib.hid (b9.ext X8.out (fun k hk => by rw [show k = B2 from hk]; exact HB2.out.1))
      have QV9 := Lib.hid (QV8.out.keepB b9 (fun k hk => by
        rw [show k = B2 from hk]
        exact ⟨HB2.out.1, OB.out.2.2, fun e => (OB.out.2.1 _ e).2 rfl⟩))
      have S9 := Lib.hid (seenL_but S8.out b9 (fun ad e h => by have := HA8.out ad e; have h' : ad.block = B2 := h; omega))
      have SM := Lib.hid (same_lists A8 A9 va va c8 c9 w9 S9.out s9 (by
        have h1 := HV1.out
        rw [← h1]
        unfold valsL
        split
        · rename_i h
          have h2 := (plain_len h).2
          simp only [List.length_map, List.length_range]
          omega
        · simp))
      rw [decide_eq_true rfl] at SM
      clear VU b9 hF9 s9 ha9 T8 T28 X8 QV8 S8 T9 AP8
      obtain ⟨za, hza⟩ : ∃ za, za = va.length := ⟨_, rfl⟩
      have HZA := Lib.hid hza
      rw [← hza] at SM ⊢
      clear hza
      go_wp2_with fail
      refine SM.out.mono ?_; rintro e w10 ⟨rfl, x10⟩
      have ND := Lib.hid (nodes_any w10 B F8 _ (T19.out.ext x10))
      have T2A := Lib.hid (T29.out.ext x10)
      have QVA := Lib.hid (QV9.out.ext x10)
      have SA := Lib.hid (S9.out.ext x10)
      have XA := Lib.hid (X9.out.trans x10)
      clear SM x10 T19 T29 QV9 S9 X9
      go_wp2_with fail
      refine ND.out.mono ?_; rintro e w11 ⟨rfl, b11, _⟩
      have ND2 := Lib.hid (nodes_any w11 B2 F9 _ (T2A.out.beside b11 AP9.out.symm))
      have LB := Lib.hid (T2A.out.beside b11 AP9.out.symm).lt
      have QVB := Lib.hid (QVA.out.keepB b11 (fun k hk => by
        rw [show k = B from hk]
        exact ⟨BQ.out.2, OB.out.1, fun e => (OB.out.2.1 _ e).1 rfl⟩))
      have SB := Lib.hid (seenL_but SA.out b11 (fun ad e h => by have := HA8.out ad e; have h' : ad.block = B := h; omega))
      have XB := Lib.hid (b11.ext XA.out (fun k hk => by rw [show k = B from hk]; exact BQ.out.2))
      obtain ⟨N1, hN1⟩ : ∃ N1, N1 = (nodesL (l.map tn)).length := ⟨_, rfl⟩
      have HN1 := Lib.hid hN1
      rw [← hN1]
      clear ND b11 T2A QVA SA XA hN1
      go_wp2_with fail
      refine ND2.out.mono ?_; rintro e w12 ⟨rfl, b12, F12, T12, hF12⟩
      rw [← nodes_congr HPQ.out, ← HN1.out]
      have QVC := Lib.hid (QVB.out.keepB b12 (fun k hk => by
        rw [show k = B2 from hk]
        exact ⟨HB2.out.1, OB.out.2.2, fun e => (OB.out.2.1 _ e).2 rfl⟩))
      have SC := Lib.hid (seenL_but SB.out b12 (fun ad e h => by have := HA8.out ad e; have h' : ad.block = B2 := h; omega))
      have XC := Lib.hid (b12.ext XB.out (fun k hk => by rw [show k = B2 from hk]; exact HB2.out.1))
      have TC := Lib.hid T12
      have HFC := Lib.hid (show ∀ k, F12 k → N6 ≤ k from fun k hk => (hF12 k hk).elim (HF9.out k) (fun h => by have h1 := HB2.out.2.1; have h2 := LB.out; omega))
      clear ND2 b12 QVB SB XB T12 hF12 AP9
      have r0 : w12.cell? ⟨R + 1, 0, none⟩ = some (.string xs) := XC.out.at (KX.out.cell 0)
      have r1 : w12.cell? ⟨R + 1, 1, none⟩ = some (.slice xA z xc) := XC.out.at (KX.out.cell 1)
      have q0 : w12.cell? ⟨Q, 0, none⟩ = some (.slice A5 n5 c5) := QVC.out.box.cell 0
      have xal : Ext w12 (w12.alloc (.cells #[.string xs, .slice xA z xc] 49)) := (Ext.refl _).alloc _
      have sw : SeenW (w12.alloc (.cells #[.string xs, .slice xA z xc] 49)) (some ⟨w12.heap.size, 0, none⟩) [⟨xs, xn, xA, xc⟩] :=
        blk_seenW (Blk.lit _ _ _ _ rfl) (by rw [HZ.out]; rfl) (fun y hy => by rw [List.mem_singleton.1 hy]; exact (SXV.out.ext XC.out).ext xal)
      obtain ⟨A14, n14, c14, w13, hr, hn14, QV14, g0, gf, _, b14⟩ := (QVC.out.ext xal).puts (some ⟨w12.heap.size, 0, none⟩) [⟨xs, xn, xA, xc⟩] 1 1 sw rfl (fun y hy => by rw [List.mem_singleton.1 hy]; exact SXV.out) (by have := HLEN.out; simp only [List.length_cons, List.length_nil]; omega) 34
      have g1 : (w12.alloc (.cells #[.string xs, .slice xA z xc] 49)).cell? ⟨Q, 0, none⟩ = some (.slice A5 n5 c5) := xal.at q0
      have b14 := (But.of_ext (S := fun k => k = Q ∨ (Value.slice A5 n5 c5).ownBlock = some k) xal).trans b14 (fun i hi => .inl hi)
      have h14 : (w13.setCell ⟨Q, 0, none⟩ (.slice A14 n14 c14)).cell? ⟨Q, 0, none⟩ = some (.slice A14 n14 c14) := QV14.box.cell 0
      have h14b : (w13.setCell ⟨Q, 0, none⟩ (.slice A14 n14 c14)).cell? ⟨Q, 1, none⟩ = some (.slice none 0 0) := QV14.box.cell 1
      have TD := Lib.hid (TC.out.keepB b14 (fun h => h.elim (fun e => OB.out.2.2 e) (fun e => (OB.out.2.1 _ e).2 rfl)) (fun k hk h => by
        have h1 := HFC.out k hk
        rcases h with h | h
        · have := HO6.out.1; omega
        · have := HO6.out.2 k h; omega))
      have SD := Lib.hid (seenL_but SC.out b14 (fun ad e h => by
        have h1 := HA8.out ad e
        have h2 := HB2.out.2.2.2
        rcases h with h | h
        · have := HO6.out.1; omega
        · have := HO6.out.2 _ h; omega))
      have QVD := Lib.hid QV14
      have XD := Lib.hid QV14.x
      have LD := Lib.hid (show ∀ ad, A8 = some ad → va ≠ [] → ad.block < (w13.setCell ⟨Q, 0, none⟩ (.slice A14 n14 c14)).heap.size from fun ad e hv => seenL_lt SD.out (List.length_pos_iff.2 hv) e)
      clear sw hn14 QV14 b14 xal TC SC QVC XC HFC
      go_upto_region 20 with (first | (at_builtin; refine wpList_ran rfl _ _ rfl hr ?_))
      generalize w13.setCell ⟨Q, 0, none⟩ (.slice A14 n14 c14) = w14 at *
      clear hr g0 gf g1 q0 r0 r1
      have OKX2 := Lib.hid (show ∀ y ∈ q1l ++ [⟨xs, xn, xA, xc⟩], y.Ok from fun y hy => (List.mem_append.1 hy).elim (OKQ.out y) (fun h => by rw [List.mem_singleton.1 h]; exact OKX.out))
      have HL2 := Lib.hid (show (q1l ++ [(⟨xs, xn, xA, xc⟩ : WP)]).length ≤ 300 by have := HLEN.out; simp only [List.length_append, List.length_cons, List.length_nil]; omega)
      cases hb : patB (tn ⟨xs, xn, xA, xc⟩) with
      | false =>
        have NW := Lib.hid (QVD.out.new_no OKX2.out HL2.out (by rw [List.all_append]; simp [hb]))
        clear hb
        go_wp2_with fail
        refine NW.out.mono ?_; rintro e w15 ⟨rfl, x15⟩
        have XE := Lib.hid ((HX.out.trans XD.out).trans x15)
        clear NW x15
        go_wp2_with fail
        go_ret
        exact ⟨rfl, XE.out⟩
      | true =>
        have NW := Lib.hid (QVD.out.new_yes OKX2.out HL2.out (by rw [List.all_append, ALLP.out]; simp [hb]))
        clear hb
        go_wp2_with fail
        refine NW.out.mono ?_; rintro e w15 ⟨B3, F3, rfl, x15, T15, hB3, hF3⟩
        have AP := Lib.hid (Apart.new TD.out hB3 hF3)
        have TU := Lib.hid (TD.out.ext x15)
        have SE := Lib.hid (SD.out.ext x15)
        have XE := Lib.hid (XD.out.trans x15)
        have HB3 := Lib.hid (show V.heap.size ≤ B3 from Nat.le_trans XD.out.size hB3)
        have LE := Lib.hid (show ∀ ad, A8 = some ad → va ≠ [] → ad.block < B3 from fun ad e hv => by have := LD.out ad e hv; omega)
        have VV := Lib.hid (vals_any w15 B3 F3 _ T15 s)
        have T15 := Lib.hid T15
        clear NW x15 hB3 hF3 TD SD QVD XD LD
        go_wp2_with fail
        refine VV.out.mono ?_; rintro e w16 ⟨b16, F16, A16, c16, rfl, T16, hF16, s16, ha16⟩
        have L16 := Lib.hid (show ∀ ad, A16 = some ad → w15.heap.size ≤ ad.block ∧ B3 < w15.heap.size ∧ B2 < w15.heap.size from fun ad e => ⟨(ha16 ad e).1, T15.out.lt, TU.out.lt⟩)
        have VM := Lib.hid (show (valsL ((q1l ++ [(⟨xs, xn, xA, xc⟩ : WP)]).map tn) s.data.toList).length = za ∧ ∀ j, va.getD j 0 ≤ (valsL ((q1l ++ [(⟨xs, xn, xA, xc⟩ : WP)]).map tn) s.data.toList).getD j 0 by
          rw [List.map_append, HVA.out, HZA.out, HVA.out]
          exact vals_more _ _ _)
        have SG := Lib.hid (seenL_keep SE.out b16 (fun hv ad e h => by have := LE.out ad e hv; have h' : ad.block = B3 := h; omega))
        have XG := Lib.hid (b16.ext XE.out (fun k hk => by rw [show k = B3 from hk]; exact HB3.out))
        have S16 := Lib.hid s16
        have ND3 := Lib.hid (nodes_any w16 B3 F16 _ T16)
        have APG := Lib.hid ((AP.out.symm.asked TU.out hF16).symm)
        have TG := Lib.hid (TU.out.beside b16 AP.out)
        generalize valsL ((q1l ++ [(⟨xs, xn, xA, xc⟩ : WP)]).map tn) s.data.toList = vb at *
        have hvbl := VM.out.1
        rw [hvbl]
        have HVB := Lib.hid hvbl
        clear VV b16 s16 T16 hF16 SE XE T15 TU AP hvbl ha16
        go_wp2_with fail
        refine ND3.out.mono ?_; rintro e w17 ⟨rfl, b17, _⟩
        have ND4 := Lib.hid (nodes_any w17 B2 F12 _ (TG.out.beside b17 APG.out))
        have SH := Lib.hid (seenL_keep SG.out b17 (fun hv ad e h => by have := LE.out ad e hv; have h' : ad.block = B3 := h; omega))
        have XH := Lib.hid (b17.ext XG.out (fun k hk => by rw [show k = B3 from hk]; exact HB3.out))
        have TB := Lib.hid (seenL_but S16.out b17 (fun ad e h => by have := L16.out ad e; have h' : ad.block = B3 := h; omega))
        have HNN := Lib.hid (show N1 ≤ (nodesL ((q1l ++ [(⟨xs, xn, xA, xc⟩ : WP)]).map tn)).length by
          rw [HN1.out, nodes_congr HPQ.out]
          exact nodes_le (fun y hy => by rw [List.map_append]; exact List.mem_append.2 (.inl hy)))
        have hnn := HNN.out
        generalize (nodesL ((q1l ++ [(⟨xs, xn, xA, xc⟩ : WP)]).map tn)).length = N3 at *
        clear ND3 b17 SG XG S16 APG TG
        go_wp2_with fail
        refine ND4.out.mono ?_; rintro e w18 ⟨rfl, b18, _⟩
        rw [← nodes_congr HPQ.out, ← HN1.out]
        have SI := Lib.hid (seenL_but SH.out b18 (fun ad e h => by have := HA8.out ad e; have h' : ad.block = B2 := h; omega))
        have TI := Lib.hid (seenL_but TB.out b18 (fun ad e h => by have := L16.out ad e; have h' : ad.block = B2 := h; omega))
        have XI := Lib.hid (HX.out.trans (b18.ext XH.out (fun k hk => by rw [show k = B2 from hk]; exact HB2.out.1)))
        have hza : za ≤ 100 := by
          have h1 := HZA.out
          rw [← HV1.out] at h1
          rw [h1]
          unfold valsL
          split
          · rename_i h
            have h2 := (plain_len h).2
            simp only [List.length_map, List.length_range]
            omega
          · simp
        clear ND4 b18 SH TB XH
        go_wp2_with fail
        go_loopw [18] (fun i wr => ∃ k : Nat, k ≤ za ∧ i = .int .i64 k ∧ Ext w18 wr) (fun i _ => za - (intOf i).toNat)
        case atStart => exact ⟨0, Nat.zero_le _, rfl, Ext.refl _⟩
        case round =>
          obtain ⟨k, hk, rfl, xr⟩ := hrel
          by_cases hlt : k < za
          · have h1 : k < va.length := by rw [← HZA.out]; exact hlt
            have h2 : k < vb.length := by rw [HVB.out]; exact hlt
            obtain ⟨a1, rfl, c1⟩ := (SI.out.ext xr).get h1
            obtain ⟨a2, rfl, c2⟩ := (TI.out.ext xr).get h2
            have hle := VM.out.2 k
            have XR := Lib.hid xr
            clear xr
            generalize va.getD k 0 = u1 at *
            generalize vb.getD k 0 = u2 at *
            go_wp2_with fail
            go_quiet (fail)
            rename_i nq
            have X2 := Lib.hid (XR.out.trans ((Ext.refl _).drewN nq))
            go_wp2_with fail
            go_roundw
            case rel => exact ⟨k + 1, by omega, by go_num, X2.out⟩
            case measure => simp [intOf]; omega
          · obtain rfl : k = za := by omega
            go_wp2_with fail
            go_ret
            exact ⟨rfl, XI.out.trans xr⟩

set_option maxRecDepth 100000 in
set_option maxHeartbeats 16000000 in
theorem short (D : PatsD) (P : PatsP) (x : WP) (s : ByteArray) (w : World) (sn : SeenPats w D P) (h : fewD D = false ∨ 140 < D.l.length ∨ 60 < s.size ∨ 60 < x.s.size ∨ 60 < x.ns.length) :
    Calls Try.prog 5 #[patsV D P, wpV x, .string s] w (Ret w (.bool true)) := by
  obtain ⟨V, hV⟩ : ∃ V, V = (w.alloc (.cells #[.slice P.x D.l.length P.c, .slice P.y D.m.length P.d] 37)).alloc (.cells #[.string x.s, .slice x.A x.ns.length x.c] 49) := ⟨_, rfl⟩
  have W0 : Ext w V := by rw [hV]; exact ((Ext.refl _).alloc _).alloc _
  have kB : Blk V w.heap.size 37 [.slice P.x D.l.length P.c, .slice P.y D.m.length P.d] := by rw [hV]; exact (Blk.lit w _ _ _ rfl).ext ((Ext.refl _).alloc _)
  have kX : Blk V (w.heap.size + 1) 49 [.string x.s, .slice x.A x.ns.length x.c] := by rw [hV]; exact Blk.lit _ _ _ _ (by simp)
  obtain ⟨b, hb⟩ : ∃ b, fewD D = b := ⟨_, rfl⟩
  have FEW := Lib.hid (fun w' (x : Ext V w') => by have := fewp_any D P w' ((sn.ext W0).ext x); rw [hb] at this; exact this)
  have HC := Lib.hid (show b = false ∨ (b = true ∧ (140 < D.l.length ∨ (D.l.length ≤ 140 ∧ (60 < s.size ∨ (s.size ≤ 60 ∧ (60 < x.s.size ∨ (x.s.size ≤ 60 ∧ 60 < x.ns.length))))))) by
    cases b with
    | false => exact .inl rfl
    | true =>
      have h2 := h.resolve_left (fun e => by rw [hb] at e; cases e)
      exact .inr ⟨rfl, by omega⟩)
  have AW := Lib.hid (awake_any V)
  unfold patsV at FEW ⊢
  unfold wpV
  have HX := Lib.hid W0
  clear sn hb h W0
  generalize D.l.length = n at *
  generalize D.m.length = q at *
  obtain ⟨A, c, A2, d⟩ := P
  obtain ⟨xs, xn, xA, xc⟩ := x
  dsimp only at *
  generalize xn.length = z at *
  go_enter Try.func5, Try.ntmps5
  go_upto_region 1 with (fail)
  rw [← hV]
  clear hV
  generalize w.heap.size = R at *
  go_wp2_with fail
  refine AW.out.mono ?_; rintro e w1 ⟨rfl, x1⟩
  have q0 : w1.cell? ⟨R, 0, none⟩ = some (.slice A n c) := (kB.ext x1).cell 0
  have q1 : w1.cell? ⟨R, 1, none⟩ = some (.slice A2 q d) := (kB.ext x1).cell 1
  have r0 : w1.cell? ⟨R + 1, 0, none⟩ = some (.string xs) := (kX.ext x1).cell 0
  have r1 : w1.cell? ⟨R + 1, 1, none⟩ = some (.slice xA z xc) := (kX.ext x1).cell 1
  clear kB kX
  go_wp2_with fail
  refine (FEW.out _ x1).mono ?_; rintro e w2 ⟨rfl, x2⟩
  have q0 := x2.at q0
  have r0 := x2.at r0
  have r1 := x2.at r1
  have FIN := Lib.hid (show Ext w w2 from (HX.out.trans x1).trans x2)
  clear x1 x2 q1
  rcases HC.out with rfl | ⟨rfl, h1 | ⟨h1, h2 | ⟨h2, h3 | ⟨h3, h4⟩⟩⟩⟩
  all_goals
    go_wp2_with fail
    go_ret
    exact ⟨rfl, FIN.out⟩

set_option maxRecDepth 100000 in
set_option maxHeartbeats 16000000 in
theorem none_ (D : PatsD) (P : PatsP) (ok : PatsOk D P) (x : WP) (s : ByteArray) (hs : s.size ≤ 60) (w : World) (sn : SeenPats w D P) (hf : fewD D = true) (hn : D.l.length ≤ 140) (hx1 : x.s.size ≤ 60) (hx2 : x.ns.length ≤ 60) (hp : patsB (rd D) = false) :
    Calls Try.prog 5 #[patsV D P, wpV x, .string s] w (Ret w (.bool true)) := by
  obtain ⟨f1, f2, f3⟩ := few_len hf
  obtain ⟨V, hV⟩ : ∃ V, V = (w.alloc (.cells #[.slice P.x D.l.length P.c, .slice P.y D.m.length P.d] 37)).alloc (.cells #[.string x.s, .slice x.A x.ns.length x.c] 49) := ⟨_, rfl⟩
  have W0 : Ext w V := by rw [hV]; exact ((Ext.refl _).alloc _).alloc _
  have kB : Blk V w.heap.size 37 [.slice P.x D.l.length P.c, .slice P.y D.m.length P.d] := by rw [hV]; exact (Blk.lit w _ _ _ rfl).ext ((Ext.refl _).alloc _)
  have kX : Blk V (w.heap.size + 1) 49 [.string x.s, .slice x.A x.ns.length x.c] := by rw [hV]; exact Blk.lit _ _ _ _ (by simp)
  have FEW := Lib.hid (fun w' (x : Ext V w') => by have := fewp_any D P w' ((sn.ext W0).ext x); rw [hf] at this; exact this)
  have NEW := Lib.hid (fun w' (x : Ext V w') => new_no D P ok.li ok.mi w' ((sn.ext W0).ext x) (by omega) (by omega) hp)
  have AW := Lib.hid (awake_any V)
  unfold patsV at FEW NEW ⊢
  unfold wpV
  have HX := Lib.hid W0
  clear sn ok hp hf f1 f2 f3 W0
  generalize D.l.length = n at *
  generalize D.m.length = q at *
  obtain ⟨A, c, A2, d⟩ := P
  obtain ⟨xs, xn, xA, xc⟩ := x
  dsimp only at *
  generalize xn.length = z at *
  go_enter Try.func5, Try.ntmps5
  go_upto_region 1 with (fail)
  rw [← hV]
  clear hV
  generalize w.heap.size = R at *
  go_wp2_with fail
  refine AW.out.mono ?_; rintro e w1 ⟨rfl, x1⟩
  have q0 : w1.cell? ⟨R, 0, none⟩ = some (.slice A n c) := (kB.ext x1).cell 0
  have q1 : w1.cell? ⟨R, 1, none⟩ = some (.slice A2 q d) := (kB.ext x1).cell 1
  have r0 : w1.cell? ⟨R + 1, 0, none⟩ = some (.string xs) := (kX.ext x1).cell 0
  have r1 : w1.cell? ⟨R + 1, 1, none⟩ = some (.slice xA z xc) := (kX.ext x1).cell 1
  have X1 := Lib.hid x1
  clear kB kX x1
  go_wp2_with fail
  refine (FEW.out _ X1.out).mono ?_; rintro e w2 ⟨rfl, x2⟩
  have q0 := x2.at q0
  have q1 := x2.at q1
  have r0 := x2.at r0
  have r1 := x2.at r1
  have X2 := Lib.hid (X1.out.trans x2)
  clear x2 FEW
  go_wp2_with fail
  refine (NEW.out _ X2.out).mono ?_; rintro e w3 ⟨rfl, x3⟩
  have X3 := Lib.hid ((HX.out.trans X2.out).trans x3)
  clear x3 NEW
  go_wp2_with fail
  go_ret
  exact ⟨rfl, X3.out⟩
theorem walk (D : PatsD) (P : PatsP) (ok : PatsOk D P) (x : WP) (okx : x.Ok) (s : ByteArray) (_ : s.size ≤ maxLen) (w : World) (sn : SeenPats w D P) (sx : SeenL w x.A x.ns) :
    Calls Try.prog 5 #[patsV D P, wpV x, .string s] w (Ret w (.bool true)) := by
  cases hf : fewD D with
  | false => exact short D P x s w sn (.inl hf)
  | true =>
    by_cases h1 : D.l.length ≤ 140
    · by_cases h2 : s.size ≤ 60
      · by_cases h3 : x.s.size ≤ 60
        · by_cases h4 : x.ns.length ≤ 60
          · cases hp : patsB (rd D) with
            | false => exact none_ D P ok x s h2 w sn hf h1 h3 h4 hp
            | true => exact main D P ok x okx s h2 w sn sx hf h1 h3 h4 hp
          · exact short D P x s w sn (.inr (.inr (.inr (.inr (by omega)))))
        · exact short D P x s w sn (.inr (.inr (.inr (.inl (by omega)))))
      · exact short D P x s w sn (.inr (.inr (.inl (by omega))))
    · exact short D P x s w sn (.inr (.inl (by omega)))

set_option maxRecDepth 100000 in
theorem lifted (os : Os) (started : os.Started) (H : Type) (enc : TypeId × Value → H) :
    ReturnsInHanded {} Try.checked os 5 .any (Rows.trieMixesSpec.pre6 enc Try.prog Try.f5 [] false) (Rows.trieMixesSpec.post enc Try.prog Try.f5 false true false false) := by
  refine law_lift (C := Try.checked) own started (by kernel_rfl) Try.func5 laidOut rfl rfl Try.underlying4 (by kernel_rfl) ?_
    (ChangeSpec.witness6 (enc := enc) (C := Try.checked) false ⟨#[], #[.agg #[.slice none 0 0, .slice none 0 0], .agg #[.string ByteArray.empty, .slice none 0 0], .string ByteArray.empty], []⟩ 8 (by kernel_rfl) (by kernel_rfl) (by kernel_rfl) (by kernel_rfl)) ?_
  · intro H ds h
    match ds, h with
    | [_, _, _], _ => rfl
  · intro W base args ds p hval hA hlt hwt hsh
    rw [Try.params5] at hA hval
    obtain ⟨v0, vs0, d0, ds0, p0, q0, hargs, rfl, rfl, h0, r0⟩ := trodAll_cons hA
    obtain ⟨v1, vs1, d1, ds1, p1, q1, rfl, rfl, rfl, h1, r1⟩ := trodAll_cons r0
    obtain ⟨v2, vs2, d2, ds2, p2, q2, rfl, rfl, rfl, h2, r2⟩ := trodAll_cons r1
    obtain ⟨rfl, rfl, rfl⟩ := trodAll_nil r2
    obtain rfl : args = #[v0, v1, v2] := by cases args; simp_all
    obtain ⟨D0, P0, rfl, ok0, hs0⟩ := arg_pats (hval 0 37 v0 rfl rfl) h0
    obtain ⟨x1, rfl, ok1, hs1⟩ := arg_pat (hval 1 49 v1 rfl rfl) h1
    obtain ⟨a2, rfl, rfl, rfl, hs2⟩ := Go.ChangeMaps.open_string Try.underlying9 (hval 2 9 v2 rfl rfl) h2
    exact walk D0 P0 ok0 x1 ok1 a2 hs2 W hs0 hs1

theorem holds : Rows.TrieMixesSaid :=
  OpenClaim.holds_of_wide 5 Try.f5 rfl rfl rfl rfl rfl rfl rfl ⟨rfl, rfl, rfl, rfl, rfl⟩ rfl rfl rfl rfl rfl (by kernel_rfl) Try.func5 (by kernel_rfl)
    (of_decide_eq_true (by kernel_rfl)) (by unfold Func.isWrapper; first | (rw [if_pos (by decide +kernel)]; kernel_rfl) | (rw [if_neg (by decide +kernel)]; exact ⟨rfl, rfl⟩))
    (fun os started H enc _ => lifted os started H enc)
end TrieMixes
end Go.Proofs.Ytfdoohangemojaa

