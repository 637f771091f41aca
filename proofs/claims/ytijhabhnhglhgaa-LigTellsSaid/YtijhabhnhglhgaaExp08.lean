/- What a ligature is made of: the landed expanded, over whatever map, and Expand. -/
import Derived.Test.YtijhabhnhglhgaaChkSet08
import Derived.Deep.RegionHeld3
import Derived.Deep.RegionLaw
import Derived.OpenShut
namespace Go.Proofs.Ytijhabhnhglhgaa
open Go.RowKit Go.Lib Go.Deep
namespace L08
open L07

/-- An append within a region that draws its order, whose run is known. -/
theorem step_app {P : Program} {ops : Array Oper} {o : Oper} {a : Act} {w w' : World} {K : Act → World → Prop} {Q : Exit → Act → World → Prop} {E : Prop} {t : TypeId} {v : Value} (s x : Operand)
    (ho : o.op = .call { callee := .builtin .append, args := #[s, x], argTypes := #[t, t] }) (hw : Region.wanted o (yielded ops a.tmps) = true) (hrun : (Builtin.append_ #[t, t] o.type #[a.eval s, a.eval x]).run P w = .ok v w')
    (h : K (a.put o.dst v) w') : if Region.wanted o (yielded ops a.tmps) = true then Oper.wp P o a w K Q else E := by
  rw [if_pos hw]
  unfold Oper.wp execOp
  simp only [ho, resolve, invoke, builtin, Sem.run_bind, Sem.run_pure, Result.andThen_ok, List.map_toArray, List.map_cons, List.map_nil, hrun]
  exact h

/-- All blocks but one are as they were. -/
structure Kpt (r : Option Nat) (w w' : World) : Prop where
  size : w.heap.size ≤ w'.heap.size
  same : ∀ b, b < w.heap.size → some b ≠ r → w'.heap[b]? = w.heap[b]?
theorem Kpt.of_grown {r : Option Nat} {w w' : World} (h : w.grownBy w' r) : Kpt r w w' := ⟨h.size, fun b hb hn => h.block b hb hn⟩
theorem Kpt.alloc {r : Option Nat} {w w' : World} (h : Kpt r w w') (o : Obj) : Kpt r w (w'.alloc o) :=
  ⟨Nat.le_trans h.size (by simp), fun b hb hn => (((Ext.refl w').alloc o).block b (Nat.lt_of_lt_of_le hb h.size)).trans (h.same b hb hn)⟩
theorem Kpt.refl (r : Option Nat) (w : World) : Kpt r w w := ⟨Nat.le_refl _, fun _ _ _ => rfl⟩
theorem Kpt.of_ext {r : Option Nat} {w w' : World} (h : Ext w w') : Kpt r w w' := ⟨h.size, fun b hb _ => h.block b hb⟩
/-- The row of the first is the row of the second, or a new one. -/
theorem Kpt.trans {r r' : Option Nat} {a b c : World} (h : Kpt r a b) (k : Kpt r' b c) (hr : r' = r ∨ ∀ n, r' = some n → a.heap.size ≤ n) : Kpt r a c :=
  ⟨Nat.le_trans h.size k.size, fun n hn hne => by
    refine (k.same n (Nat.lt_of_lt_of_le hn h.size) fun e => ?_).trans (h.same n hn hne)
    rcases hr with rfl | hr
    · exact hne e
    · have := hr n e.symm; omega⟩
theorem Kpt.blk {r : Option Nat} {w w' : World} {b : Nat} {t : TypeId} {cs : List Value} (h : Kpt r w w') (hb : Blk w b t cs) (hne : some b ≠ r) : Blk w' b t cs := (h.same b hb.lt hne).trans hb

theorem int_info : (Try.prog.info? 3).map (fun i => (i.zero, i.size, i.bytes)) = some (some (.int .i64 0), 1, 8) := by kernel_rfl
/-- append(own, x). -/
theorem run_put1 {w w0 : World} {v : Value} {k : Nat} {xs : List Value} (hown : w.ownsRow w0.heap.size 3 1 v k xs) (x0 : Ext w0 w) (a : Addr) (x : Int) (hc : w.cell? a = some (.int .i64 x)) (hk : k ≤ 900000000) (ty : TypeId) :
    ∃ v' w', (Builtin.append_ #[25, 25] ty #[v, .slice (some a) 1 1]).run Try.prog w = .ok v' w' ∧ w'.ownsRow w0.heap.size 3 1 v' (k + 1) (xs ++ [.int .i64 x]) ∧ Ext w0 w' ∧ Kpt v.ownBlock w w' ∧ (v'.ownBlock = v.ownBlock ∨ ∀ n, v'.ownBlock = some n → w.heap.size ≤ n) := by
  obtain ⟨i, hi, hz0, hsz', hby⟩ := info_parts int_info
  obtain ⟨v', w', hr, ho, hg, _, hat⟩ := run_append_own_at (P := Try.prog) (w := w) w0.heap.size 25 ty 3 i (.int .i64 0) 1 8 Try.underlying25 hi hz0 hsz' hby rfl (by decide) v k xs hown a 1 1 [.int .i64 x] rfl
    (fun j u hu => by
      cases j with
      | zero => simp at hu; subst hu; simpa [Addr.add] using hc
      | succ j => simp at hu) (by simp [Value.oneCell']) (by unfold maxLen; omega) (by omega) x0.size
  refine ⟨v', w', hr, ho, Below.grown x0 hg x0.size (fun n e => (hown.lt n e).1), Kpt.of_grown hg, ?_⟩
  rcases hat with h | h
  · exact .inl h
  · exact .inr fun n e => by rw [h] at e; cases e; exact Nat.le_refl _

theorem exp1_length (m : MapN) : ∀ (f : Nat) (c : Int), (exp1 m f c).length ≤ f + 1
  | 0, _ => by simp [exp1]
  | f + 1, c => by
    simp only [exp1]
    cases m c with
    | none => simp
    | some p => have := exp1_length m f p.1; simp; omega

/-- What expanded answers. -/
def ExpQ (w0 w : World) (v : Value) (k : Nat) (xs : List Value) (l : List Int) (e : Ending) (w' : World) : Prop :=
  ∃ v', e = .returned v' ∧ w'.ownsRow w0.heap.size 3 1 v' (k + l.length) (xs ++ l.map (.int .i64)) ∧ Ext w0 w' ∧ Kpt v.ownBlock w w' ∧ (v'.ownBlock = v.ownBlock ∨ ∀ n, v'.ownBlock = some n → w.heap.size ≤ n)

set_option maxRecDepth 100000 in
set_option maxHeartbeats 4000000 in
theorem expanded_none (w0 : World) (bm n : Nat) (m : MapN) (hm : MapF w0 bm n m) (c : Int) (hc : -9223372036854775808 ≤ c ∧ c ≤ 9223372036854775807) (hmc : m c = none) (v : Value) (k : Nat) (xs : List Value) (w : World) (x0 : Ext w0 w)
    (hown : w.ownsRow w0.heap.size 3 1 v k xs) (hk : k ≤ 900000000) : Calls Try.prog 34 #[v, .map (some bm), .int .i64 c] w (ExpQ w0 w v k xs [c]) := by
  have hlk := (hm.ext x0).look c hc
  have hp : pairOf m c = (0, 0) := by rw [pairOf, hmc]; rfl
  rw [hmc, hp] at hlk
  have hlk : (Instr.lookup 62 (.map (some bm)) (.int .i64 c) true).run Try.prog w = .ok (.tuple #[.agg #[.int .i64 0, .int .i64 0], .bool false]) w := hlk
  have y : Ext w ((w.alloc (.cells #[.int .i64 0, .int .i64 0] 103)).alloc (.cells #[.int .i64 c] 3)) := ((Ext.refl _).alloc _).alloc _
  have hown2 : ((w.alloc (.cells #[.int .i64 0, .int .i64 0] 103)).alloc (.cells #[.int .i64 c] 3)).ownsRow w0.heap.size 3 1 v k xs := (hown.alloc _).alloc _
  obtain ⟨v', w', hr, ho, hx, hkp, hat⟩ := run_put1 hown2 (x0.trans y) ⟨w.heap.size + 1, 0, none⟩ c (by simp) hk 25
  have HF := Lib.hid (show ExpQ w0 w v k xs [c] (.returned v') w' from ⟨v', rfl, ho, hx, (Kpt.of_ext y).trans hkp (.inl rfl), hat.imp id fun h n e => by have := h n e; simp at this; omega⟩)
  clear hm hown hown2 ho hx hkp hat hp hmc x0
  go_enter Try.func34, Try.ntmps34
  go_wp2_with (at_builtin; refine wpList_ran rfl _ _ rfl hr ?_)
  go_ret
  exact HF.out

set_option maxRecDepth 100000 in
set_option maxHeartbeats 8000000 in
theorem expanded_any (w0 : World) (bm n : Nat) (m : MapN) (hm : MapF w0 bm n m) (hf : ∀ c p, m c = some p → 128 ≤ c ∧ c < 256 ∧ 0 ≤ p.1 ∧ p.1 < c ∧ 0 ≤ p.2 ∧ p.2 < 128) :
    ∀ (f : Nat) (c : Int) (v : Value) (k : Nat) (xs : List Value) (w : World), (∀ p, m c = some p → c < f) → (-9223372036854775808 ≤ c ∧ c ≤ 9223372036854775807) → Ext w0 w → w.ownsRow w0.heap.size 3 1 v k xs → k + f ≤ 800000000 →
      Calls Try.prog 34 #[v, .map (some bm), .int .i64 c] w (ExpQ w0 w v k xs (exp1 m f c))
  | 0, c, v, k, xs, w, hcf, hc, x0, hown, hk => by
    have hmc : m c = none := by
      cases h : m c with
      | none => rfl
      | some p => have := hcf p h; have := hf c p h; omega
    exact expanded_none w0 bm n m hm c hc hmc v k xs w x0 hown (by omega)
  | f + 1, c, v, k, xs, w, hcf, hc, x0, hown, hk => by
    cases hmc : m c with
    | none =>
      rw [show exp1 m (f + 1) c = [c] by simp [exp1, hmc]]
      exact expanded_none w0 bm n m hm c hc hmc v k xs w x0 hown (by omega)
    | some p =>
      obtain ⟨p1, p2⟩ := p
      obtain ⟨c1, c2, c3, c4, c5, c6⟩ := hf c _ hmc
      have hcf' := hcf _ hmc
      rw [show exp1 m (f + 1) c = exp1 m f p1 ++ [p2] by simp [exp1, hmc]]
      have ih := fun w' (x : Ext w0 w') (ho : w'.ownsRow w0.heap.size 3 1 v k xs) => expanded_any w0 bm n m hm hf f p1 v k xs w' (fun q hq => by have := hf p1 q hq; omega) ⟨by omega, by omega⟩ x ho (by omega)
      have IH := Lib.hid ih
      have hL := exp1_length m f p1
      have hlk := (hm.ext x0).look c hc
      have hp : pairOf m c = (p1, p2) := by rw [pairOf, hmc]; rfl
      rw [hmc, hp] at hlk
      have hlk : (Instr.lookup 62 (.map (some bm)) (.int .i64 c) true).run Try.prog w = .ok (.tuple #[.agg #[.int .i64 p1, .int .i64 p2], .bool true]) w := hlk
      generalize exp1 m f p1 = L at *
      clear ih hp hmc hm hf hcf hcf'
      go_enter Try.func34, Try.ntmps34
      go_wp2_with fail
      obtain ⟨W, hW⟩ : ∃ W, W = w.alloc (.cells #[.int .i64 p1, .int .i64 p2] 103) := ⟨_, rfl⟩
      rw [← hW]
      have y : Ext w W := by rw [hW]; exact (Ext.refl _).alloc _
      have kp : Blk W w.heap.size 103 [.int .i64 p1, .int .i64 p2] := by rw [hW]; exact Blk.lit _ _ _ _ rfl
      have hoW : W.ownsRow w0.heap.size 3 1 v k xs := by rw [hW]; exact hown.alloc _
      have hzW : W.heap.size = w.heap.size + 1 := by rw [hW]; simp
      have hvb : some w.heap.size ≠ v.ownBlock := fun e => by have := (hown.lt _ e.symm).2; omega
      have hw0 := x0.size
      clear hW
      have ca : W.cell? ⟨w.heap.size, 0, none⟩ = some (.int .i64 p1) := kp.cell 0
      have cb : W.cell? ⟨w.heap.size, 1, none⟩ = some (.int .i64 p2) := kp.cell 1
      have XW : Ext w0 W.drew := (x0.trans y).drew
      have hoD : W.drew.ownsRow w0.heap.size 3 1 v k xs := hoW.drew
      have kD : Blk W.drew w.heap.size 103 [.int .i64 p1, .int .i64 p2] := kp
      have hzD : W.drew.heap.size = w.heap.size + 1 := hzW
      -- the end: what the call has left, and the append
      have FIN := Lib.hid (fun (w2 : World) (v2 : Value) (a : Addr) (h2 : w2.ownsRow w0.heap.size 3 1 v2 (k + L.length) (xs ++ L.map (.int .i64))) (x2 : Ext w0 w2) (k2 : Kpt v.ownBlock w w2) (e2 : v2.ownBlock = v.ownBlock ∨ ∀ n, v2.ownBlock = some n → w.heap.size ≤ n) (hca : w2.cell? a = some (.int .i64 p2)) =>
        (show ∃ v' w', (Builtin.append_ #[25, 25] 25 #[v2, .slice (some a) 1 1]).run Try.prog w2 = .ok v' w' ∧ ExpQ w0 w v k xs (L ++ [p2]) (.returned v') w' ∧ Kpt v2.ownBlock w2 w' from by
          obtain ⟨v', w', hr, ho, hx, hkp, hat⟩ := run_put1 h2 x2 a p2 hca (by omega) 25
          refine ⟨v', w', hr, ⟨v', rfl, ?_, hx, k2.trans hkp e2, ?_⟩, hkp⟩
          · rw [List.length_append, List.map_append, ← List.append_assoc, ← Nat.add_assoc]; exact ho
          · rcases hat with h | h
            · rw [h]; exact e2
            · exact .inr fun n e => Nat.le_trans k2.size (h n e)))
      have HvB := Lib.hid hvb
      have XW2 := Lib.hid XW
      have HOD := Lib.hid hoD
      clear hvb XW hoD hoW hown x0 hlk kp
      refine wp_region_noPanic ?_
      refine wp_region_held_drew (S := (fun w' => w'.cell? ⟨w.heap.size, 0, none⟩ = some (.int .i64 p1) ∧ w'.cell? ⟨w.heap.size, 1, none⟩ = some (.int .i64 p2))) (by kernel_rfl) ⟨kD.cell 0, kD.cell 1⟩ (fun h0 => ?_)
      refine wpAnyH_take (i := 0) (oi := ?_) (v := ?_) ?_ (by kernel_rfl) (by kernel_rfl) (by kernel_rfl) ?_ ?_ h0 ?_
      rotate_left 2
      · simp only [List.getElem?_toArray, List.getElem?_cons_zero]; rfl
      · exact fun _ _ _ h => h
      · refine Or.inl ⟨by rfl, ?_⟩
        intro w hSw
        (try dsimp only at hSw)
        go_simp
        (try with_reducible rfl)
      (try simp only [Act.put, List.setIfInBounds_toArray, List.set_cons_zero, List.set_cons_succ])
      refine wpAnyH_take (i := 1) (oi := ?_) (v := ?_) ?_ (by kernel_rfl) (by kernel_rfl) (by kernel_rfl) ?_ ?_ h0 ?_
      rotate_left 2
      · simp only [List.getElem?_toArray, List.getElem?_cons_zero, List.getElem?_cons_succ]; rfl
      · exact fun _ _ _ h => h
      · refine Or.inl ⟨by rfl, ?_⟩
        intro w hSw
        (try dsimp only at hSw)
        go_simp
        (try with_reducible rfl)
      (try simp only [Act.put, List.setIfInBounds_toArray, List.set_cons_zero, List.set_cons_succ])
      refine wpAnyH_take (i := 2) (oi := ?_) (v := ?_) ?_ (by kernel_rfl) (by kernel_rfl) (by kernel_rfl) ?_ ?_ h0 ?_
      rotate_left 2
      · simp only [List.getElem?_toArray, List.getElem?_cons_zero, List.getElem?_cons_succ]; rfl
      · exact fun _ _ _ h => h
      · refine Or.inl ⟨by rfl, ?_⟩
        intro w hSw
        (try dsimp only at hSw)
        go_simp
        (try with_reducible rfl)
      (try simp only [Act.put, List.setIfInBounds_toArray, List.set_cons_zero, List.set_cons_succ])
      refine wpAnyH_take (i := 3) (oi := ?_) (v := ?_) ?_ (by kernel_rfl) (by kernel_rfl) (by kernel_rfl) ?_ ?_ h0 ?_
      rotate_left 2
      · simp only [List.getElem?_toArray, List.getElem?_cons_zero, List.getElem?_cons_succ]; rfl
      · exact fun _ _ _ h => h
      · refine Or.inl ⟨by rfl, ?_⟩
        intro w hSw
        (try dsimp only at hSw)
        go_simp
        (try with_reducible rfl)
      (try simp only [Act.put, List.setIfInBounds_toArray, List.set_cons_zero, List.set_cons_succ])
      refine wpAnyH_take (i := 5) (oi := ?_) (v := ?_) ?_ (by kernel_rfl) (by kernel_rfl) (by kernel_rfl) ?_ ?_ h0 ?_
      rotate_left 2
      · simp only [List.getElem?_toArray, List.getElem?_cons_zero, List.getElem?_cons_succ]; rfl
      · exact fun _ _ _ h => h
      · refine Or.inl ⟨by rfl, ?_⟩
        intro w hSw
        (try dsimp only at hSw)
        go_simp
        (try with_reducible rfl)
      (try simp only [Act.put, List.setIfInBounds_toArray, List.set_cons_zero, List.set_cons_succ])
      refine wpAnyH_take (i := 6) (oi := ?_) (v := ?_) ?_ (by kernel_rfl) (by kernel_rfl) (by kernel_rfl) ?_ ?_ h0 ?_
      rotate_left 2
      · simp only [List.getElem?_toArray, List.getElem?_cons_zero, List.getElem?_cons_succ]; rfl
      · exact fun _ _ _ h => h
      · refine Or.inl ⟨by rfl, ?_⟩
        intro w hSw
        (try dsimp only at hSw)
        go_simp
        (try with_reducible rfl)
      (try simp only [Act.put, List.setIfInBounds_toArray, List.set_cons_zero, List.set_cons_succ])
      refine wpAnyH_ready (rs := [4, 7]) (by kernel_rfl) (by simp) ?_
      refine AllReadyH.cons (o := ?_) ?_ (fun K hK => ?_) ?_
      rotate_left
      · simp only [List.getElem?_toArray, List.getElem?_cons_zero, List.getElem?_cons_succ]; rfl
      · go_simp
        refine (IH.out _ XW2.out HOD.out).mono ?_
        rintro e w2 ⟨v2, rfl, ho2, hx2, hk2, he2⟩
        have kq := hk2.blk kD HvB.out
        have k2' : Kpt v.ownBlock w w2 := (Kpt.of_ext y.drew).trans hk2 (.inl rfl)
        have he2' : v2.ownBlock = v.ownBlock ∨ ∀ n, v2.ownBlock = some n → w.heap.size ≤ n := he2.imp id fun h n e => by have := h n e; omega
        have ltq := kq.lt
        obtain ⟨v', w', hr, hq, hkp⟩ := FIN.out (w2.alloc (.cells #[.int .i64 p2] 3)) v2 ⟨w2.heap.size, 0, none⟩ (ho2.alloc _) (hx2.alloc _) (k2'.alloc _) he2' (by simp)
        have hqv : some w.heap.size ≠ v2.ownBlock := fun e => by
          rcases he2 with h | h
          · rw [h] at e; exact HvB.out e
          · have := h _ e.symm; omega
        have kr := hkp.blk (kq.ext ((Ext.refl _).alloc _)) hqv
        refine hK.out _ _ ⟨kq.cell 0, kq.cell 1⟩ (fun h1 => ?_)
        clear hK K
        (try simp only [Act.put, List.setIfInBounds_toArray, List.set_cons_zero, List.set_cons_succ])
        refine wpAnyH_ready (rs := [7]) (by kernel_rfl) (by simp) ?_
        refine AllReadyH.cons (o := ?_) ?_ (fun K hK => ?_) AllReadyH.nil
        rotate_left
        · simp only [List.getElem?_toArray, List.getElem?_cons_zero, List.getElem?_cons_succ]; rfl
        go_simp
        refine hK.out _ _ ⟨((kq.ext ((Ext.refl _).alloc _))).cell 0, ((kq.ext ((Ext.refl _).alloc _))).cell 1⟩ (fun h2 => ?_)
        clear hK K
        (try simp only [Act.put, List.setIfInBounds_toArray, List.set_cons_zero, List.set_cons_succ])
        refine wpAnyH_ready (rs := [8]) (by kernel_rfl) (by simp) ?_
        refine AllReadyH.cons (o := ?_) ?_ (fun K hK => ?_) AllReadyH.nil
        rotate_left
        · simp only [List.getElem?_toArray, List.getElem?_cons_zero, List.getElem?_cons_succ]; rfl
        refine step_app (.tmp 25) (.tmp 28) rfl (by kernel_rfl) hr ?_
        refine hK.out _ _ ⟨kr.cell 0, kr.cell 1⟩ (fun h3 => ?_)
        clear hK K
        (try simp only [Act.put, List.setIfInBounds_toArray, List.set_cons_zero, List.set_cons_succ])
        refine wpAnyH_take (i := 9) (oi := ?_) (v := ?_) ?_ (by kernel_rfl) (by kernel_rfl) (by kernel_rfl) ?_ ?_ h3 ?_
        rotate_left 2
        · simp only [List.getElem?_toArray, List.getElem?_cons_zero, List.getElem?_cons_succ]; rfl
        · exact fun _ _ _ h => h
        · refine Or.inl ⟨by rfl, ?_⟩
          intro w hSw
          (try dsimp only at hSw)
          go_simp
          (try with_reducible rfl)
        (try simp only [Act.put, List.setIfInBounds_toArray, List.set_cons_zero, List.set_cons_succ])
        refine wpAnyH_done (by kernel_rfl) ?_ _
        refine NoPanic.normal ?_
        clear h0 h1 h2 h3 hr
        go_wp2_with fail
        go_ret
        exact hq
      · refine AllReadyH.cons (o := ?_) ?_ (fun K hK => ?_) AllReadyH.nil
        rotate_left
        · simp only [List.getElem?_toArray, List.getElem?_cons_zero, List.getElem?_cons_succ]; rfl
        go_simp
        have kE := kD.ext ((Ext.refl W.drew).alloc (.cells #[.int .i64 p2] 3))
        refine hK.out _ _ ⟨kE.cell 0, kE.cell 1⟩ (fun h1 => ?_)
        clear hK K
        (try simp only [Act.put, List.setIfInBounds_toArray, List.set_cons_zero, List.set_cons_succ])
        refine wpAnyH_ready (rs := [4]) (by kernel_rfl) (by simp) ?_
        refine AllReadyH.cons (o := ?_) ?_ (fun K hK => ?_) AllReadyH.nil
        rotate_left
        · simp only [List.getElem?_toArray, List.getElem?_cons_zero, List.getElem?_cons_succ]; rfl
        go_simp
        refine (IH.out (W.drew.alloc (.cells #[.int .i64 p2] 3)) (XW2.out.alloc _) (HOD.out.alloc _)).mono ?_
        rintro e w2 ⟨v2, rfl, ho2, hx2, hk2, he2⟩
        have kN : Blk (W.drew.alloc (.cells #[.int .i64 p2] 3)) (w.heap.size + 1) 3 [.int .i64 p2] := Blk.lit _ _ _ _ hzD.symm
        have hvN : some (w.heap.size + 1) ≠ v.ownBlock := fun e => by have := (HOD.out.lt _ e.symm).2; omega
        have kq := hk2.blk kE HvB.out
        have kn := hk2.blk kN hvN
        have k2' : Kpt v.ownBlock w w2 := (Kpt.of_ext (y.drew.alloc _)).trans hk2 (.inl rfl)
        have hzE : (W.drew.alloc (.cells #[.int .i64 p2] 3)).heap.size = w.heap.size + 2 := by simp; omega
        have he2' : v2.ownBlock = v.ownBlock ∨ ∀ n, v2.ownBlock = some n → w.heap.size ≤ n := he2.imp id fun h n e => by have := h n e; omega
        obtain ⟨v', w', hr, hq, hkp⟩ := FIN.out w2 v2 ⟨w.heap.size + 1, 0, none⟩ ho2 hx2 k2' he2' (kn.cell 0)
        have hqv : some w.heap.size ≠ v2.ownBlock := fun e => by
          rcases he2 with h | h
          · rw [h] at e; exact HvB.out e
          · have := h _ e.symm; omega
        have kr := hkp.blk kq hqv
        refine hK.out _ _ ⟨kq.cell 0, kq.cell 1⟩ (fun h2 => ?_)
        clear hK K
        (try simp only [Act.put, List.setIfInBounds_toArray, List.set_cons_zero, List.set_cons_succ])
        refine wpAnyH_ready (rs := [8]) (by kernel_rfl) (by simp) ?_
        refine AllReadyH.cons (o := ?_) ?_ (fun K hK => ?_) AllReadyH.nil
        rotate_left
        · simp only [List.getElem?_toArray, List.getElem?_cons_zero, List.getElem?_cons_succ]; rfl
        refine step_app (.tmp 25) (.tmp 28) rfl (by kernel_rfl) hr ?_
        refine hK.out _ _ ⟨kr.cell 0, kr.cell 1⟩ (fun h3 => ?_)
        clear hK K
        (try simp only [Act.put, List.setIfInBounds_toArray, List.set_cons_zero, List.set_cons_succ])
        refine wpAnyH_take (i := 9) (oi := ?_) (v := ?_) ?_ (by kernel_rfl) (by kernel_rfl) (by kernel_rfl) ?_ ?_ h3 ?_
        rotate_left 2
        · simp only [List.getElem?_toArray, List.getElem?_cons_zero, List.getElem?_cons_succ]; rfl
        · exact fun _ _ _ h => h
        · refine Or.inl ⟨by rfl, ?_⟩
          intro w hSw
          (try dsimp only at hSw)
          go_simp
          (try with_reducible rfl)
        (try simp only [Act.put, List.setIfInBounds_toArray, List.set_cons_zero, List.set_cons_succ])
        refine wpAnyH_done (by kernel_rfl) ?_ _
        refine NoPanic.normal ?_
        clear h0 h1 h2 h3 hr
        go_wp2_with fail
        go_ret
        exact hq
end L08
end Go.Proofs.Ytijhabhnhglhgaa

