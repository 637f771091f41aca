/- The landed New of layer 11. The document's Same of layer 4, for later layers. Results that stand in boxes. The document's Few, and Same, of layer 10. Two lists of numbers: the same? Blocks as lists. -/
import Derived.Test.YtmmgmcfhlhghoaaGreatDoorGD16
import Derived.Deep.RegionHeld3
import Derived.Test.YtmmgmcfhlhghoaaGreatDoorGA16
import Derived.Deep.QuietTactic
import Derived.BigQuiet
import Derived.Test.YtmmgmcfhlhghoaaGreatDoorGC16
import Derived.Laws.Strings
import Derived.Lib.QuietBelow
namespace Go.Proofs.YtmmgmcfhlhghoaaGreatDoor
open Go.RowKit
open Go.Lib hiding intOf
namespace L11
open L10 (TN plainB patB tn rd patsB check_any patsB_rd)

theorem new_no (D : PatsD) (P : PatsP) (lok : ∀ x ∈ D.l, x.Ok) (mok : ∀ x ∈ D.m, x.Ok) (w : World) (sn : SeenPats w D P) (hl : D.l.length ≤ 1000000) (hm : D.m.length ≤ 1000000) (hp : patsB (rd D) = false) :
    Calls Tryz.prog 7 #[patsV D P] w (Ret w (.tuple #[.pointer none, .int .i64 100])) := by
  obtain ⟨V, hV⟩ : ∃ V, V = w.alloc (.cells #[.slice P.x D.l.length P.c, .slice P.y D.m.length P.d] 25) := ⟨_, rfl⟩
  have W0 : Ext w V := by rw [hV]; exact (Ext.refl _).alloc _
  have CK := Lib.hid (check_any D P lok mok V (sn.ext W0) hl hm)
  rw [hp] at CK
  have kB : Blk V w.heap.size 25 [.slice P.x D.l.length P.c, .slice P.y D.m.length P.d] := by rw [hV]; exact Blk.lit _ _ _ _ rfl
  unfold patsV at CK ⊢
  have HX := Lib.hid W0
  clear sn lok mok hp W0
  generalize D.l.length = n at *
  generalize D.m.length = q at *
  obtain ⟨A, c, B, d⟩ := P
  dsimp only at *
  go_enter Tryz.func7, Tryz.ntmps7
  go_upto_region 1 with (fail)
  rw [← hV]
  clear hV
  generalize w.heap.size = R at *
  have q0 : V.cell? ⟨R, 0, none⟩ = some (.slice A n c) := kB.cell 0
  have q1 : V.cell? ⟨R, 1, none⟩ = some (.slice B q d) := kB.cell 1
  go_wp2_with fail
  refine CK.out.mono ?_; rintro e w1 ⟨rfl, x1⟩
  go_wp2_with fail
  go_ret2
  exact ⟨rfl, HX.out.trans x1⟩
theorem zero_trie (w : World) : (zeroValue 77).run Tryz.prog w = .ok (.agg #[.slice none 0 0, .int .u32 0, .int .i32 0, .int .u32 0, .int .i64 0, .map none, .map none]) w := by kernel_rfl
/-- An append whose run is known, in a region that draws its order. -/
theorem step_app11 {P : Program} {ops : Array Oper} {o : Oper} {a : Act} {w w' : World} {K : Act → World → Prop} {Q : Exit → Act → World → Prop} {E : Prop} {t : TypeId} {v : Value} (s x : Operand)
    (ho : o.op = .call { callee := .builtin .append, args := #[s, x], argTypes := #[t, t] }) (hw : Region.wanted o (yielded ops a.tmps) = true) (hrun : (Builtin.append_ #[t, t] o.type #[a.eval s, a.eval x]).run P w = .ok v w')
    (h : K (a.put o.dst v) w') : if Region.wanted o (yielded ops a.tmps) = true then Oper.wp P o a w K Q else E := by
  rw [if_pos hw]
  unfold Oper.wp execOp
  simp only [ho, resolve, invoke, builtin, Sem.run_bind, Sem.run_pure, Result.andThen_ok, List.map_toArray, List.map_cons, List.map_nil, hrun]
  exact h
/-- What becomes of it, once the values are copied. -/
theorem new_step {B R : Nat} {w W w8 : World} {vl : Value} {cl : List WP} (NA : NewAt B w W vl cl) (x8 : Ext W w8) (s : ByteArray) (vs : List Int) (m : Nat) (hm : vs.length = m) (A8 : Option Addr) (c8 : Nat) (A : Option Addr) (c : Nat) (s8 : SeenL w8 A8 vs)
    (b8 : ∀ ad, A8 = some ad → W.heap.size ≤ ad.block ∧ ad.block < w8.heap.size) (r0 : W.cell? ⟨R, 0, none⟩ = some (.string s)) (r1 : W.cell? ⟨R, 1, none⟩ = some (.slice A m c)) (hR : R ≠ B) (hRo : vl.ownBlock ≠ some R) (hn : cl.length ≤ 10000) (ty : TypeId) :
    ∃ A' n' c' w', (Builtin.append_ #[22, 22] ty #[vl, .slice (some ⟨w8.heap.size, 0, none⟩) 1 1]).run Tryz.prog (w8.alloc (.cells #[.string s, .slice A8 m c8] 56)) = .ok (.slice A' n' c') w' ∧
      NewAt B w (w'.setCell ⟨B, 0, none⟩ (.slice A' n' c')) (.slice A' n' c') (cl ++ [⟨s, vs, A8, c8⟩]) ∧ w'.cell? ⟨B, 0, none⟩ = some vl ∧ w'.frozen? ⟨B, 0, none⟩ = false ∧
      (w8.cell? ⟨B, 0, none⟩ = some vl ∧ (w8.alloc (.cells #[.string s, .slice A8 m c8] 56)).cell? ⟨B, 0, none⟩ = some vl) ∧
      (w8.cell? ⟨R, 0, none⟩ = some (.string s) ∧ w8.cell? ⟨R, 1, none⟩ = some (.slice A m c)) ∧
      ((w8.alloc (.cells #[.string s, .slice A8 m c8] 56)).cell? ⟨R, 0, none⟩ = some (.string s) ∧ (w8.alloc (.cells #[.string s, .slice A8 m c8] 56)).cell? ⟨R, 1, none⟩ = some (.slice A m c)) ∧
      (w'.cell? ⟨R, 0, none⟩ = some (.string s) ∧ w'.cell? ⟨R, 1, none⟩ = some (.slice A m c)) ∧
      ((w'.setCell ⟨B, 0, none⟩ (.slice A' n' c')).cell? ⟨R, 0, none⟩ = some (.string s) ∧ (w'.setCell ⟨B, 0, none⟩ (.slice A' n' c')).cell? ⟨R, 1, none⟩ = some (.slice A m c)) := by
  subst hm
  have xa : Ext w8 (w8.alloc (.cells #[.string s, .slice A8 vs.length c8] 56)) := (Ext.refl w8).alloc _
  have kN : Blk (w8.alloc (.cells #[.string s, .slice A8 vs.length c8] 56)) w8.heap.size 56 [.string s, .slice A8 vs.length c8] := Blk.lit _ _ _ _ rfl
  obtain ⟨A', n', c', w', hr, h1, h2, h3, h4, _, h5⟩ := ((NA.ext x8).ext xa).put ⟨s, vs, A8, c8⟩ ⟨w8.heap.size, 0, none⟩ (kN.cell 0) (kN.cell 1) (s8.ext xa) (fun ad e => by
    obtain ⟨b1, b2⟩ := b8 ad e
    have hbw := NA.bw
    exact ⟨by omega, Nat.lt_of_lt_of_le b2 xa.size, fun e2 => by have := (NA.row.lt _ e2).2; omega⟩) hn ty
  have q0 := x8.at r0
  have q1 := x8.at r1
  have t0 := xa.at q0
  have t1 := xa.at q1
  exact ⟨A', n', c', w', hr, h1, h2, h3, ⟨x8.at (NA.box.cell 0), xa.at (x8.at (NA.box.cell 0))⟩, ⟨q0, q1⟩, ⟨t0, t1⟩, ⟨h5 _ _ t0 hRo, h5 _ _ t1 hRo⟩, ⟨h4 _ _ t0 hRo hR, h4 _ _ t1 hRo hR⟩⟩
/-- A list of one's own, as it is seen. -/
theorem own_seenW {w : World} {base : Nat} {e : TypeId} {v : Value} {l : List WP} (h : w.ownsRow base e 2 v l.length (flatW l)) (hs : ∀ y ∈ l, SeenL w y.A y.ns) : ∃ A c, v = .slice A l.length c ∧ SeenW w A l := by
  obtain ⟨A, c, rfl, hv⟩ := own_seen h
  refine ⟨A, c, rfl, fun i x hx => ⟨?_, hs x (List.mem_of_getElem? hx)⟩⟩
  obtain ⟨f0, f1⟩ := flatW_get l i x hx
  obtain ⟨ad, e0, hb, h0⟩ := hv _ _ f0
  obtain ⟨ad', e1, _, h1⟩ := hv _ _ f1
  rw [e0] at e1
  cases e1
  exact ⟨ad, e0, hb, h0, h1⟩
/-- A trie that New made. -/
def NewQ (w : World) (p : List TN) (e : Ending) (w' : World) : Prop :=
  ∃ B F, e = .returned (.tuple #[.pointer (some ⟨B, 0, none⟩), .int .i64 0]) ∧ Ext w w' ∧ TrieAt w' B F p ∧ w.heap.size ≤ B ∧ ∀ k, F k → w.heap.size ≤ k

set_option maxRecDepth 100000 in
set_option maxHeartbeats 8000000 in
theorem new_yes (D : PatsD) (P : PatsP) (lok : ∀ x ∈ D.l, x.Ok) (mok : ∀ x ∈ D.m, x.Ok) (w : World) (sn : SeenPats w D P) (hl : D.l.length ≤ 1000000) (hm : D.m.length ≤ 1000000) (hp : patsB (rd D) = true) :
    Calls Tryz.prog 7 #[patsV D P] w (NewQ w (D.l.map tn)) := by
  have hpr : D.l.length ≤ 300 ∧ ∀ x ∈ D.l, patB (tn x) = true := by
    have h1 := patsB_rd D
    rw [hp] at h1
    have h2 := h1.symm
    simp only [Bool.and_eq_true, decide_eq_true_eq, List.all_eq_true] at h2
    exact ⟨by omega, h2.2.1⟩
  obtain ⟨V, hV⟩ : ∃ V, V = w.alloc (.cells #[.slice P.x D.l.length P.c, .slice P.y D.m.length P.d] 25) := ⟨_, rfl⟩
  have W0 : Ext w V := by rw [hV]; exact (Ext.refl _).alloc _
  have CK := Lib.hid (check_any D P lok mok V (sn.ext W0) hl hm)
  rw [hp] at CK
  have kB : Blk V w.heap.size 25 [.slice P.x D.l.length P.c, .slice P.y D.m.length P.d] := by rw [hV]; exact Blk.lit _ _ _ _ rfl
  unfold patsV at CK ⊢
  have HX := Lib.hid W0
  have SL := Lib.hid sn.l
  have HP := Lib.hid hpr.2
  have hn := hpr.1
  obtain ⟨l, m⟩ := D
  obtain ⟨A, c, Bm, d⟩ := P
  dsimp only at SL HP CK hV kB hn ⊢
  obtain ⟨n, hnl⟩ : ∃ n, n = l.length := ⟨_, rfl⟩
  have HN := Lib.hid hnl
  rw [← hnl] at CK hV kB hn ⊢
  clear sn lok mok hp W0 hpr hl hm hnl
  generalize m.length = q at *
  go_enter Tryz.func7, Tryz.ntmps7
  go_upto_region 1 with (fail)
  rw [← hV]
  clear hV
  have HRW := Lib.hid (show w.heap.size < V.heap.size from kB.lt)
  generalize hR : w.heap.size = R at *
  have HR := Lib.hid hR
  clear hR
  have q0 : V.cell? ⟨R, 0, none⟩ = some (.slice A n c) := kB.cell 0
  have q1 : V.cell? ⟨R, 1, none⟩ = some (.slice Bm q d) := kB.cell 1
  go_wp2_with fail
  refine CK.out.mono ?_; rintro e w1 ⟨rfl, x1⟩
  have q0 := x1.at q0
  have X1 := Lib.hid (HX.out.trans x1)
  have RL := Lib.hid (show R < w1.heap.size from Nat.lt_of_lt_of_le HRW.out x1.size)
  have hzt := zero_trie
  clear x1 CK q1 HX kB
  go_upto_region 4 with (fail)
  have XA : Ext w1 (w1.alloc (.cells #[.slice none 0 0, .int .u32 0, .int .i32 0, .int .u32 0, .int .i64 0, .map none, .map none] 77)) := (Ext.refl w1).alloc _
  have q0 := XA.at q0
  have START := Lib.hid (show NewAt w1.heap.size w (w1.alloc (.cells #[.slice none 0 0, .int .u32 0, .int .i32 0, .int .u32 0, .int .i64 0, .map none, .map none] 77)) (.slice none 0 0) [] from
    ⟨X1.out.trans XA, Blk.lit _ _ _ _ rfl, X1.out.size, World.ownsRow_nil _ _ _ _, fun y hy => by simp at hy⟩)
  have RB := Lib.hid (show R ≠ w1.heap.size by have := RL.out; omega)
  have WB := Lib.hid (show w.heap.size ≤ w1.heap.size from X1.out.size)
  generalize w1.alloc (.cells #[.slice none 0 0, .int .u32 0, .int .i32 0, .int .u32 0, .int .i64 0, .map none, .map none] 77) = w2 at *
  clear XA hzt X1 RL
  generalize hB : w1.heap.size = B at *
  clear hB
  go_wp2_with fail
  go_loopw [15] (fun i wr => ∃ k : Nat, k ≤ n ∧ i = .int .i64 k ∧ Hid (∃ vl cl, NewAt B w wr vl cl ∧ cl.map tn = (l.take k).map tn)) (fun i _ => n - (intOf i).toNat)
  case atStart => exact ⟨0, Nat.zero_le _, rfl, ⟨_, [], START.out, rfl⟩⟩
  case round =>
    obtain ⟨k, hk, rfl, hh⟩ := hrel
    obtain ⟨vl, cl, hna, hcl⟩ := hh.out
    by_cases hlt : k < n
    · have hlt' : k < l.length := by rw [← HN.out]; exact hlt
      obtain ⟨⟨ad, rfl, a0, a1⟩, sx⟩ := (SL.out.ext hna.x).get hlt'
      have hpx := HP.out _ (List.getElem_mem hlt')
      have hvne := pat_ne hpx
      have hvl : l[k].ns.length ≤ 100000 := by
        have h1 := (L10.pat_vals hpx).1
        have h2 := (L10.pat_len hpx).2
        simp only [tn] at h1 h2
        omega
      have TK := Lib.hid (show (l.take (k + 1)).map tn = (l.take k).map tn ++ [tn l[k]] by rw [List.take_succ_eq_append_getElem hlt', List.map_append]; rfl)
      have HCL := Lib.hid hcl
      have hcn : cl.length ≤ 10000 := by
        have := congrArg List.length hcl
        rw [List.length_map, List.length_map, List.length_take] at this
        omega
      have q0 : wr.cell? ⟨R, 0, none⟩ = some (.slice (some ad) n c) ∨ True := Or.inr trivial
      have hn64 : Nat.lt k n := hlt
      have HLT := Lib.hid hn64
      clear q0 hn64
      generalize l[k] = x at *
      obtain ⟨s, vs, Ax, cx⟩ := x
      dsimp only at a0 a1 sx hvne hvl
      have hna6 : NewAt B w (wr.alloc (.cells #[.string s, .slice Ax vs.length cx] 56)) vl cl := hna.ext ((Ext.refl wr).alloc _)
      have k6 : Blk (wr.alloc (.cells #[.string s, .slice Ax vs.length cx] 56)) wr.heap.size 56 [.string s, .slice Ax vs.length cx] := Blk.lit _ _ _ _ rfl
      have s6 : SeenL (wr.alloc (.cells #[.string s, .slice Ax vs.length cx] 56)) Ax vs := sx.ext ((Ext.refl wr).alloc _)
      have hRB : wr.heap.size ≠ B := by have := hna.box.lt; omega
      have hRo : vl.ownBlock ≠ some wr.heap.size := fun e => by have := (hna.row.lt _ e).2; omega
      have HNA := Lib.hid hna6
      have CL := Lib.hid (clone_any Ax vs cx (wr.alloc (.cells #[.string s, .slice Ax vs.length cx] 56)).drew (s6.ext ((Ext.refl _).drew)) hvne hvl)
      have HMV := Lib.hid (show vs.length = vs.length from rfl)
      generalize hm : vs.length = m at *
      have HM := Lib.hid hm
      have K6 := Lib.hid k6
      have HRB := Lib.hid hRB
      have HRO := Lib.hid hRo
      have HCN := Lib.hid hcn
      clear hna hh hcl hpx hvne hvl hna6 s6 sx hm hRB hRo hcn HMV
      go_upto_region 7 with (fail)
      generalize wr.alloc (.cells #[.string s, .slice Ax m cx] 56) = W6 at *
      have r0 : W6.cell? ⟨wr.heap.size, 0, none⟩ = some (.string s) := K6.out.cell 0
      have r1 : W6.cell? ⟨wr.heap.size, 1, none⟩ = some (.slice Ax m cx) := K6.out.cell 1
      have NA7 := Lib.hid (HNA.out.ext ((Ext.refl W6).drew))
      have c0 : W6.drew.cell? ⟨B, 0, none⟩ = some vl := NA7.out.box.cell 0
      generalize wr.heap.size = R6 at *
      have s0 : W6.drew.cell? ⟨R6, 0, none⟩ = some (.string s) := r0
      have s1 : W6.drew.cell? ⟨R6, 1, none⟩ = some (.slice Ax m cx) := r1
      clear r0 r1 K6 HNA a0 a1
      refine wp_region_noPanic ?_
      refine wp_region_held_drew (S := (fun w' => w'.cell? ⟨R6, 0, none⟩ = some (.string s) ∧ w'.cell? ⟨R6, 1, none⟩ = some (.slice Ax m cx))) (by kernel_rfl) ⟨s0, s1⟩ (fun h0 => ?_)
      generalize W6.drew = W7 at *
      clear s0 s1
      refine wpAnyH_take (i := 0) (oi := ?_) (v := ?_) ?_ (by kernel_rfl) (by kernel_rfl) (by kernel_rfl) ?_ ?_ h0 ?_
      rotate_left 2
      · simp only [List.getElem?_toArray, List.getElem?_cons_zero]; rfl
      · exact fun _ _ _ h => h
      · refine Or.inl ⟨by rfl, ?_⟩
        intro w hSw
        (try dsimp only at hSw)
        go_simp
        (try with_reducible rfl)
      (try simp only [Act.put, List.setIfInBounds_toArray, List.set_cons_zero, List.set_cons_succ])
      refine wpAnyH_take (i := 1) (oi := ?_) (v := ?_) ?_ (by kernel_rfl) (by kernel_rfl) (by kernel_rfl) ?_ ?_ h0 ?_
      rotate_left 2
      · simp only [List.getElem?_toArray, List.getElem?_cons_zero, List.getElem?_cons_succ]; rfl
      · exact fun _ _ _ h => h
      · refine Or.inl ⟨by rfl, ?_⟩
        intro w hSw
        (try dsimp only at hSw)
        go_simp
        (try with_reducible rfl)
      (try simp only [Act.put, List.setIfInBounds_toArray, List.set_cons_zero, List.set_cons_succ])
      refine wpAnyH_take (i := 2) (oi := ?_) (v := ?_) ?_ (by kernel_rfl) (by kernel_rfl) (by kernel_rfl) ?_ ?_ h0 ?_
      rotate_left 2
      · simp only [List.getElem?_toArray, List.getElem?_cons_zero, List.getElem?_cons_succ]; rfl
      · exact fun _ _ _ h => h
      · refine Or.inl ⟨by rfl, ?_⟩
        intro w hSw
        (try dsimp only at hSw)
        go_simp
        (try with_reducible rfl)
      (try simp only [Act.put, List.setIfInBounds_toArray, List.set_cons_zero, List.set_cons_succ])
      refine wpAnyH_take (i := 3) (oi := ?_) (v := ?_) ?_ (by kernel_rfl) (by kernel_rfl) (by kernel_rfl) ?_ ?_ h0 ?_
      rotate_left 2
      · simp only [List.getElem?_toArray, List.getElem?_cons_zero, List.getElem?_cons_succ]; rfl
      · exact fun _ _ _ h => h
      · refine Or.inl ⟨by rfl, ?_⟩
        intro w hSw
        (try dsimp only at hSw)
        go_simp
        (try with_reducible rfl)
      (try simp only [Act.put, List.setIfInBounds_toArray, List.set_cons_zero, List.set_cons_succ])
      refine wpAnyH_take (i := 5) (oi := ?_) (v := ?_) ?_ (by kernel_rfl) (by kernel_rfl) (by kernel_rfl) ?_ ?_ h0 ?_
      rotate_left 2
      · simp only [List.getElem?_toArray, List.getElem?_cons_zero, List.getElem?_cons_succ]; rfl
      · exact fun _ _ _ h => h
      · refine Or.inl ⟨by rfl, ?_⟩
        intro w hSw
        (try dsimp only at hSw)
        go_simp
        (try with_reducible rfl)
      (try simp only [Act.put, List.setIfInBounds_toArray, List.set_cons_zero, List.set_cons_succ])
      refine wpAnyH_take (i := 6) (oi := ?_) (v := ?_) ?_ (by kernel_rfl) (by kernel_rfl) (by kernel_rfl) ?_ ?_ h0 ?_
      rotate_left 2
      · simp only [List.getElem?_toArray, List.getElem?_cons_zero, List.getElem?_cons_succ]; rfl
      · exact fun _ _ _ h => h
      · refine Or.inl ⟨by rfl, ?_⟩
        intro w hSw
        (try dsimp only at hSw)
        go_simp
        (try with_reducible rfl)
      (try simp only [Act.put, List.setIfInBounds_toArray, List.set_cons_zero, List.set_cons_succ])
      refine wpAnyH_take (i := 7) (oi := ?_) (v := ?_) ?_ (by kernel_rfl) (by kernel_rfl) (by kernel_rfl) ?_ ?_ h0 ?_
      rotate_left 2
      · simp only [List.getElem?_toArray, List.getElem?_cons_zero, List.getElem?_cons_succ]; rfl
      · exact fun _ _ _ h => h
      · refine Or.inl ⟨by rfl, ?_⟩
        intro w hSw
        (try dsimp only at hSw)
        go_simp
        (try with_reducible rfl)
      (try simp only [Act.put, List.setIfInBounds_toArray, List.set_cons_zero, List.set_cons_succ])
      refine wpAnyH_take (i := 8) (oi := ?_) (v := ?_) ?_ (by kernel_rfl) (by kernel_rfl) (by kernel_rfl) ?_ ?_ h0 ?_
      rotate_left 2
      · simp only [List.getElem?_toArray, List.getElem?_cons_zero, List.getElem?_cons_succ]; rfl
      · exact fun _ _ _ h => h
      · refine Or.inl ⟨by rfl, ?_⟩
        intro w hSw
        (try dsimp only at hSw)
        go_simp
        (try with_reducible rfl)
      (try simp only [Act.put, List.setIfInBounds_toArray, List.set_cons_zero, List.set_cons_succ])
      refine wpAnyH_ready (rs := [4, 9]) (by kernel_rfl) (by simp) ?_
      refine AllReadyH.cons (o := ?_) ?_ (fun K hK => ?_) ?_
      rotate_left
      · simp only [List.getElem?_toArray, List.getElem?_cons_zero, List.getElem?_cons_succ]; rfl
      · skip
        go_simp
        refine hK.out _ _ h0 (fun h4 => ?_)
        clear hK K
        (try simp only [Act.put, List.setIfInBounds_toArray, List.set_cons_zero, List.set_cons_succ])
        refine wpAnyH_ready (rs := [9]) (by kernel_rfl) (by simp) ?_
        refine AllReadyH.cons (o := ?_) ?_ (fun K hK => ?_) AllReadyH.nil
        rotate_left
        · simp only [List.getElem?_toArray, List.getElem?_cons_zero, List.getElem?_cons_succ]; rfl
        go_simp
        refine CL.out.mono ?_; rintro e w8 ⟨x8, A8, c8, rfl, s8, b8⟩
        rw [HM.out]
        obtain ⟨A9, n9, c9, w9, hr, NA9, g0, gf, ⟨d8, d9⟩, S8, S9, S10, S11⟩ := new_step NA7.out x8 s vs m HM.out A8 c8 Ax cx s8 b8 h0.1 h0.2 HRB.out HRO.out HCN.out 22
        have FIN := Lib.hid (show ∃ vl cl, NewAt B w (w9.setCell ⟨B, 0, none⟩ (.slice A9 n9 c9)) vl cl ∧ cl.map tn = (l.take (k + 1)).map tn from ⟨_, _, NA9, by rw [TK.out, List.map_append, HCL.out]; rfl⟩)
        clear NA9 s8 b8
        refine hK.out _ _ S8 (fun h9 => ?_)
        clear hK K
        (try simp only [Act.put, List.setIfInBounds_toArray, List.set_cons_zero, List.set_cons_succ])
        refine wpAnyH_take (i := 10) (oi := ?_) (v := ?_) ?_ (by kernel_rfl) (by kernel_rfl) (by kernel_rfl) ?_ ?_ h9 ?_
        rotate_left 2
        · simp only [List.getElem?_toArray, List.getElem?_cons_zero, List.getElem?_cons_succ]; rfl
        · exact fun _ _ _ h => h
        · refine Or.inl ⟨by rfl, ?_⟩
          intro w hSw
          (try dsimp only at hSw)
          go_simp
          (try with_reducible rfl)
        (try simp only [Act.put, List.setIfInBounds_toArray, List.set_cons_zero, List.set_cons_succ])
        refine wpAnyH_ready (rs := [11]) (by kernel_rfl) (by simp) ?_
        refine AllReadyH.cons (o := ?_) ?_ (fun K hK => ?_) AllReadyH.nil
        rotate_left
        · simp only [List.getElem?_toArray, List.getElem?_cons_zero, List.getElem?_cons_succ]; rfl
        go_simp
        refine hK.out _ _ S9 (fun h11 => ?_)
        clear hK K
        (try simp only [Act.put, List.setIfInBounds_toArray, List.set_cons_zero, List.set_cons_succ])
        refine wpAnyH_ready (rs := [12]) (by kernel_rfl) (by simp) ?_
        refine AllReadyH.cons (o := ?_) ?_ (fun K hK => ?_) AllReadyH.nil
        rotate_left
        · simp only [List.getElem?_toArray, List.getElem?_cons_zero, List.getElem?_cons_succ]; rfl
        refine step_app11 (.tmp 23) (.tmp 30) rfl (by kernel_rfl) hr ?_
        refine hK.out _ _ S10 (fun h12 => ?_)
        clear hK K
        (try simp only [Act.put, List.setIfInBounds_toArray, List.set_cons_zero, List.set_cons_succ])
        refine wpAnyH_take (i := 13) (oi := ?_) (v := ?_) ?_ (by kernel_rfl) (by kernel_rfl) (by kernel_rfl) ?_ ?_ h12 ?_
        rotate_left 2
        · simp only [List.getElem?_toArray, List.getElem?_cons_zero, List.getElem?_cons_succ]; rfl
        · exact fun _ _ _ h => h
        · refine Or.inl ⟨by rfl, ?_⟩
          intro w hSw
          (try dsimp only at hSw)
          go_simp
          (try with_reducible rfl)
        (try simp only [Act.put, List.setIfInBounds_toArray, List.set_cons_zero, List.set_cons_succ])
        refine wpAnyH_take (i := 14) (oi := ?_) (v := ?_) ?_ (by kernel_rfl) (by kernel_rfl) (by kernel_rfl) ?_ ?_ h12 ?_
        rotate_left 2
        · simp only [List.getElem?_toArray, List.getElem?_cons_zero, List.getElem?_cons_succ]; rfl
        · exact fun _ _ _ h => h
        · refine Or.inl ⟨by rfl, ?_⟩
          intro w hSw
          (try dsimp only at hSw)
          go_simp
          (try with_reducible rfl)
        (try simp only [Act.put, List.setIfInBounds_toArray, List.set_cons_zero, List.set_cons_succ])
        refine wpAnyH_ready (rs := [15]) (by kernel_rfl) (by simp) ?_
        refine AllReadyH.cons (o := ?_) ?_ (fun K hK => ?_) AllReadyH.nil
        rotate_left
        · simp only [List.getElem?_toArray, List.getElem?_cons_zero, List.getElem?_cons_succ]; rfl
        go_simp
        refine hK.out _ _ S11 (fun h15 => ?_)
        clear hK K
        (try simp only [Act.put, List.setIfInBounds_toArray, List.set_cons_zero, List.set_cons_succ])
        refine wpAnyH_done (by kernel_rfl) ?_ _
        refine NoPanic.normal ?_
        clear h0 h4 h9 h11 h12 h15 hr g0 gf d8 d9 S8 S9 S10 S11
        go_wp2_with fail
        go_roundw
        case rel => exact ⟨k + 1, HLT.out, by go_num, FIN⟩
        case measure => have := HLT.out; simp [intOf]; omega
      · refine AllReadyH.cons (o := ?_) ?_ (fun K hK => ?_) AllReadyH.nil
        rotate_left
        · simp only [List.getElem?_toArray, List.getElem?_cons_zero, List.getElem?_cons_succ]; rfl
        go_simp
        refine CL.out.mono ?_; rintro e w8 ⟨x8, A8, c8, rfl, s8, b8⟩
        rw [HM.out]
        obtain ⟨A9, n9, c9, w9, hr, NA9, g0, gf, ⟨d8, d9⟩, S8, S9, S10, S11⟩ := new_step NA7.out x8 s vs m HM.out A8 c8 Ax cx s8 b8 h0.1 h0.2 HRB.out HRO.out HCN.out 22
        have FIN := Lib.hid (show ∃ vl cl, NewAt B w (w9.setCell ⟨B, 0, none⟩ (.slice A9 n9 c9)) vl cl ∧ cl.map tn = (l.take (k + 1)).map tn from ⟨_, _, NA9, by rw [TK.out, List.map_append, HCL.out]; rfl⟩)
        clear NA9 s8 b8
        refine hK.out _ _ S8 (fun h9 => ?_)
        clear hK K
        (try simp only [Act.put, List.setIfInBounds_toArray, List.set_cons_zero, List.set_cons_succ])
        refine wpAnyH_take (i := 10) (oi := ?_) (v := ?_) ?_ (by kernel_rfl) (by kernel_rfl) (by kernel_rfl) ?_ ?_ h9 ?_
        rotate_left 2
        · simp only [List.getElem?_toArray, List.getElem?_cons_zero, List.getElem?_cons_succ]; rfl
        · exact fun _ _ _ h => h
        · refine Or.inl ⟨by rfl, ?_⟩
          intro w hSw
          (try dsimp only at hSw)
          go_simp
          (try with_reducible rfl)
        (try simp only [Act.put, List.setIfInBounds_toArray, List.set_cons_zero, List.set_cons_succ])
        refine wpAnyH_ready (rs := [4, 11]) (by kernel_rfl) (by simp) ?_
        refine AllReadyH.cons (o := ?_) ?_ (fun K hK => ?_) ?_
        rotate_left
        · simp only [List.getElem?_toArray, List.getElem?_cons_zero, List.getElem?_cons_succ]; rfl
        · skip
          go_simp
          refine hK.out _ _ S8 (fun h4 => ?_)
          clear hK K
          (try simp only [Act.put, List.setIfInBounds_toArray, List.set_cons_zero, List.set_cons_succ])
          refine wpAnyH_ready (rs := [11]) (by kernel_rfl) (by simp) ?_
          refine AllReadyH.cons (o := ?_) ?_ (fun K hK => ?_) AllReadyH.nil
          rotate_left
          · simp only [List.getElem?_toArray, List.getElem?_cons_zero, List.getElem?_cons_succ]; rfl
          go_simp
          refine hK.out _ _ S9 (fun h11 => ?_)
          clear hK K
          (try simp only [Act.put, List.setIfInBounds_toArray, List.set_cons_zero, List.set_cons_succ])
          refine wpAnyH_ready (rs := [12]) (by kernel_rfl) (by simp) ?_
          refine AllReadyH.cons (o := ?_) ?_ (fun K hK => ?_) AllReadyH.nil
          rotate_left
          · simp only [List.getElem?_toArray, List.getElem?_cons_zero, List.getElem?_cons_succ]; rfl
          refine step_app11 (.tmp 23) (.tmp 30) rfl (by kernel_rfl) hr ?_
          refine hK.out _ _ S10 (fun h12 => ?_)
          clear hK K
          (try simp only [Act.put, List.setIfInBounds_toArray, List.set_cons_zero, List.set_cons_succ])
          refine wpAnyH_take (i := 13) (oi := ?_) (v := ?_) ?_ (by kernel_rfl) (by kernel_rfl) (by kernel_rfl) ?_ ?_ h12 ?_
          rotate_left 2
          · simp only [List.getElem?_toArray, List.getElem?_cons_zero, List.getElem?_cons_succ]; rfl
          · exact fun _ _ _ h => h
          · refine Or.inl ⟨by rfl, ?_⟩
            intro w hSw
            (try dsimp only at hSw)
            go_simp
            (try with_reducible rfl)
          (try simp only [Act.put, List.setIfInBounds_toArray, List.set_cons_zero, List.set_cons_succ])
          refine wpAnyH_take (i := 14) (oi := ?_) (v := ?_) ?_ (by kernel_rfl) (by kernel_rfl) (by kernel_rfl) ?_ ?_ h12 ?_
          rotate_left 2
          · simp only [List.getElem?_toArray, List.getElem?_cons_zero, List.getElem?_cons_succ]; rfl
          · exact fun _ _ _ h => h
          · refine Or.inl ⟨by rfl, ?_⟩
            intro w hSw
            (try dsimp only at hSw)
            go_simp
            (try with_reducible rfl)
          (try simp only [Act.put, List.setIfInBounds_toArray, List.set_cons_zero, List.set_cons_succ])
          refine wpAnyH_ready (rs := [15]) (by kernel_rfl) (by simp) ?_
          refine AllReadyH.cons (o := ?_) ?_ (fun K hK => ?_) AllReadyH.nil
          rotate_left
          · simp only [List.getElem?_toArray, List.getElem?_cons_zero, List.getElem?_cons_succ]; rfl
          go_simp
          refine hK.out _ _ S11 (fun h15 => ?_)
          clear hK K
          (try simp only [Act.put, List.setIfInBounds_toArray, List.set_cons_zero, List.set_cons_succ])
          refine wpAnyH_done (by kernel_rfl) ?_ _
          refine NoPanic.normal ?_
          clear h0 h4 h9 h11 h12 h15 hr g0 gf d8 d9 S8 S9 S10 S11
          go_wp2_with fail
          go_roundw
          case rel => exact ⟨k + 1, HLT.out, by go_num, FIN⟩
          case measure => have := HLT.out; simp [intOf]; omega
        · refine AllReadyH.cons (o := ?_) ?_ (fun K hK => ?_) AllReadyH.nil
          rotate_left
          · simp only [List.getElem?_toArray, List.getElem?_cons_zero, List.getElem?_cons_succ]; rfl
          go_simp
          refine hK.out _ _ S9 (fun h11 => ?_)
          clear hK K
          (try simp only [Act.put, List.setIfInBounds_toArray, List.set_cons_zero, List.set_cons_succ])
          refine wpAnyH_ready (rs := [4]) (by kernel_rfl) (by simp) ?_
          refine AllReadyH.cons (o := ?_) ?_ (fun K hK => ?_) AllReadyH.nil
          rotate_left
          · simp only [List.getElem?_toArray, List.getElem?_cons_zero, List.getElem?_cons_succ]; rfl
          go_simp
          refine hK.out _ _ S9 (fun h4 => ?_)
          clear hK K
          (try simp only [Act.put, List.setIfInBounds_toArray, List.set_cons_zero, List.set_cons_succ])
          refine wpAnyH_ready (rs := [12]) (by kernel_rfl) (by simp) ?_
          refine AllReadyH.cons (o := ?_) ?_ (fun K hK => ?_) AllReadyH.nil
          rotate_left
          · simp only [List.getElem?_toArray, List.getElem?_cons_zero, List.getElem?_cons_succ]; rfl
          refine step_app11 (.tmp 23) (.tmp 30) rfl (by kernel_rfl) hr ?_
          refine hK.out _ _ S10 (fun h12 => ?_)
          clear hK K
          (try simp only [Act.put, List.setIfInBounds_toArray, List.set_cons_zero, List.set_cons_succ])
          refine wpAnyH_take (i := 13) (oi := ?_) (v := ?_) ?_ (by kernel_rfl) (by kernel_rfl) (by kernel_rfl) ?_ ?_ h12 ?_
          rotate_left 2
          · simp only [List.getElem?_toArray, List.getElem?_cons_zero, List.getElem?_cons_succ]; rfl
          · exact fun _ _ _ h => h
          · refine Or.inl ⟨by rfl, ?_⟩
            intro w hSw
            (try dsimp only at hSw)
            go_simp
            (try with_reducible rfl)
          (try simp only [Act.put, List.setIfInBounds_toArray, List.set_cons_zero, List.set_cons_succ])
          refine wpAnyH_take (i := 14) (oi := ?_) (v := ?_) ?_ (by kernel_rfl) (by kernel_rfl) (by kernel_rfl) ?_ ?_ h12 ?_
          rotate_left 2
          · simp only [List.getElem?_toArray, List.getElem?_cons_zero, List.getElem?_cons_succ]; rfl
          · exact fun _ _ _ h => h
          · refine Or.inl ⟨by rfl, ?_⟩
            intro w hSw
            (try dsimp only at hSw)
            go_simp
            (try with_reducible rfl)
          (try simp only [Act.put, List.setIfInBounds_toArray, List.set_cons_zero, List.set_cons_succ])
          refine wpAnyH_ready (rs := [15]) (by kernel_rfl) (by simp) ?_
          refine AllReadyH.cons (o := ?_) ?_ (fun K hK => ?_) AllReadyH.nil
          rotate_left
          · simp only [List.getElem?_toArray, List.getElem?_cons_zero, List.getElem?_cons_succ]; rfl
          go_simp
          refine hK.out _ _ S11 (fun h15 => ?_)
          clear hK K
          (try simp only [Act.put, List.setIfInBounds_toArray, List.set_cons_zero, List.set_cons_succ])
          refine wpAnyH_done (by kernel_rfl) ?_ _
          refine NoPanic.normal ?_
          clear h0 h4 h9 h11 h12 h15 hr g0 gf d8 d9 S8 S9 S10 S11
          go_wp2_with fail
          go_roundw
          case rel => exact ⟨k + 1, HLT.out, by go_num, FIN⟩
          case measure => have := HLT.out; simp [intOf]; omega
    · obtain rfl : k = n := by omega
      have TK : l.take k = l := List.take_of_length_le (by rw [← HN.out]; exact Nat.le_refl _)
      rw [TK] at hcl
      have hrow := hna.row
      have FIN := Lib.hid (show NewQ w (l.map tn) (.returned (.tuple #[.pointer (some ⟨B, 0, none⟩), .int .i64 0])) wr from by
        refine ⟨B, (fun i => w.heap.size ≤ i ∧ i < wr.heap.size ∧ i ≠ B), rfl, hna.x, ⟨fun x hx => ?_, ?_, fun h => h.2.2 rfl, fun i hi => hi.2.1, .inl ?_⟩, hna.bB, fun i hi => hi.1⟩
        · obtain ⟨y, hy, rfl⟩ := List.mem_map.1 hx
          exact HP.out y hy
        · rw [List.length_map, ← HN.out]; exact hn
        · have hb := hna.bB
          obtain ⟨LA, lc, rfl, hsw⟩ := own_seenW hrow (fun y hy => (hna.inn y hy).1)
          refine ⟨LA, lc, cl, hcl, hna.box, hsw, fun hne ad e => ?_, fun x hx ad e => ?_⟩
          · have h2 := hrow.2
            rcases h2 with ⟨h3, h4⟩ | ⟨g, cap, cur, hv', hg, hgg, _⟩
            · exact absurd (List.length_eq_zero_iff.1 h4) hne
            · simp only [Value.slice.injEq, true_and] at hv'
              rw [e] at hv'
              have h5 : ad = ⟨g, 0, none⟩ := by simpa using hv'.1
              rw [h5]
              have := (Array.getElem?_eq_some_iff.1 hgg).1
              exact ⟨by show _ ≤ g; omega, this, by show g ≠ B; omega⟩
          · obtain ⟨b1, b2, _⟩ := (hna.inn x hx).2 ad e
            exact ⟨by omega, b2, by omega⟩)
      clear hh hna hcl TK hrow
      go_wp2_with fail
      go_ret2
      exact FIN.out
end L11
end Go.Proofs.YtmmgmcfhlhghoaaGreatDoor

namespace Go.Proofs.YtmmgmcfhlhghoaaGreatDoor
open Go.RowKit
namespace L04

theorem ret_b {a b : Bool} (h : a = b) : Ending.returned (.bool a) = .returned (.bool b) := by rw [h]
/-- Two lists that are the same. -/
def sameB (n m : Nat) (f g : Nat → Int) : Bool := decide (n = m ∧ ∀ j, j < n → f j = g j)
theorem same_any (A B : Option Addr) (n m c d : Nat) (f g : Nat → Int) (w : World) (hs : SeenF w A n f) (ht : SeenF w B m g) (hn : n ≤ 9223372036854775806) :
    Calls Tryz.prog 23 #[.slice A n c, .slice B m d] w (Ret w (.bool (sameB n m f g))) := by
  by_cases h1 : n = m
  · subst h1
    go_enter Tryz.func23, Tryz.ntmps23
    go_wp2_with fail
    go_loopw [5] (fun i wr => ∃ (k : Nat), k ≤ n ∧ i = .int .i64 k ∧ Hid (∀ j, j < k → f j = g j) ∧ Ext w wr) (fun i _ => n - (intOf i).toNat)
    case atStart => exact ⟨0, by omega, rfl, fun j hj => absurd hj (by omega), Ext.refl _⟩
    case round =>
      obtain ⟨k, hk, rfl, ha, hx⟩ := hrel
      by_cases hlt : k < n
      · obtain ⟨ad, rfl, hc⟩ := (hs.ext hx).get hlt
        obtain ⟨be, rfl, hd⟩ := (ht.ext hx).get hlt
        have HX := Lib.hid hx
        clear hx
        by_cases h2 : f k = g k
        · have HK : Hid (∀ j, j < k + 1 → f j = g j) := fun j hj => by
            by_cases e : j = k
            · subst e; exact h2
            · exact ha.out j (by omega)
          rw [← h2] at hd
          generalize f k = x at *
          clear h2
          go_wp2_with fail
          go_quiet (fail)
          go_wp2_with fail
          go_roundw
          case rel => exact ⟨k + 1, by omega, by go_num, HK, HX.out.drewN _⟩
          case measure => simp [intOf]; omega
        · have NO : Hid (false = sameB n n f g) := (decide_eq_false fun h => h2 (h.2 k hlt)).symm
          generalize f k = x at *
          generalize g k = y at *
          go_wp2_with fail
          go_quiet (fail)
          go_wp2_with fail
          go_ret
          exact ⟨ret_b NO.out, HX.out.drewN _⟩
      · obtain rfl : k = n := by omega
        have NO : Hid (true = sameB k k f g) := (decide_eq_true ⟨rfl, ha.out⟩).symm
        go_wp2_with fail
        go_ret
        exact ⟨ret_b NO.out, hx⟩
  · have h1z : ¬ ((n : Int) = (m : Int)) := by omega
    rw [show sameB n m f g = false from decide_eq_false fun h => h1 h.1]
    go_enter Tryz.func23, Tryz.ntmps23
    go_wp2_with fail
    go_ret
    exact ⟨rfl, Ext.refl _⟩
end L04
end Go.Proofs.YtmmgmcfhlhghoaaGreatDoor

namespace Go.Proofs.YtmmgmcfhlhghoaaGreatDoor
open Go.RowKit Go.Lib

theorem load_box {W : World} {b : Nat} {cs : List Value} (hb : W.rangeAt b 0 cs) : (loadCellsFrom ⟨b, 0, none⟩ 0 cs.length #[]).run Tryz.prog W = .ok cs.toArray W := by
  have := run_loadCells_list (P := Tryz.prog) W ⟨b, 0, none⟩ cs (fun j v hv => by rw [Addr.add_mid]; exact hb j v hv)
  simpa [loadCells] using this
/-- Two structs' boxes as results. -/
theorem results_boxes {fn : Func} {p q : Nat} {t u : TypeId} (h : fn.results = #[.cell p t, .cell q u]) (tmps : Array Value) (W : World) (b c : Nat) (cs ds : List Value) (hp : tmps[p]? = some (.pointer (some ⟨b, 0, none⟩))) (hq : tmps[q]? = some (.pointer (some ⟨c, 0, none⟩)))
    (hb : W.rangeAt b 0 cs) (hc : W.rangeAt c 0 ds) (ha : (isAgg t).run Tryz.prog W = .ok true W) (hs : (Go.sizeOf t).run Tryz.prog W = .ok cs.length W) (ha' : (isAgg u).run Tryz.prog W = .ok true W) (hs' : (Go.sizeOf u).run Tryz.prog W = .ok ds.length W) :
    (results fn tmps).run Tryz.prog W = .ok (.tuple #[.agg cs.toArray, .agg ds.toArray]) W := by
  have hl := load_box hb
  have hl' := load_box hc
  simp only [results, h]
  simp [go_sem, loadVar, loadCells, asAddr, hp, hq, hl, hl', ha, hs, ha', hs']
/-- A struct's box, and a box of one cell, as results. -/
theorem results_box_one {fn : Func} {p q : Nat} {t u : TypeId} (h : fn.results = #[.cell p t, .cell q u]) (tmps : Array Value) (W : World) (b c : Nat) (cs : List Value) (v : Value) (hp : tmps[p]? = some (.pointer (some ⟨b, 0, none⟩))) (hq : tmps[q]? = some (.pointer (some ⟨c, 0, none⟩)))
    (hb : W.rangeAt b 0 cs) (hc : W.cell? ⟨c, 0, none⟩ = some v) (ha : (isAgg t).run Tryz.prog W = .ok true W) (hs : (Go.sizeOf t).run Tryz.prog W = .ok cs.length W) (ha' : (isAgg u).run Tryz.prog W = .ok false W) :
    (results fn tmps).run Tryz.prog W = .ok (.tuple #[.agg cs.toArray, v]) W := by
  have hl := load_box hb
  simp only [results, h]
  simp [go_sem, loadVar, loadCells, asAddr, hp, hq, hl, hc, ha, hs, ha']
/-- A struct's box, and a temporary, as results. -/
theorem results_box_tmp {fn : Func} {p q : Nat} {t : TypeId} (h : fn.results = #[.cell p t, .tmp q]) (tmps : Array Value) (W : World) (b : Nat) (cs : List Value) (v : Value) (hp : tmps[p]? = some (.pointer (some ⟨b, 0, none⟩))) (hq : tmps[q]? = some v)
    (hb : W.rangeAt b 0 cs) (ha : (isAgg t).run Tryz.prog W = .ok true W) (hs : (Go.sizeOf t).run Tryz.prog W = .ok cs.length W) : (results fn tmps).run Tryz.prog W = .ok (.tuple #[.agg cs.toArray, v]) W := by
  have hl := load_box hb
  simp only [results, h]
  simp [go_sem, loadVar, loadCells, asAddr, hp, hq, hl, ha, hs]
end Go.Proofs.YtmmgmcfhlhghoaaGreatDoor

namespace Go.Proofs.YtmmgmcfhlhghoaaGreatDoor
open Go.RowKit
open Go.Lib hiding intOf
namespace L10

/-- A call within a region that draws its order. -/
theorem rg10 {f : FuncId} {args : Array Value} {w : World} {d : Nat} {os : Array Obj} {v : Value} (h : Calls Tryz.prog f args (Sort.grow (redrawn w d) os) (Ret (Sort.grow (redrawn w d) os) v)) :
    Calls Tryz.prog f args (Sort.grow (redrawn w d) os) fun e w'' => e = .returned v ∧ ∃ p : Regrown, w'' = Sort.grow (redrawn w p.d) p.os := Calls.regrown_of h
def few1 (x : WP) : Bool := decide (x.s.size ≤ 60) && decide (x.ns.length ≤ 60)
def fewD (D : PatsD) : Bool := (decide (D.l.length ≤ 310) && decide (D.m.length ≤ 310)) && (D.l.all few1 && D.m.all few1)

set_option maxRecDepth 100000 in
set_option maxHeartbeats 4000000 in
theorem fewp_any (D : PatsD) (P : PatsP) (w : World) (sn : SeenPats w D P) : Calls Tryz.prog 5 #[patsV D P] w (Ret w (.bool (fewD D))) := by
  obtain ⟨l, m⟩ := D
  obtain ⟨A, c, B, d⟩ := P
  obtain ⟨V, hV⟩ : ∃ V, V = w.alloc (.cells #[.slice A l.length c, .slice B m.length d] 25) := ⟨_, rfl⟩
  have W0 : Ext w V := by rw [hV]; exact (Ext.refl _).alloc _
  have kB : Blk V w.heap.size 25 [.slice A l.length c, .slice B m.length d] := by rw [hV]; exact Blk.lit _ _ _ _ rfl
  have SL := Lib.hid ((sn.ext W0).l)
  have SM := Lib.hid ((sn.ext W0).m)
  obtain ⟨b, hb⟩ : ∃ b, fewD ⟨l, m⟩ = b := ⟨_, rfl⟩
  rw [hb]
  have HB0 := Lib.hid (show ((decide (l.length ≤ 310) && decide (m.length ≤ 310)) && (l.all few1 && m.all few1)) = b from hb)
  unfold patsV
  obtain ⟨n, hn⟩ : ∃ n, n = l.length := ⟨_, rfl⟩
  obtain ⟨q, hq⟩ : ∃ q, q = m.length := ⟨_, rfl⟩
  dsimp only at SL SM ⊢
  rw [← hn] at hV kB HB0 ⊢
  rw [← hq] at hV kB HB0 ⊢
  have HN := Lib.hid hn
  have HQ := Lib.hid hq
  clear hb hn hq sn
  by_cases h1 : (310 : Int) < n
  · have HF := Lib.hid (show false = b by rw [← HB0.out, decide_eq_false (show ¬ n ≤ 310 by omega)]; rfl)
    clear HB0 SL SM kB
    go_enter Tryz.func5, Tryz.ntmps5
    go_upto_region 1 with (fail)
    rw [← hV]
    have q0 : V.cell? ⟨w.heap.size, 0, none⟩ = some (.slice A n c) := by rw [hV]; simp
    have q1 : V.cell? ⟨w.heap.size, 1, none⟩ = some (.slice B q d) := by rw [hV]; simp
    clear hV
    go_wp2_with fail
    go_ret
    exact ⟨ret_bool HF.out, W0⟩
  by_cases h2 : (310 : Int) < q
  · have HF := Lib.hid (show false = b by rw [← HB0.out, decide_eq_true (show n ≤ 310 by omega), decide_eq_false (show ¬ q ≤ 310 by omega)]; rfl)
    clear HB0 SL SM kB
    go_enter Tryz.func5, Tryz.ntmps5
    go_upto_region 1 with (fail)
    rw [← hV]
    have q0 : V.cell? ⟨w.heap.size, 0, none⟩ = some (.slice A n c) := by rw [hV]; simp
    have q1 : V.cell? ⟨w.heap.size, 1, none⟩ = some (.slice B q d) := by rw [hV]; simp
    clear hV
    go_wp2_with fail
    go_ret
    exact ⟨ret_bool HF.out, W0⟩
  have HB := Lib.hid (show (l.all few1 && m.all few1) = b by rw [← HB0.out, decide_eq_true (show n ≤ 310 by omega), decide_eq_true (show q ≤ 310 by omega)]; rfl)
  clear HB0
  go_enter Tryz.func5, Tryz.ntmps5
  go_upto_region 1 with (fail)
  rw [← hV]
  clear hV
  generalize w.heap.size = Bx at *
  have HX := Lib.hid W0
  clear W0
  have q0 : V.cell? ⟨Bx, 0, none⟩ = some (.slice A n c) := kB.cell 0
  have q1 : V.cell? ⟨Bx, 1, none⟩ = some (.slice B q d) := kB.cell 1
  go_wp2_with fail
  go_loop [3] (fun i => ∃ k : Nat, k ≤ n ∧ i = .int .i64 k ∧ Hid (l.all few1 = (l.drop k).all few1)) (fun i => n - (intOf i).toNat)
  case atStart => exact ⟨0, Nat.zero_le _, rfl, rfl⟩
  case round =>
    obtain ⟨k, hkk, rfl, hall⟩ := hrel
    by_cases hltk : k < n
    · have hlt' : k < l.length := by rw [← HN.out]; exact hltk
      obtain ⟨⟨ad, hA, e0, e1⟩, _⟩ := SL.out.get hlt'
      rw [hA] at q0
      have hall := hall.out
      rw [all_drop hlt'] at hall
      have HALL := Lib.hid hall
      have hk64 : (k : Int) < (n : Int) := by omega
      generalize l[k] = x at *
      obtain ⟨s, ns, A', c'⟩ := x
      dsimp only at e0 e1
      obtain ⟨z, hz⟩ : ∃ z, z = ns.length := ⟨_, rfl⟩
      rw [← hz] at e1
      have F1 := Lib.hid (show few1 ⟨s, ns, A', c'⟩ = (decide (s.size ≤ 60) && decide (z ≤ 60)) by rw [hz]; rfl)
      clear hall hz hA
      by_cases h60 : (60 : Int) < s.size
      · have HF := Lib.hid (show false = b by rw [← HB.out, HALL.out, F1.out, decide_eq_false (show ¬ s.size ≤ 60 by omega)]; rfl)
        clear HALL F1
        go_wp2_with fail
        go_ret
        exact ⟨ret_bool HF.out, HX.out⟩
      · by_cases h61 : (60 : Int) < z
        · have HF := Lib.hid (show false = b by rw [← HB.out, HALL.out, F1.out, decide_eq_true (show s.size ≤ 60 by omega), decide_eq_false (show ¬ z ≤ 60 by omega)]; rfl)
          clear HALL F1
          go_wp2_with fail
          go_ret
          exact ⟨ret_bool HF.out, HX.out⟩
        · have HR := Lib.hid (show l.all few1 = (l.drop (k + 1)).all few1 by rw [HALL.out, F1.out, decide_eq_true (show s.size ≤ 60 by omega), decide_eq_true (show z ≤ 60 by omega)]; rfl)
          clear HALL F1
          go_wp2_with fail
          go_round
          case rel => exact ⟨k + 1, by omega, by go_num, HR⟩
          case measure => simp [intOf]; omega
    · obtain rfl : k = n := by omega
      have HB2 := Lib.hid (show m.all few1 = b by rw [← HB.out, hall.out, HN.out, List.drop_length]; rfl)
      clear hall HB
      go_wp2_with fail
      go_loop [4] (fun i => ∃ k : Nat, k ≤ q ∧ i = .int .i64 k ∧ Hid (m.all few1 = (m.drop k).all few1)) (fun i => q - (intOf i).toNat)
      case atStart => exact ⟨0, Nat.zero_le _, rfl, rfl⟩
      case round =>
        obtain ⟨j, hkj, rfl, hall⟩ := hrel
        by_cases hltj : j < q
        · have hlt' : j < m.length := by rw [← HQ.out]; exact hltj
          obtain ⟨⟨ad, hA, e0, e1⟩, _⟩ := SM.out.get hlt'
          rw [hA] at q1
          have hall := hall.out
          rw [all_drop hlt'] at hall
          have HALL := Lib.hid hall
          have hk64 : (j : Int) < (q : Int) := by omega
          generalize m[j] = x at *
          obtain ⟨s, ns, A', c'⟩ := x
          dsimp only at e0 e1
          obtain ⟨z, hz⟩ : ∃ z, z = ns.length := ⟨_, rfl⟩
          rw [← hz] at e1
          have F1 := Lib.hid (show few1 ⟨s, ns, A', c'⟩ = (decide (s.size ≤ 60) && decide (z ≤ 60)) by rw [hz]; rfl)
          clear hall hz hA
          by_cases h60 : (60 : Int) < s.size
          · have HF := Lib.hid (show false = b by rw [← HB2.out, HALL.out, F1.out, decide_eq_false (show ¬ s.size ≤ 60 by omega)]; simp)
            clear HALL F1
            go_wp2_with fail
            go_ret
            exact ⟨ret_bool HF.out, HX.out⟩
          · by_cases h61 : (60 : Int) < z
            · have HF := Lib.hid (show false = b by rw [← HB2.out, HALL.out, F1.out, decide_eq_true (show s.size ≤ 60 by omega), decide_eq_false (show ¬ z ≤ 60 by omega)]; simp)
              clear HALL F1
              go_wp2_with fail
              go_ret
              exact ⟨ret_bool HF.out, HX.out⟩
            · have HR := Lib.hid (show m.all few1 = (m.drop (j + 1)).all few1 by rw [HALL.out, F1.out, decide_eq_true (show s.size ≤ 60 by omega), decide_eq_true (show z ≤ 60 by omega)]; rfl)
              clear HALL F1
              go_wp2_with fail
              go_round
              case rel => exact ⟨j + 1, by omega, by go_num, HR⟩
              case measure => simp [intOf]; omega
        · obtain rfl : j = q := by omega
          have HF := Lib.hid (show true = b by rw [← HB2.out, hall.out, HQ.out, List.drop_length]; rfl)
          clear hall
          go_wp2_with fail
          go_ret
          exact ⟨ret_bool HF.out, HX.out⟩
/-- An argument that is Few. -/
theorem few_len {D : PatsD} (h : fewD D = true) : D.l.length ≤ 310 ∧ D.m.length ≤ 310 ∧ ∀ x ∈ D.l ++ D.m, x.s.size ≤ 60 ∧ x.ns.length ≤ 60 := by
  simp only [fewD, few1, Bool.and_eq_true, decide_eq_true_eq, List.all_eq_true] at h
  refine ⟨h.1.1, h.1.2, fun x hx => ?_⟩
  rcases List.mem_append.1 hx with hx | hx
  · exact h.2.1 x hx
  · exact h.2.2 x hx
end L10
end Go.Proofs.YtmmgmcfhlhghoaaGreatDoor

namespace Go.Proofs.YtmmgmcfhlhghoaaGreatDoor
open Go.RowKit
open Go.Lib hiding intOf
namespace L11
open L10 (TN plainB patB tn rd patsB)

/-- Two lists of numbers: the same? -/
theorem same_lists (A B : Option Addr) (l m : List Int) (c d : Nat) (w : World) (hs : SeenL w A l) (ht : SeenL w B m) (hn : l.length ≤ 1000000) :
    Calls Tryz.prog 23 #[.slice A l.length c, .slice B m.length d] w (Ret w (.bool (decide (l = m)))) := by
  have := L04.same_any A B l.length m.length c d _ _ w hs.fn ht.fn (by omega)
  have e : L04.sameB l.length m.length (fun j => l.getD j 0) (fun j => m.getD j 0) = decide (l = m) := by
    unfold L04.sameB
    rw [decide_eq_decide]
    constructor
    · rintro ⟨h1, h2⟩
      apply List.ext_getElem h1
      intro j hj hj'
      have := h2 j hj
      simpa [List.getD, hj, hj'] using this
    · rintro rfl
      exact ⟨rfl, fun _ _ => rfl⟩
  rwa [e] at this
theorem blk_seenL {w : World} {b : Nat} {t : TypeId} {l : List Int} {cs : List Value} (h : Blk w b t cs) (e : cs = l.map (.int .i64)) : SeenL w (some ⟨b, 0, none⟩) l := fun j v hv =>
  ⟨_, rfl, h.lt, by rw [add_zero_addr, h.cell, e]; exact hv⟩
theorem blk_seenW {w : World} {b : Nat} {t : TypeId} {l : List WP} {cs : List Value} (h : Blk w b t cs) (e : cs = flatW l) (hs : ∀ y ∈ l, SeenL w y.A y.ns) : SeenW w (some ⟨b, 0, none⟩) l := fun i x hx => by
  obtain ⟨f0, f1⟩ := flatW_get l i x hx
  refine ⟨⟨_, rfl, h.lt, ?_, ?_⟩, hs x (List.mem_of_getElem? hx)⟩
  · rw [add_zero_addr, h.cell, e]; exact f0
  · rw [add_zero_addr, h.cell, e]; exact f1
theorem wp_ok (s : ByteArray) (l : List Int) (A : Option Addr) (c : Nat) (h1 : l.length ≤ c) (h2 : c ≤ 100) (h3 : s.size ≤ 100) (h4 : ∀ n ∈ l, -100 ≤ n ∧ n ≤ 100) : WP.Ok ⟨s, l, A, c⟩ :=
  ⟨h1, by unfold maxLen; show c ≤ _; omega, by unfold maxLen; show s.size ≤ _; omega, fun n hn => by have := h4 n hn; omega⟩
/-- Numbers that are seen stay, while what is not where they are may turn. -/
theorem seenL_but {S : Nat → Prop} {w w' : World} {A : Option Addr} {vs : List Int} (h : SeenL w A vs) (x : But S w w') (hA : ∀ ad, A = some ad → ¬ S ad.block) : SeenL w' A vs := seenL_keep h x (fun _ => hA)
end L11
end Go.Proofs.YtmmgmcfhlhghoaaGreatDoor

