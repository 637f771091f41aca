/- The landed Set. -/
import Derived.Test.YtijhabhnhglhgaaExpand08
namespace Go.Proofs.Ytijhabhnhglhgaa
open Go.RowKit Go.Lib Go.Deep
namespace L08
open L07

/-- Glyphs, cell by cell. -/
def flatG (g : List (Int × Int)) : List Value := g.flatMap fun p => [.int .i64 p.1, .int .i64 p.2]
theorem flatG_snoc (g : List (Int × Int)) (p : Int × Int) : flatG (g ++ [p]) = flatG g ++ [.int .i64 p.1, .int .i64 p.2] := by simp [flatG]
theorem flatG_length : ∀ g : List (Int × Int), (flatG g).length = g.length * 2
  | [] => rfl
  | p :: r => by
    have := flatG_length r
    simp only [flatG, List.flatMap_cons, List.length_append, List.length_cons, List.length_nil] at this ⊢
    omega
theorem flatG_get : ∀ (g : List (Int × Int)) (i : Nat), i < g.length → (flatG g)[i * 2]? = some (.int .i64 (g.getD i (0, 0)).1) ∧ (flatG g)[i * 2 + 1]? = some (.int .i64 (g.getD i (0, 0)).2)
  | [], i, h => by simp at h
  | p :: r, 0, _ => by simp [flatG]
  | p :: r, i + 1, h => by
    have := flatG_get r i (by simpa using h)
    have e : flatG (p :: r) = .int .i64 p.1 :: .int .i64 p.2 :: flatG r := rfl
    rw [e, show (i + 1) * 2 = i * 2 + 1 + 1 by omega]
    simpa using this
/-- Glyphs that are seen. -/
def SeenG (w : World) (A : Option Addr) (g : List (Int × Int)) : Prop := SeenN 2 w A g.length (fun i j => if j = 0 then (g.getD i (0, 0)).1 else (g.getD i (0, 0)).2)
theorem SeenG.ext {w w' : World} {A : Option Addr} {g : List (Int × Int)} (h : SeenG w A g) (x : Ext w w') : SeenG w' A g := SeenN.ext h x
theorem seenG_of {w : World} {A : Option Addr} {g : List (Int × Int)} (h : Seen w.heap.size w A (flatG g)) : SeenG w A g := fun i hi j hj => by
  obtain ⟨h0, h1⟩ := flatG_get g i hi
  obtain rfl | rfl : j = 0 ∨ j = 1 := by omega
  · exact h _ _ h0
  · exact h _ _ h1
theorem ownsRow_ext {w w' : World} {base : Nat} {e : TypeId} {size n : Nat} {v : Value} {xs : List Value} (h : w.ownsRow base e size v n xs) (x : Ext w w') : w'.ownsRow base e size v n xs :=
  Chg.owns (Chg.of_ext (T := NoT) (N := 0) x) h (fun _ _ _ h => h)
theorem gly_info : (Try.prog.info? 56).map (fun i => (i.zero, i.size, i.bytes)) = some (some (.agg #[.int .i64 0, .int .i64 0]), 2, 16) := by kernel_rfl
/-- append(own, glyph). -/
theorem run_putG {w w0 : World} {v : Value} {k : Nat} {xs : List Value} (hown : w.ownsRow w0.heap.size 56 2 v k xs) (x0 : Ext w0 w) (b : Nat) (x y : Int) (h0 : w.cell? ⟨b, 0, none⟩ = some (.int .i64 x)) (h1 : w.cell? ⟨b, 1, none⟩ = some (.int .i64 y)) (hk : k ≤ 900000) (ty : TypeId) :
    ∃ v' w', (Builtin.append_ #[35, 35] ty #[v, .slice (some ⟨b, 0, none⟩) 1 1]).run Try.prog w = .ok v' w' ∧ w'.ownsRow w0.heap.size 56 2 v' (k + 1) (xs ++ [.int .i64 x, .int .i64 y]) ∧ Ext w0 w' := by
  obtain ⟨i, hi, hz0, hsz', hby⟩ := info_parts gly_info
  obtain ⟨v', w', hr, ho, hg, _, _⟩ := run_append_own_at (P := Try.prog) (w := w) w0.heap.size 35 ty 56 i _ 2 16 Try.underlying35 hi hz0 hsz' hby rfl (by decide) v k xs hown ⟨b, 0, none⟩ 1 1 [.int .i64 x, .int .i64 y] rfl
    (fun j u hu => by
      rw [add_zero_addr]
      match j, hu with
      | 0, hu => simp at hu; subst hu; exact h0
      | 1, hu => simp at hu; subst hu; exact h1) (by simp [Value.oneCell']) (by unfold maxLen; omega) (by omega) x0.size
  exact ⟨v', w', hr, ho, Below.grown x0 hg x0.size (fun n e => (hown.lt n e).1)⟩

theorem owns_set {w : World} {base : Nat} {e : TypeId} {size n : Nat} {v : Value} {xs : List Value} (h : w.ownsRow base e size v n xs) {b i : Nat} (hb : v.ownBlock ≠ some b) (u : Value) : (w.setCell ⟨b, i, none⟩ u).ownsRow base e size v n xs := by
  obtain ⟨hl, hn | ⟨g, cap, cur, rfl, hb', hg, rest⟩⟩ := h
  · exact ⟨hl, .inl hn⟩
  · refine ⟨hl, .inr ⟨g, cap, cur, rfl, hb', ?_, rest⟩⟩
    show (w.heap.modify b _)[g]? = _
    rw [Array.getElem?_modify, if_neg (fun e => hb (by rw [e]; rfl))]
    exact hg

/-- The glyphs of codes, or its error. -/
def setR (D : FontD) (l : List Int) : List (Int × Int) × Int := if ligB D = true then (if setB D l = true then (glyD D l, 0) else ([], 80)) else ([], 70)
def GlyQ (w : World) (r : List (Int × Int) × Int) (e : Ending) (w' : World) : Prop :=
  Ext w w' ∧ ∃ A c, e = .returned (.tuple #[.slice A r.1.length c, .int .i64 r.2]) ∧ r.1.length ≤ c ∧ c ≤ maxLen ∧ SeenG w' A r.1
theorem glyQ_nil {w w' : World} (x : Ext w w') (e : Int) : GlyQ w ([], e) (.returned (.tuple #[.slice none 0 0, .int .i64 e])) w' := ⟨x, none, 0, rfl, by simp, by simp [maxLen], SeenN.nil⟩
theorem setB_get {D : FontD} {l : List Int} {k : Nat} (h : setB D l = true) (hk : k < l.length) : 33 ≤ l.getD k 0 ∧ l.getD k 0 ≤ 126 ∧ hasB D (l.getD k 0) = true := by
  rw [setB, List.all_eq_true] at h
  have := h _ (List.getElem_mem hk)
  rw [List.getD, List.getElem?_eq_getElem hk]
  simp only [oneB, Bool.and_eq_true, decide_eq_true_eq] at this
  exact ⟨this.1.1, this.1.2, this.2⟩
theorem drop_get {l : List Int} {k : Nat} (hk : k < l.length) : l.drop k = l.getD k 0 :: l.drop (k + 1) := by
  rw [List.drop_eq_getElem_cons hk, List.getD, List.getElem?_eq_getElem hk]; rfl
theorem glyL_length (D : FontD) : ∀ (r : List Int) (so : Int), (glyL D so r).length ≤ r.length + 1
  | [], _ => by simp [glyL]
  | n :: r, so => by
    simp only [glyL]
    split
    · rename_i q _
      split
      · have := glyL_length D r (D.stp q 3); simp only [List.length_cons]; omega
      · have := glyL_length D r n; simp only [List.length_cons]; omega
    · have := glyL_length D r n; simp only [List.length_cons]; omega

set_option maxRecDepth 100000 in
set_option maxHeartbeats 8000000 in
theorem lset_any (D : FontD) (P : FontP) (A : Option Addr) (l : List Int) (cp : Nat) (w : World) (ok : FontOk D P) (sn : SeenFont w D P) (hl : SeenF w A l.length (fun j => l.getD j 0)) (hn : l.length ≤ 1000) (hcp : l.length ≤ cp) (hcm : cp ≤ maxLen) :
    Calls Try.prog 11 #[fontV D P, .slice A l.length cp] w (GlyQ w (setR D l)) := by
  unfold maxLen at hcm
  have W0 : Ext w (w.alloc (.cells #[.int .i64 D.sum, .int .i64 D.design, .int .i64 D.first, .slice P.xc D.nc P.zc, .slice P.xw D.nw P.zw, .slice P.xh D.nh P.zh, .slice P.xd D.nd P.zd, .slice P.xi D.ni P.zi, .slice P.xs D.ns P.zs, .slice P.xk D.nk P.zk, .slice P.xp D.np P.zp] 28)) := (Ext.refl _).alloc _
  have kF : Blk (w.alloc (.cells #[.int .i64 D.sum, .int .i64 D.design, .int .i64 D.first, .slice P.xc D.nc P.zc, .slice P.xw D.nw P.zw, .slice P.xh D.nh P.zh, .slice P.xd D.nd P.zd, .slice P.xi D.ni P.zi, .slice P.xs D.ns P.zs, .slice P.xk D.nk P.zk, .slice P.xp D.np P.zp] 28)) w.heap.size 28 [.int .i64 D.sum, .int .i64 D.design, .int .i64 D.first, .slice P.xc D.nc P.zc, .slice P.xw D.nw P.zw, .slice P.xh D.nh P.zh, .slice P.xd D.nd P.zd, .slice P.xi D.ni P.zi, .slice P.xs D.ns P.zs, .slice P.xk D.nk P.zk, .slice P.xp D.np P.zp] := Blk.lit _ _ _ _ rfl
  have C1 := Lib.hid (lcheck_any D P (w.alloc (.cells #[.int .i64 D.sum, .int .i64 D.design, .int .i64 D.first, .slice P.xc D.nc P.zc, .slice P.xw D.nw P.zw, .slice P.xh D.nh P.zh, .slice P.xd D.nd P.zd, .slice P.xi D.ni P.zi, .slice P.xs D.ns P.zs, .slice P.xk D.nk P.zk, .slice P.xp D.np P.zp] 28)) ok (sn.ext W0))
  have C2 := Lib.hid (fun w' (x : Ext w w') => settable_any D P A l cp w' ok (sn.ext x) (hl.ext x) (by omega))
  have OK := Lib.hid ok
  have SN := Lib.hid sn
  clear ok sn
  obtain ⟨n, hnl⟩ : ∃ n, n = l.length := ⟨_, rfl⟩
  rw [← hnl] at hl hn hcp C2 ⊢
  have HN := Lib.hid hnl
  clear hnl
  cases h1 : ligB D with
  | false =>
    have HR := Lib.hid (show setR D l = ([], 70) by rw [setR, h1]; rfl)
    rw [h1] at C1
    clear h1 C2 kF hl
    unfold fontV at *
    go_enter Try.func11, Try.ntmps11
    go_wp2_with fail
    refine C1.out.mono ?_; rintro e w1 ⟨rfl, x1⟩
    go_wp2_with fail
    go_ret2
    rw [HR.out]
    exact glyQ_nil (W0.trans x1) 70
  | true =>
  cases h2 : setB D l with
  | false =>
    have HR := Lib.hid (show setR D l = ([], 80) by rw [setR, h1, h2]; rfl)
    rw [h1] at C1
    rw [h2] at C2
    clear h1 h2
    unfold fontV at *
    go_enter Try.func11, Try.ntmps11
    go_wp2_with fail
    refine C1.out.mono ?_; rintro e w1 ⟨rfl, x1⟩
    have kF := kF.ext x1
    have q0 : w1.cell? ⟨w.heap.size, 0, none⟩ = some (.int .i64 D.sum) := kF.cell 0
    have q1 : w1.cell? ⟨w.heap.size, 1, none⟩ = some (.int .i64 D.design) := kF.cell 1
    have q2 : w1.cell? ⟨w.heap.size, 2, none⟩ = some (.int .i64 D.first) := kF.cell 2
    have q3 : w1.cell? ⟨w.heap.size, 3, none⟩ = some (.slice P.xc D.nc P.zc) := kF.cell 3
    have q4 : w1.cell? ⟨w.heap.size, 4, none⟩ = some (.slice P.xw D.nw P.zw) := kF.cell 4
    have q5 : w1.cell? ⟨w.heap.size, 5, none⟩ = some (.slice P.xh D.nh P.zh) := kF.cell 5
    have q6 : w1.cell? ⟨w.heap.size, 6, none⟩ = some (.slice P.xd D.nd P.zd) := kF.cell 6
    have q7 : w1.cell? ⟨w.heap.size, 7, none⟩ = some (.slice P.xi D.ni P.zi) := kF.cell 7
    have q8 : w1.cell? ⟨w.heap.size, 8, none⟩ = some (.slice P.xs D.ns P.zs) := kF.cell 8
    have q9 : w1.cell? ⟨w.heap.size, 9, none⟩ = some (.slice P.xk D.nk P.zk) := kF.cell 9
    have q10 : w1.cell? ⟨w.heap.size, 10, none⟩ = some (.slice P.xp D.np P.zp) := kF.cell 10
    go_wp2_with fail
    refine (C2.out _ (W0.trans x1)).mono ?_; rintro e w2 ⟨rfl, x2⟩
    go_wp2_with fail
    go_ret2
    rw [HR.out]
    exact glyQ_nil ((W0.trans x1).trans x2) 80
  | true =>
  obtain ⟨m, hm⟩ := Option.isSome_iff_exists.1 (show (makeD D).isSome = true from h1)
  have G := Lib.hid (make_good hm)
  have HS := Lib.hid h2
  rw [h1] at C1
  rw [h2] at C2
  have HR := Lib.hid (show setR D l = (glyD D l, 0) by rw [setR, h1, h2]; rfl)
  clear h1 h2 hm
  by_cases hn0 : n = 0
  · subst hn0
    have hl0 : l = [] := List.eq_nil_of_length_eq_zero HN.out.symm
    have HR2 := Lib.hid (show setR D l = ([], 0) by rw [HR.out, hl0]; rfl)
    clear hl0
    unfold fontV at *
    go_enter Try.func11, Try.ntmps11
    go_wp2_with fail
    refine C1.out.mono ?_; rintro e w1 ⟨rfl, x1⟩
    have kF := kF.ext x1
    have q0 : w1.cell? ⟨w.heap.size, 0, none⟩ = some (.int .i64 D.sum) := kF.cell 0
    have q1 : w1.cell? ⟨w.heap.size, 1, none⟩ = some (.int .i64 D.design) := kF.cell 1
    have q2 : w1.cell? ⟨w.heap.size, 2, none⟩ = some (.int .i64 D.first) := kF.cell 2
    have q3 : w1.cell? ⟨w.heap.size, 3, none⟩ = some (.slice P.xc D.nc P.zc) := kF.cell 3
    have q4 : w1.cell? ⟨w.heap.size, 4, none⟩ = some (.slice P.xw D.nw P.zw) := kF.cell 4
    have q5 : w1.cell? ⟨w.heap.size, 5, none⟩ = some (.slice P.xh D.nh P.zh) := kF.cell 5
    have q6 : w1.cell? ⟨w.heap.size, 6, none⟩ = some (.slice P.xd D.nd P.zd) := kF.cell 6
    have q7 : w1.cell? ⟨w.heap.size, 7, none⟩ = some (.slice P.xi D.ni P.zi) := kF.cell 7
    have q8 : w1.cell? ⟨w.heap.size, 8, none⟩ = some (.slice P.xs D.ns P.zs) := kF.cell 8
    have q9 : w1.cell? ⟨w.heap.size, 9, none⟩ = some (.slice P.xk D.nk P.zk) := kF.cell 9
    have q10 : w1.cell? ⟨w.heap.size, 10, none⟩ = some (.slice P.xp D.np P.zp) := kF.cell 10
    go_wp2_with fail
    refine (C2.out _ (W0.trans x1)).mono ?_; rintro e w2 ⟨rfl, x2⟩
    go_wp2_with fail
    go_ret2
    rw [HR2.out]
    exact glyQ_nil ((W0.trans x1).trans x2) 0
  obtain ⟨ad, rfl, _⟩ := hl.get (show 0 < n by omega)
  obtain ⟨c0, hc0⟩ : ∃ c0, c0 = l.getD 0 0 := ⟨_, rfl⟩
  have hg0 := setB_get HS.out (show 0 < l.length by rw [← HN.out]; omega)
  rw [← hc0] at hg0
  have HG := Lib.hid (show glyD D l = glyL D c0 (l.drop 1) by
    have e := drop_get (l := l) (k := 0) (by rw [← HN.out]; omega)
    rw [List.drop_zero] at e
    rw [hc0]
    conv => lhs; rw [e]
    rfl)
  have nz : (n == 0) = false := by simpa using hn0
  have nz' : ((n : Int) == 0) = false := by simp; omega
  unfold fontV at C1 C2 ⊢
  go_enter Try.func11, Try.ntmps11
  go_wp2_with fail
  refine C1.out.mono ?_; rintro e w1 ⟨rfl, x1⟩
  have kF := kF.ext x1
  have q0 : w1.cell? ⟨w.heap.size, 0, none⟩ = some (.int .i64 D.sum) := kF.cell 0
  have q1 : w1.cell? ⟨w.heap.size, 1, none⟩ = some (.int .i64 D.design) := kF.cell 1
  have q2 : w1.cell? ⟨w.heap.size, 2, none⟩ = some (.int .i64 D.first) := kF.cell 2
  have q3 : w1.cell? ⟨w.heap.size, 3, none⟩ = some (.slice P.xc D.nc P.zc) := kF.cell 3
  have q4 : w1.cell? ⟨w.heap.size, 4, none⟩ = some (.slice P.xw D.nw P.zw) := kF.cell 4
  have q5 : w1.cell? ⟨w.heap.size, 5, none⟩ = some (.slice P.xh D.nh P.zh) := kF.cell 5
  have q6 : w1.cell? ⟨w.heap.size, 6, none⟩ = some (.slice P.xd D.nd P.zd) := kF.cell 6
  have q7 : w1.cell? ⟨w.heap.size, 7, none⟩ = some (.slice P.xi D.ni P.zi) := kF.cell 7
  have q8 : w1.cell? ⟨w.heap.size, 8, none⟩ = some (.slice P.xs D.ns P.zs) := kF.cell 8
  have q9 : w1.cell? ⟨w.heap.size, 9, none⟩ = some (.slice P.xk D.nk P.zk) := kF.cell 9
  have q10 : w1.cell? ⟨w.heap.size, 10, none⟩ = some (.slice P.xp D.np P.zp) := kF.cell 10
  go_wp2_with fail
  refine (C2.out _ (W0.trans x1)).mono ?_; rintro e V ⟨rfl, x2⟩
  have kF := kF.ext x2
  have XV := (W0.trans x1).trans x2
  have hV := hl.ext XV
  obtain ⟨ad', e', hc⟩ := hV.get (show 0 < n by omega)
  cases e'
  rw [← hc0] at hc
  have hc : V.cell? ad = some (.int .i64 c0) := by simpa [Addr.add] using hc
  clear q0 q1 q2 q3 q4 q5 q6 q7 q8 q9 q10 x1 x2 C1 C2 W0 hc0
  have h1n : (1 : Int) ≤ (n : Int) := by omega
  have END := Lib.hid (fun (w2 : World) (v : Value) (out : List (Int × Int)) (so : Int) (ho : w2.ownsRow V.heap.size 56 2 v out.length (flatG out)) (x : Ext V w2) (hk : out.length ≤ 1000) (hg : glyD D l = out ++ [(so, 0)]) =>
    (show ∃ v' w', (Builtin.append_ #[35, 35] 35 #[v, .slice (some ⟨w2.heap.size, 0, none⟩) 1 1]).run Try.prog (w2.alloc (.cells #[.int .i64 so, .int .i64 0] 56)) = .ok v' w' ∧ GlyQ w (setR D l) (.returned (.tuple #[v', .int .i64 0])) w' from by
      obtain ⟨v', w', hr, ho', hx⟩ := run_putG (ho.alloc (.cells #[.int .i64 so, .int .i64 0] 56)) (x.alloc _) w2.heap.size so 0 (by simp) (by simp) (by omega) 35
      refine ⟨v', w', hr, ?_⟩
      have e : flatG out ++ [.int .i64 so, .int .i64 0] = flatG (glyD D l) := by rw [hg, flatG_snoc]
      have e2 : out.length + 1 = (glyD D l).length := by rw [hg]; simp
      rw [e, e2] at ho'
      obtain ⟨A', c', rfl, h1, h2, h3⟩ := own_slice ho'
      rw [HR.out]
      exact ⟨XV.trans hx, A', c', rfl, h1, h2, seenG_of h3⟩))
  by_cases hcp1 : cp = 1
  · obtain rfl : n = 1 := by omega
    subst hcp1
    have hdl : l.drop 1 = [] := List.drop_eq_nil_of_le (by rw [← HN.out]; omega)
    obtain ⟨v', w', hr, hq⟩ := END.out V (.slice none 0 0) [] c0 (World.ownsRow_nil _ _ _ _) (Ext.refl _) (by simp) (by rw [HG.out, hdl]; rfl)
    have HQ := Lib.hid hq
    clear hq hdl kF hV XV
    go_wp2_with fail
    refine wp_loop_rounds 1 ?_
    rw [rounds_succ]
    go_wp2_with (at_builtin; refine wpList_ran rfl _ _ rfl hr ?_)
    go_ret2
    exact HQ.out
  · have hcp1' : ¬ (1 = cp) := fun e => hcp1 e.symm
    obtain ⟨nn, hnn⟩ : ∃ nn, nn = n - 1 := ⟨_, rfl⟩
    have CE := Lib.hid (fun (w2 : World) (x : Ext V w2) (k : Nat) (hk : k < nn) => show w2.cell? ((⟨ad.block, ad.off + 1, none⟩ : Addr).add k) = some (.int .i64 (l.getD (k + 1) 0)) by
      obtain ⟨ad2, e2, hc2⟩ := (hV.ext x).get (show k + 1 < n by omega)
      cases e2
      have e3 : (⟨ad.block, ad.off + 1, none⟩ : Addr) = ad.add 1 := by unfold Addr.add; simp
      rw [e3, addr_add, Nat.add_comm 1 k]
      exact hc2)
    have HV := Lib.hid hV
    have HXV := Lib.hid XV
    clear hV XV h1n
    have h1n : (1 : Int) ≤ (n : Int) := by omega
    obtain ⟨_, _, hs0⟩ := hg0
    go_wp2_with fail
    rw [← hnn]
    have hnn1 : nn + 1 ≤ n := by omega
    have hnn2 : n ≤ nn + 1 := by omega
    clear hnn
    have hnn64 : (nn : Int) ≤ 1000 := by omega
    generalize (⟨ad.block, ad.off + 1, none⟩ : Addr) = be at *
    generalize hb0 : w.heap.size = b0 at *
    go_loopw [6, 7, 29] (fun v so i wr => ∃ (vv : Value) (s : Int) (out : List (Int × Int)) (k : Nat), vv = v ∧ so = .int .i64 s ∧ k ≤ nn ∧ i = .int .i64 k ∧ Hid (glyD D l = out ++ glyL D s (l.drop (k + 1))) ∧ Hid (hasB D s = true) ∧ wr.ownsRow V.heap.size 56 2 vv out.length (flatG out) ∧ Ext V wr ∧ out.length ≤ k) (fun _ _ i _ => nn - (intOf i).toNat)
    case atStart => exact ⟨_, c0, [], 0, rfl, rfl, by omega, rfl, Lib.hid HG.out, Lib.hid hs0, World.ownsRow_nil _ _ _ _, Ext.refl _, by simp⟩
    case round =>
      obtain ⟨vv, s, out, k, hvv, rfl, hk, rfl, hgl, hs, ho, X, hle⟩ := hrel
      subst hvv
      by_cases hlt : k < nn
      · have hkl : k + 1 < l.length := by rw [← HN.out]; omega
        have hce := CE.out wr X k hlt
        obtain ⟨n1, n2, n3⟩ := setB_get HS.out hkl
        have HD := Lib.hid (drop_get hkl)
        generalize hnx : l.getD (k + 1) 0 = nx at *
        have kF := kF.ext X
        have hbr := kF.lt
        have q0 : wr.cell? ⟨b0, 0, none⟩ = some (.int .i64 D.sum) := kF.cell 0
        have q1 : wr.cell? ⟨b0, 1, none⟩ = some (.int .i64 D.design) := kF.cell 1
        have q2 : wr.cell? ⟨b0, 2, none⟩ = some (.int .i64 D.first) := kF.cell 2
        have q3 : wr.cell? ⟨b0, 3, none⟩ = some (.slice P.xc D.nc P.zc) := kF.cell 3
        have q4 : wr.cell? ⟨b0, 4, none⟩ = some (.slice P.xw D.nw P.zw) := kF.cell 4
        have q5 : wr.cell? ⟨b0, 5, none⟩ = some (.slice P.xh D.nh P.zh) := kF.cell 5
        have q6 : wr.cell? ⟨b0, 6, none⟩ = some (.slice P.xd D.nd P.zd) := kF.cell 6
        have q7 : wr.cell? ⟨b0, 7, none⟩ = some (.slice P.xi D.ni P.zi) := kF.cell 7
        have q8 : wr.cell? ⟨b0, 8, none⟩ = some (.slice P.xs D.ns P.zs) := kF.cell 8
        have q9 : wr.cell? ⟨b0, 9, none⟩ = some (.slice P.xk D.nk P.zk) := kF.cell 9
        have q10 : wr.cell? ⟨b0, 10, none⟩ = some (.slice P.xp D.np P.zp) := kF.cell 10
        have RU := Lib.hid (show Calls Try.prog 29 #[.agg #[.int .i64 D.sum, .int .i64 D.design, .int .i64 D.first, .slice P.xc D.nc P.zc, .slice P.xw D.nw P.zw, .slice P.xh D.nh P.zh, .slice P.xd D.nd P.zd, .slice P.xi D.ni P.zi, .slice P.xs D.ns P.zs, .slice P.xk D.nk P.zk, .slice P.xp D.np P.zp], .int .i64 s, .int .i64 nx] wr (Ret wr (ruleV D s nx)) from rule_any D P s nx wr OK.out (SN.out.ext (HXV.out.trans X)) hs.out (by omega))
        have hk64 : (k : Int) < (nn : Int) := by omega
        have HO := Lib.hid ho
        have HX := Lib.hid X
        have HN3 := Lib.hid n3
        clear ho X n3 hnx
        cases hr : ruleD D s nx with
        | none =>
          rw [show ruleV D s nx = .tuple #[.agg #[.int .i64 0, .int .i64 0, .int .i64 0, .int .i64 0], .bool false] by rw [ruleV, hr]] at RU
          have HGL := Lib.hid (show glyD D l = (out ++ [(s, 0)]) ++ glyL D nx (l.drop (k + 1 + 1)) by rw [hgl.out, HD.out]; simp only [glyL, hr]; simp)
          clear hr q0 q1 q2 q3 q4 q5 q6 q7 q8 q9 q10
          have q0 : wr.cell? ⟨b0, 0, none⟩ = some (.int .i64 D.sum) := kF.cell 0
          have q1 : wr.cell? ⟨b0, 1, none⟩ = some (.int .i64 D.design) := kF.cell 1
          have q2 : wr.cell? ⟨b0, 2, none⟩ = some (.int .i64 D.first) := kF.cell 2
          have q3 : wr.cell? ⟨b0, 3, none⟩ = some (.slice P.xc D.nc P.zc) := kF.cell 3
          have q4 : wr.cell? ⟨b0, 4, none⟩ = some (.slice P.xw D.nw P.zw) := kF.cell 4
          have q5 : wr.cell? ⟨b0, 5, none⟩ = some (.slice P.xh D.nh P.zh) := kF.cell 5
          have q6 : wr.cell? ⟨b0, 6, none⟩ = some (.slice P.xd D.nd P.zd) := kF.cell 6
          have q7 : wr.cell? ⟨b0, 7, none⟩ = some (.slice P.xi D.ni P.zi) := kF.cell 7
          have q8 : wr.cell? ⟨b0, 8, none⟩ = some (.slice P.xs D.ns P.zs) := kF.cell 8
          have q9 : wr.cell? ⟨b0, 9, none⟩ = some (.slice P.xk D.nk P.zk) := kF.cell 9
          have q10 : wr.cell? ⟨b0, 10, none⟩ = some (.slice P.xp D.np P.zp) := kF.cell 10
          go_wp2_with fail
          refine RU.out.mono ?_; rintro e w1 ⟨rfl, y1⟩
          have hoS := (((ownsRow_ext HO.out y1).alloc (.cells #[.int .i64 0, .int .i64 0, .int .i64 0, .int .i64 0] 53)).alloc (.cells #[.int .i64 s, .int .i64 0] 56)).alloc (.cells #[.int .i64 s, .int .i64 0] 56)
          have xS := (((HX.out.trans y1).alloc (.cells #[.int .i64 0, .int .i64 0, .int .i64 0, .int .i64 0] 53)).alloc (.cells #[.int .i64 s, .int .i64 0] 56)).alloc (.cells #[.int .i64 s, .int .i64 0] 56)
          have kN : Blk (((w1.alloc (.cells #[.int .i64 0, .int .i64 0, .int .i64 0, .int .i64 0] 53)).alloc (.cells #[.int .i64 s, .int .i64 0] 56)).alloc (.cells #[.int .i64 s, .int .i64 0] 56)) (w1.heap.size + 1 + 1) 56 [.int .i64 s, .int .i64 0] := Blk.lit _ _ _ _ (by simp)
          obtain ⟨v', w', hrun, ho', hx'⟩ := run_putG hoS xS (w1.heap.size + 1 + 1) s 0 (kN.cell 0) (kN.cell 1) (by omega) 35
          have HO' := Lib.hid ho'
          clear hoS xS ho' kN q0 q1 q2 q3 q4 q5 q6 q7 q8 q9 q10 RU y1
          go_wp2_with (at_builtin; refine wpList_ran rfl _ _ rfl hrun ?_)
          go_roundw
          case rel => exact ⟨_, nx, out ++ [(s, 0)], k + 1, rfl, rfl, by omega, by go_num, HGL, HN3, by rw [flatG_snoc, List.length_append]; exact HO'.out, hx', by simp; omega⟩
          case measure => simp [intOf]; omega
        | some q =>
          obtain ⟨hq1, hq2, hq3, hq4, hq5⟩ := G.out.step hs.out hr
          obtain ⟨_, _, ⟨t20, t21⟩, ⟨t30, t31⟩⟩ := (check_in G.out.check).stp q hq1
          rw [show ruleV D s nx = .tuple #[.agg #[.int .i64 (D.stp q 0), .int .i64 (D.stp q 1), .int .i64 (D.stp q 2), .int .i64 (D.stp q 3)], .bool true] by rw [ruleV, hr]] at RU
          by_cases h2 : D.stp q 2 = 0
          · have h20 : (D.stp q 2 == 0) = true := by simpa using h2
            have HGL := Lib.hid (show glyD D l = out ++ glyL D (D.stp q 3) (l.drop (k + 1 + 1)) by rw [hgl.out, HD.out]; simp only [glyL, hr, h2, if_true])
            have HH := Lib.hid (hq4 h2).2
            clear hr hq2 hq3 hq4 hq5 h2
            go_wp2_with fail
            refine RU.out.mono ?_; rintro e w1 ⟨rfl, y1⟩
            have HO' := Lib.hid ((ownsRow_ext HO.out y1).alloc (.cells #[.int .i64 (D.stp q 0), .int .i64 (D.stp q 1), .int .i64 (D.stp q 2), .int .i64 (D.stp q 3)] 53))
            have HX' := Lib.hid ((HX.out.trans y1).alloc (.cells #[.int .i64 (D.stp q 0), .int .i64 (D.stp q 1), .int .i64 (D.stp q 2), .int .i64 (D.stp q 3)] 53))
            clear q0 q1 q2 q3 q4 q5 q6 q7 q8 q9 q10 RU y1
            go_wp2_with fail
            go_roundw
            case rel => exact ⟨_, D.stp q 3, out, k + 1, rfl, rfl, by omega, by go_num, HGL, HH, HO'.out, HX'.out, by omega⟩
            case measure => simp [intOf]; omega
          · have h20 : (D.stp q 2 == 0) = false := by simpa using h2
            obtain ⟨p0, p1, p2⟩ := hq5 h2
            obtain ⟨pk, hpk⟩ := Int.eq_ofNat_of_zero_le p0
            rw [hpk] at p1 p2
            have HGL := Lib.hid (show glyD D l = (out ++ [(s, D.kd pk)]) ++ glyL D nx (l.drop (k + 1 + 1)) by rw [hgl.out, HD.out]; simp only [glyL, hr, h2, if_false, hpk]; simp)
            have hpk' : 256 * (D.stp q 2 - 128) + D.stp q 3 = (pk : Int) := hpk
            have KE := Lib.hid (fun w' => show Calls Try.prog 30 #[.agg #[.int .i64 (D.stp q 0), .int .i64 (D.stp q 1), .int .i64 (D.stp q 2), .int .i64 (D.stp q 3)]] w' (Ret w' (.int .i64 pk)) from hpk' ▸ kern_any (D.stp q 0) (D.stp q 1) (D.stp q 2) (D.stp q 3) w' ⟨t20, t21⟩ ⟨t30, t31⟩)
            obtain ⟨adk, hadk, hck⟩ := (SN.out.ext (HXV.out.trans HX.out)).ok.get (show pk < D.nk by omega)
            have HADK := Lib.hid hadk
            have hnk := (check_in G.out.check).nk
            clear hr hq2 hq3 hq4 hq5 h2 hpk hpk' p0 hadk
            go_wp2_with fail
            refine RU.out.mono ?_; rintro e w1 ⟨rfl, y1⟩
            go_wp2_with fail
            obtain ⟨W3, hW3⟩ : ∃ W3, W3 = (w1.alloc (.cells #[.int .i64 (D.stp q 0), .int .i64 (D.stp q 1), .int .i64 (D.stp q 2), .int .i64 (D.stp q 3)] 53)).alloc (.cells #[.int .i64 s, .int .i64 0] 56) := ⟨_, rfl⟩
            rw [← hW3]
            have y3 : Ext wr W3 := by rw [hW3]; exact (y1.alloc _).alloc _
            have ks : Blk W3 w1.heap.size 53 [.int .i64 (D.stp q 0), .int .i64 (D.stp q 1), .int .i64 (D.stp q 2), .int .i64 (D.stp q 3)] := by rw [hW3]; exact (Blk.lit _ _ _ _ rfl).ext ((Ext.refl _).alloc _)
            have kg : Blk W3 (w1.heap.size + 1) 56 [.int .i64 s, .int .i64 0] := by rw [hW3]; exact Blk.lit _ _ _ _ (by simp)
            have hz3 : W3.heap.size = w1.heap.size + 1 + 1 := by rw [hW3]; simp
            have hbw := y1.size
            clear hW3 q0 q1 q2 q3 q4 q5 q6 q7 q8 q9 q10 RU
            have hbg : b0 < w1.heap.size := by omega
            generalize hbs : w1.heap.size = bs at *
            generalize hgb : bs + 1 = bg at *
            have kF3 := kF.ext y3
            have g9 : W3.cell? ⟨b0, 9, none⟩ = some (.slice P.xk D.nk P.zk) := kF3.cell 9
            rw [HADK.out] at g9
            have s0 : W3.cell? ⟨bs, 0, none⟩ = some (.int .i64 (D.stp q 0)) := ks.cell 0
            have s1 : W3.cell? ⟨bs, 1, none⟩ = some (.int .i64 (D.stp q 1)) := ks.cell 1
            have s2 : W3.cell? ⟨bs, 2, none⟩ = some (.int .i64 (D.stp q 2)) := ks.cell 2
            have s3 : W3.cell? ⟨bs, 3, none⟩ = some (.int .i64 (D.stp q 3)) := ks.cell 3
            have ck3 := y3.at hck
            have hkb : (adk.add pk).block ≠ bg := by have := World.block_lt_of_cell? wr _ hck; omega
            generalize hKD : D.kd pk = kv at *
            generalize hAK : adk.add pk = ak at *
            have hnk64 : (pk : Int) < (D.nk : Int) := p1
            have hnkm : (D.nk : Int) ≤ 256 := by omega
            have hon := Lib.hid (ownsRow_ext HO.out y3)
            have hxn := Lib.hid (HX.out.trans y3)
            refine wp_region_noPanic ?_
            refine wp_region_held_drew (S := (fun w' => w'.cell? ⟨b0, 9, none⟩ = some (.slice (some adk) D.nk P.zk) ∧ w'.cell? ⟨bs, 0, none⟩ = some (.int .i64 (D.stp q 0)) ∧ w'.cell? ⟨bs, 1, none⟩ = some (.int .i64 (D.stp q 1)) ∧ w'.cell? ⟨bs, 2, none⟩ = some (.int .i64 (D.stp q 2)) ∧ w'.cell? ⟨bs, 3, none⟩ = some (.int .i64 (D.stp q 3)) ∧ w'.cell? ak = some (.int .i64 kv))) (by kernel_rfl) ⟨g9, s0, s1, s2, s3, ck3⟩ (fun h0 => ?_)
            refine wpAnyH_take (i := 0) (oi := ?_) (v := ?_) ?_ (by kernel_rfl) (by kernel_rfl) (by kernel_rfl) ?_ ?_ h0 ?_
            rotate_left 2
            · simp only [List.getElem?_toArray, List.getElem?_cons_zero]; rfl
            · exact fun _ _ _ h => h
            · refine Or.inl ⟨by rfl, ?_⟩
              intro w hSw
              (try dsimp only at hSw)
              go_simp
              (try with_reducible rfl)
            (try simp only [Act.put, List.setIfInBounds_toArray, List.set_cons_zero, List.set_cons_succ])
            refine wpAnyH_take (i := 1) (oi := ?_) (v := ?_) ?_ (by kernel_rfl) (by kernel_rfl) (by kernel_rfl) ?_ ?_ h0 ?_
            rotate_left 2
            · simp only [List.getElem?_toArray, List.getElem?_cons_zero, List.getElem?_cons_succ]; rfl
            · exact fun _ _ _ h => h
            · refine Or.inl ⟨by rfl, ?_⟩
              intro w hSw
              (try dsimp only at hSw)
              go_simp
              (try with_reducible rfl)
            (try simp only [Act.put, List.setIfInBounds_toArray, List.set_cons_zero, List.set_cons_succ])
            refine wpAnyH_take (i := 2) (oi := ?_) (v := ?_) ?_ (by kernel_rfl) (by kernel_rfl) (by kernel_rfl) ?_ ?_ h0 ?_
            rotate_left 2
            · simp only [List.getElem?_toArray, List.getElem?_cons_zero, List.getElem?_cons_succ]; rfl
            · exact fun _ _ _ h => h
            · refine Or.inl ⟨by rfl, ?_⟩
              intro w hSw
              (try dsimp only at hSw)
              go_simp
              (try with_reducible rfl)
            (try simp only [Act.put, List.setIfInBounds_toArray, List.set_cons_zero, List.set_cons_succ])
            refine wpAnyH_ready (rs := [3]) (by kernel_rfl) (by simp) ?_
            refine AllReadyH.cons (o := ?_) ?_ (fun K hK => ?_) AllReadyH.nil
            rotate_left
            · simp only [List.getElem?_toArray, List.getElem?_cons_zero, List.getElem?_cons_succ]; rfl
            go_simp
            refine (KE.out _).mono ?_
            rintro e w4 ⟨rfl, y4⟩
            have y4 : Ext W3 w4 := ext_drew y4
            have R4 := Lib.hid (show w4.cell? ⟨b0, 9, none⟩ = some (.slice (some adk) D.nk P.zk) ∧ w4.cell? ⟨bs, 0, none⟩ = some (.int .i64 (D.stp q 0)) ∧ w4.cell? ⟨bs, 1, none⟩ = some (.int .i64 (D.stp q 1)) ∧ w4.cell? ⟨bs, 2, none⟩ = some (.int .i64 (D.stp q 2)) ∧ w4.cell? ⟨bs, 3, none⟩ = some (.int .i64 (D.stp q 3)) ∧ w4.cell? ak = some (.int .i64 kv) from ⟨y4.at g9, y4.at s0, y4.at s1, y4.at s2, y4.at s3, y4.at ck3⟩)
            have kg4 := kg.ext y4
            have on4 := Lib.hid (ownsRow_ext hon.out y4)
            have xn4 := Lib.hid (hxn.out.trans y4)
            have z4 := Nat.le_trans (Nat.le_of_eq hz3.symm) y4.size
            refine hK.out _ _ R4.out (fun h1 => ?_)
            clear hK K
            (try simp only [Act.put, List.setIfInBounds_toArray, List.set_cons_zero, List.set_cons_succ])
            refine wpAnyH_take (i := 4) (oi := ?_) (v := ?_) ?_ (by kernel_rfl) (by kernel_rfl) (by kernel_rfl) ?_ ?_ h1 ?_
            rotate_left 2
            · simp only [List.getElem?_toArray, List.getElem?_cons_zero, List.getElem?_cons_succ]; rfl
            · exact fun _ _ _ h => h
            · refine Or.inl ⟨by rfl, ?_⟩
              intro w hSw
              (try dsimp only at hSw)
              go_simp
              (try with_reducible rfl)
            (try simp only [Act.put, List.setIfInBounds_toArray, List.set_cons_zero, List.set_cons_succ])
            refine wpAnyH_take (i := 5) (oi := ?_) (v := ?_) ?_ (by kernel_rfl) (by kernel_rfl) (by kernel_rfl) ?_ ?_ h1 ?_
            rotate_left 2
            · simp only [List.getElem?_toArray, List.getElem?_cons_zero, List.getElem?_cons_succ]; rfl
            · exact fun _ _ _ h => h
            · refine Or.inl ⟨by rfl, ?_⟩
              intro w hSw
              (try dsimp only at hSw)
              go_simp
              (try with_reducible rfl)
            (try simp only [Act.put, List.setIfInBounds_toArray, List.set_cons_zero, List.set_cons_succ])
            refine wpAnyH_take (i := 6) (oi := ?_) (v := ?_) ?_ (by kernel_rfl) (by kernel_rfl) (by kernel_rfl) ?_ ?_ h1 ?_
            rotate_left 2
            · simp only [List.getElem?_toArray, List.getElem?_cons_zero, List.getElem?_cons_succ]; rfl
            · exact fun _ _ _ h => h
            · refine Or.inl ⟨by rfl, ?_⟩
              intro w hSw
              (try dsimp only at hSw)
              go_simp
              (try with_reducible rfl)
            (try simp only [Act.put, List.setIfInBounds_toArray, List.set_cons_zero, List.set_cons_succ])
            refine wpAnyH_ready (rs := [7]) (by kernel_rfl) (by simp) ?_
            refine AllReadyH.cons (o := ?_) ?_ (fun K hK => ?_) AllReadyH.nil
            rotate_left
            · simp only [List.getElem?_toArray, List.getElem?_cons_zero, List.getElem?_cons_succ]; rfl
            have gc0 : w4.cell? ⟨bg, 0, none⟩ = some (.int .i64 s) := kg4.cell 0
            have gc1 : w4.cell? ⟨bg, 1, none⟩ = some (.int .i64 0) := kg4.cell 1
            have gf1 := kg4.free 1
            go_simp
            refine hK.out _ _ ?_ (fun h2 => ?_)
            · obtain ⟨r0, r1, r2, r3, r4, r5⟩ := R4.out
              have far : ∀ p : Addr, p.block ≠ bg → (w4.setCell ⟨bg, 1, none⟩ (.int .i64 kv)).cell? p = w4.cell? p := fun p hp => World.cell?_setCell_other _ _ _ _ (fun e => hp (by rw [← e]))
              exact ⟨(far _ (by show b0 ≠ bg; omega)).trans r0, (far _ (by show bs ≠ bg; omega)).trans r1, (far _ (by show bs ≠ bg; omega)).trans r2, (far _ (by show bs ≠ bg; omega)).trans r3, (far _ (by show bs ≠ bg; omega)).trans r4, (far _ hkb).trans r5⟩
            clear hK K
            (try simp only [Act.put, List.setIfInBounds_toArray, List.set_cons_zero, List.set_cons_succ])
            refine wpAnyH_done (by kernel_rfl) ?_ _
            refine NoPanic.normal ?_
            have kg5 : Blk (w4.setCell ⟨bg, 1, none⟩ (.int .i64 kv)) bg 56 [.int .i64 s, .int .i64 kv] := kg4.set 1 (.int .i64 kv)
            have x5 : Ext V (w4.setCell ⟨bg, 1, none⟩ (.int .i64 kv)) := xn4.out.setCell (by show _ ≤ bg; have := HX.out.size; omega) _
            have on5 : (w4.setCell ⟨bg, 1, none⟩ (.int .i64 kv)).ownsRow V.heap.size 56 2 vv out.length (flatG out) := owns_set on4.out (fun e => by have := (HO.out.lt _ e).2; have := y1.size; omega) _
            clear h0 h1 h2 gc0 gc1 gf1 g9 s0 s1 s2 s3 ck3 R4 KE
            generalize w4.setCell ⟨bg, 1, none⟩ (.int .i64 kv) = w5 at *
            have gd0 : w5.cell? ⟨bg, 0, none⟩ = some (.int .i64 s) := kg5.cell 0
            have gd1 : w5.cell? ⟨bg, 1, none⟩ = some (.int .i64 kv) := kg5.cell 1
            have kN : Blk (w5.alloc (.cells #[.int .i64 s, .int .i64 kv] 56)) w5.heap.size 56 [.int .i64 s, .int .i64 kv] := Blk.lit _ _ _ _ rfl
            obtain ⟨v', w', hrun, ho', hx'⟩ := run_putG (on5.alloc (.cells #[.int .i64 s, .int .i64 kv] 56)) (x5.alloc _) w5.heap.size s kv (kN.cell 0) (kN.cell 1) (by omega) 35
            have HO' := Lib.hid ho'
            clear kN ho' on5 x5
            go_wp2_with (at_builtin; refine wpList_ran rfl _ _ rfl hrun ?_)
            go_roundw
            case rel => exact ⟨_, nx, out ++ [(s, kv)], k + 1, rfl, rfl, by omega, by go_num, HGL, HN3, by rw [flatG_snoc, List.length_append]; exact HO'.out, hx', by simp; omega⟩
            case measure => simp [intOf]; omega
      · obtain rfl : k = nn := by omega
        have hdl : l.drop (k + 1) = [] := List.drop_eq_nil_of_le (by rw [← HN.out]; omega)
        obtain ⟨v', w', hr, hq⟩ := END.out wr vv out s ho X (by omega) (by rw [hgl.out, hdl]; rfl)
        have HQ := Lib.hid hq
        clear hq hdl kF ho X
        go_wp2_with (at_builtin; refine wpList_ran rfl _ _ rfl hr ?_)
        go_ret2
        exact HQ.out
end L08
end Go.Proofs.Ytijhabhnhglhgaa

