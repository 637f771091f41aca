/- The landed add of layer 10. -/
import Derived.Test.YtijhabhnhglhgaaDoorLandG10
import Derived.Test.YtijhabhnhglhgaaDoorPB10
import Derived.Test.YtijhabhnhglhgaaDoorChg
import Derived.RangeFuncOwn
import Derived.Laws.Strings
namespace Go.Proofs.YtijhabhnhglhgaaDoor
open Go.RowKit
namespace L10

theorem wordL_length {p : TN} (h : patB p = true) : (wordL p).length ≤ 85 := by
  have h1 := (pat_len h).2
  have h2 := wordTo_length p p.1.length
  have h3 := digit_length (p.2.getD p.1.length 0)
  rw [wordL, wordTo, List.length_append, List.length_append, if_neg (by omega)]
  simp only [List.length_nil]
  omega
theorem partM_length (a : List Int) : ∀ (s : List UInt8) (n : Nat), (partM a s n).length ≤ 2 * s.length
  | [], _ => by simp [partM]
  | b :: s, n => by
    have := partM_length a s (n + 1)
    rw [partM, List.length_append, List.length_cons, List.length_cons]
    split
    · simp only [List.length_cons, List.length_nil]; omega
    · simp only [List.length_nil]; omega
theorem partL_length {p : TN} (h : excB p = true) : (partL p).length ≤ 80 := by
  have h1 := (exc_parts h).1
  simp only [plainB, Bool.and_eq_true, decide_eq_true_eq] at h1
  have := partM_length p.2 p.1 0
  unfold partL
  omega
theorem addW_long {st : LL} {w : List UInt8} (h : 85 < w.length) : addW st w = none := by
  have h1 : asPat w = none := by
    cases hp : asPat w with
    | none => rfl
    | some p =>
      obtain ⟨e, hb⟩ := word_asPat hp
      have := wordL_length hb
      rw [e] at this; omega
  have h2 : asExc w = none := by
    cases hp : asExc w with
    | none => rfl
    | some p =>
      obtain ⟨e, hb⟩ := part_asExc hp
      have := partL_length hb
      rw [e] at this; omega
  rw [addW, h1, h2]
/-- What add may turn: the variable, and what lies behind. -/
abbrev TG (g B : Nat) : Addr → Prop := fun p => p.block = g ∨ B ≤ p.block
/-- A row's block may turn. -/
theorem Chg.row {g B N : Nat} {b c : World} {row : Option Nat} (x : b.grownBy c row) (hr : ∀ k, row = some k → B ≤ k) (hN : N ≤ B) : Chg (TG g B) N b c := by
  have e : ∀ p v, ¬ TG g B p → b.cell? p = some v → c.cell? p = b.cell? p ∧ c.frozen? p = b.frozen? p := fun p v hp hc => by
    have hlt := World.block_lt_of_cell? b _ hc
    exact cell_of_block (x.block p.block hlt fun e => hp (.inr (hr _ e.symm)))
  refine ⟨x.size, fun p v hp hc => (e p v hp hc).1.trans hc, fun p v hp hc hf => (e p v hp hc).2.trans hf, fun n cs t f hT hc => ?_, fun w0 l y => ?_⟩
  · exact (x.block n (Array.getElem?_eq_some_iff.1 hc).1 fun e => hT 0 (.inr (hr _ e.symm))).trans hc
  · exact Below.grown y x y.size fun k hk => Nat.le_trans l (Nat.le_trans hN (hr k hk))
theorem row_cells {w : World} {base : Nat} {e : TypeId} {size n : Nat} {v : Value} {xs : List Value} (h : w.ownsRow base e size v n xs) (j : Nat) (o : Obj) (hj : v.ownBlock = some j) (ho : w.heap[j]? = some o) : o.isCells = true := by
  rcases h.2 with ⟨rfl, _⟩ | ⟨g, cap, cur, rfl, _, hg, _⟩
  · cases hj
  · cases hj
    rw [hg] at ho
    cases ho
    rfl
theorem keeps_ext {w w' : World} (x : Ext w w') : KeepsOthers w w' := ⟨x.size, fun k _ hk _ => (x.block k (Array.getElem?_eq_some_iff.1 hk).1).trans hk⟩
theorem str_eq (l : List UInt8) (s : ByteArray) : ((⟨l.toArray⟩ : ByteArray) = s) ↔ l = s.data.toList := by
  constructor
  · rintro rfl; rfl
  · intro h
    obtain ⟨⟨d⟩⟩ := s
    simp at h
    rw [h]

theorem str_dec {l : List UInt8} {pw : ByteArray} (h : pw = ⟨l.toArray⟩) (s : ByteArray) : (pw.toList == s.toList) = decide (l = s.data.toList) := by
  subst h
  rw [ByteArray.toList_eq, ByteArray.toList_eq]
  show (l == s.data.toList) = _
  by_cases e : l = s.data.toList
  · rw [decide_eq_true e]; simpa using e
  · rw [decide_eq_false e]; simpa using e
/-- An append within a region that draws its order, whose run is known. -/
theorem step_app10 {P : Program} {ops : Array Oper} {o : Oper} {a : Act} {w w' : World} {K : Act → World → Prop} {Q : Exit → Act → World → Prop} {E : Prop} {t : TypeId} {v : Value} (s x : Operand)
    (ho : o.op = .call { callee := .builtin .append, args := #[s, x], argTypes := #[t, t] }) (hw : Region.wanted o (yielded ops a.tmps) = true) (hrun : (Builtin.append_ #[t, t] o.type #[a.eval s, a.eval x]).run P w = .ok v w')
    (h : K (a.put o.dst v) w') : if Region.wanted o (yielded ops a.tmps) = true then Oper.wp P o a w K Q else E := by
  rw [if_pos hw]
  unfold Oper.wp execOp
  simp only [ho, resolve, invoke, builtin, Sem.run_bind, Sem.run_pure, Result.andThen_ok, List.map_toArray, List.map_cons, List.map_nil, hrun]
  exact h
/-- What is read is small. -/
theorem readR_small : ∀ (rs : List Nat) (st : RS), (∀ v ∈ st.V, 0 ≤ v ∧ v ≤ 9) → (0 ≤ st.v ∧ st.v ≤ 9) → (∀ a ∈ st.A, 0 ≤ a ∧ a ≤ st.n) →
    (∀ v ∈ (readR rs st).V, 0 ≤ v ∧ v ≤ 9) ∧ (0 ≤ (readR rs st).v ∧ (readR rs st).v ≤ 9) ∧ (∀ a ∈ (readR rs st).A, 0 ≤ a ∧ a ≤ (readR rs st).n) ∧ (readR rs st).n ≤ st.n + rs.length ∧ (readR rs st).L.length ≤ st.L.length + rs.length
  | [], st, h1, h2, h3 => ⟨h1, h2, h3, Nat.le_refl _, Nat.le_refl _⟩
  | r :: rs, st, h1, h2, h3 => by
    have e : readR (r :: rs) st = readR rs (readStep st r) := rfl
    have key : (∀ v ∈ (readStep st r).V, 0 ≤ v ∧ v ≤ 9) ∧ (0 ≤ (readStep st r).v ∧ (readStep st r).v ≤ 9) ∧ (∀ a ∈ (readStep st r).A, 0 ≤ a ∧ a ≤ (readStep st r).n) ∧ (readStep st r).n ≤ st.n + 1 ∧ (readStep st r).L.length ≤ st.L.length + 1 := by
      unfold readStep
      split
      · rename_i h
        exact ⟨h1, by dsimp only; omega, h3, by dsimp only; omega, by dsimp only; omega⟩
      · split
        · refine ⟨h1, h2, fun a ha => ?_, by dsimp only; omega, by dsimp only; omega⟩
          rcases List.mem_append.1 ha with ha | ha
          · exact h3 a ha
          · obtain rfl : a = (st.n : Int) := by simpa using ha
            dsimp only; omega
        · split
          · refine ⟨fun v hv => ?_, by dsimp only; omega, fun a ha => ?_, by dsimp only; omega, by simp⟩
            · rcases List.mem_append.1 hv with hv | hv
              · exact h1 v hv
              · obtain rfl : v = st.v := by simpa using hv
                exact h2
            · have := h3 a ha
              dsimp only; omega
          · split
            · refine ⟨fun v hv => ?_, by dsimp only; omega, h3, by dsimp only; omega, by simp⟩
              rcases List.mem_append.1 hv with hv | hv
              · exact h1 v hv
              · obtain rfl : v = st.v := by simpa using hv
                exact h2
            · exact ⟨h1, h2, h3, by omega, by omega⟩
    obtain ⟨k1, k2, k3, k4, k5⟩ := key
    obtain ⟨g1, g2, g3, g4, g5⟩ := readR_small rs (readStep st r) k1 k2 k3
    rw [e]
    simp only [List.length_cons]
    exact ⟨g1, g2, g3, by omega, by omega⟩
theorem runesF_length (s : ByteArray) : ∀ f pos, (runesF s f pos).length ≤ f
  | 0, _ => Nat.le_refl _
  | f + 1, pos => by
    rw [runesF]
    split
    · have := runesF_length s f (pos + (Utf8.decode s pos).2)
      simp only [List.length_cons]; omega
    · simp
theorem read_small (s : ByteArray) : (∀ n ∈ (readL s).pat.2, 0 ≤ n ∧ n ≤ 9) ∧ (∀ n ∈ (readL s).exc.2, 0 ≤ n ∧ n ≤ s.size) ∧ (readL s).L.length ≤ s.size := by
  obtain ⟨g1, g2, g3, g4, g5⟩ := readR_small (runesL s) ⟨[], [], 0, [], 0⟩ (by simp) (by simp) (by simp)
  have := runesF_length s s.size 0
  have e : runesL s = runesF s s.size 0 := rfl
  rw [e] at g4 g5
  refine ⟨fun n hn => ?_, fun n hn => ?_, ?_⟩
  · rcases List.mem_append.1 (show n ∈ (readL s).V ++ [(readL s).v] from hn) with hn | hn
    · exact g1 n hn
    · obtain rfl : n = (readL s).v := by simpa using hn
      exact g2
  · have h3 := g3 n hn
    have : (readR (runesF s s.size 0) ⟨[], [], 0, [], 0⟩).n ≤ s.size := by simp at g4; omega
    rw [e] at h3
    omega
  · have : (readR (runesF s s.size 0) ⟨[], [], 0, [], 0⟩).L.length ≤ s.size := by simp at g5; omega
    exact this

/-- What add answers. -/
def AddQ (N B g : Nat) (w : World) (l m : List WP) (s : List UInt8) (e : Ending) (w' : World) : Prop :=
  KeepsOthers w w' ∧ Chg (TG g B) N w w' ∧
  ((∃ vl' vm' l' m', e = .returned (.bool true) ∧ PB B g w' vl' vm' l' m' ∧ addW (l.map tn, m.map tn) s = some (l'.map tn, m'.map tn)) ∨ (e = .returned (.bool false) ∧ addW (l.map tn, m.map tn) s = none))

set_option maxRecDepth 100000 in
set_option maxHeartbeats 8000000 in
theorem add_any (N B g : Nat) (s : ByteArray) (w : World) (vl vm : Value) (l m : List WP) (h : PB B g w vl vm l m) (hN : N ≤ g) (hl : l.length ≤ 1000) (hm : m.length ≤ 1000) :
    Calls Tryd.prog 21 #[.pointer (some ⟨g, 0, none⟩), .string s] w (AddQ N B g w l m s.data.toList) := by
  by_cases h85 : 85 < (s.size : Int)
  · have HN := Lib.hid (show addW (l.map tn, m.map tn) s.data.toList = none from addW_long (by rw [list_len]; omega))
    go_enter Tryd.func21, Tryd.ntmps21
    go_wp2_with fail
    go_ret
    exact ⟨KeepsOthers.refl _, Chg.refl _ _ _, .inr ⟨rfl, HN.out⟩⟩
  · have R := Lib.hid (read_any s (by omega) w)
    have HH := Lib.hid h
    have LP := Lib.hid (land_pat s)
    have LE := Lib.hid (land_exc s)
    go_enter Tryd.func21, Tryd.ntmps21
    go_wp2_with fail
    refine R.out.mono ?_
    rintro e w1 ⟨x1, x, y, rfl, ex, ey, sx, sy, x2, x3, y2, y3, xn, yn⟩
    clear R
    obtain ⟨sX, nX, AX, cX⟩ := x
    obtain ⟨sY, nY, AY, cY⟩ := y
    dsimp only [wpV] at sx sy x2 x3 y2 y3 xn yn ⊢
    obtain ⟨W, hW⟩ : ∃ W, W = (w1.alloc (.cells #[.string sX, .slice AX nX.length cX] 42)).alloc (.cells #[.string sY, .slice AY nY.length cY] 45) := ⟨_, rfl⟩
    have x4 : Ext w1 W := by rw [hW]; exact ((Ext.refl _).alloc _).alloc _
    have kX : Blk W w1.heap.size 42 [.string sX, .slice AX nX.length cX] := by rw [hW]; exact (Blk.lit _ _ _ _ rfl).ext ((Ext.refl _).alloc _)
    have kY : Blk W (w1.heap.size + 1) 45 [.string sY, .slice AY nY.length cY] := by rw [hW]; exact Blk.lit _ _ _ _ (by simp)
    go_upto_region 5 with (fail)
    rw [← hW]
    clear hW
    have hP : w.heap.size ≤ w1.heap.size := x1.size
    have hPW : w1.heap.size ≤ W.heap.size := x4.size
    generalize w1.heap.size = Pb at *
    have X := Lib.hid ((x1.trans x4 : Ext w W))
    obtain ⟨sm1, sm2, sm3⟩ := read_small s
    have okX : (⟨sX, nX, AX, cX⟩ : WP).Ok := ⟨x2, x3, by
      have : sX.data.toList = (readL s).L := congrArg Prod.fst ex
      have h2 := list_len sX
      rw [this] at h2
      unfold maxLen
      show sX.size ≤ _
      omega, fun n hn => by
      have : nX = (readL s).pat.2 := congrArg Prod.snd ex
      have := sm1 n (this ▸ hn)
      omega⟩
    have okY : (⟨sY, nY, AY, cY⟩ : WP).Ok := ⟨y2, y3, by
      have : sY.data.toList = (readL s).L := congrArg Prod.fst ey
      have h2 := list_len sY
      rw [this] at h2
      unfold maxLen
      show sY.size ≤ _
      omega, fun n hn => by
      have : nY = (readL s).exc.2 := congrArg Prod.snd ey
      have := sm2 n (this ▸ hn)
      omega⟩
    rw [← ex] at LP
    rw [← ey] at LE
    have EX := Lib.hid ex
    clear sm1 sm2 sm3 ex ey
    have SX := Lib.hid (fun w' (z : Ext W w') => (sx.ext x4).ext z)
    have SY := Lib.hid (fun w' (z : Ext W w') => (sy.ext x4).ext z)
    have q0 : W.cell? ⟨Pb, 0, none⟩ = some (.string sX) := kX.cell 0
    have q1 : W.cell? ⟨Pb, 1, none⟩ = some (.slice AX nX.length cX) := kX.cell 1
    have C1 := Lib.hid (pat_any ⟨sX, nX, AX, cX⟩ okX W (SX.out W (Ext.refl _)))
    have C2 := Lib.hid (fun (h : patB (tn ⟨sX, nX, AX, cX⟩) = true) w' (z : Ext W w') => pword_any ⟨sX, nX, AX, cX⟩ h w' (SX.out w' z))
    have C3 := Lib.hid (fun w' (z : Ext W w') => exc_any ⟨sY, nY, AY, cY⟩ okY w' (SY.out w' z))
    have C4 := Lib.hid (fun (h : excB (tn ⟨sY, nY, AY, cY⟩) = true) w' (z : Ext W w') => eword_any ⟨sY, nY, AY, cY⟩ h w' (SY.out w' z))
    unfold wpV at C1 C2 C3 C4
    dsimp only at C1 C2 C3 C4
    go_wp2_with fail
    refine C1.out.mono ?_; rintro e w2 ⟨rfl, z2⟩
    clear C1
    cases hb : patB (tn ⟨sX, nX, AX, cX⟩) with
    | true =>
      have q0 := z2.at q0
      have q1 := z2.at q1
      go_wp2_with fail
      refine (C2.out hb w2 z2).mono ?_; rintro e w3 ⟨rfl, z3⟩
      obtain ⟨pw, hpw⟩ : ∃ pw : ByteArray, pw = ⟨(wordL (tn ⟨sX, nX, AX, cX⟩)).toArray⟩ := ⟨_, rfl⟩
      rw [← hpw]
      have HPW := str_dec hpw s
      have q0 := z3.at q0
      have q1 := z3.at q1
      have Z3 := Lib.hid (z2.trans z3)
      by_cases heq : wordL (tn ⟨sX, nX, AX, cX⟩) = s.data.toList
      · have HAS := Lib.hid (show asPat s.data.toList = some (tn ⟨sX, nX, AX, cX⟩) by rw [LP.out, if_pos ⟨hb, heq⟩])
        rw [decide_eq_true heq] at HPW
        clear hb heq hpw z2 z3 C2
        go_wp2_with fail
        obtain ⟨WD, hWD⟩ : ∃ WD, WD = w3.drew := ⟨_, rfl⟩
        have XD : Ext W WD := by rw [hWD]; exact Z3.out.drew
        have XA : Ext W (WD.alloc (.cells #[.string sX, .slice AX nX.length cX] 42)) := XD.alloc _
        have HPB := HH.out.ext (X.out.trans XA)
        have PW := X.out.size
        have hB := HH.out.bw
        have gB := HH.out.gB
        have kN : Blk (WD.alloc (.cells #[.string sX, .slice AX nX.length cX] 42)) WD.heap.size 42 [.string sX, .slice AX nX.length cX] := Blk.lit _ _ _ _ rfl
        have hInn : Inn B (WD.alloc (.cells #[.string sX, .slice AX nX.length cX] 42)) vl vm ⟨sX, nX, AX, cX⟩ := ⟨x2, x3, SX.out _ XA, fun ad e => by
          obtain ⟨n1, n2⟩ := xn ad e
          exact ⟨by omega, Nat.lt_of_lt_of_le n2 (Nat.le_trans hPW XA.size), fun e2 => by have := (HH.out.rl.lt _ e2).2; omega, fun e2 => by have := (HH.out.rm.lt _ e2).2; omega⟩⟩
        obtain ⟨v', w', hr, hg, hat, hPB⟩ := HPB.putL ⟨sX, nX, AX, cX⟩ ⟨WD.heap.size, 0, none⟩ (kN.cell 0) (kN.cell 1) hInn (by omega) 24
        obtain ⟨Av, cv, ev, _, _, _⟩ := row_slice hPB.rl
        obtain ⟨nv, hnv⟩ : ∃ nv, nv = (l ++ [(⟨sX, nX, AX, cX⟩ : WP)]).length := ⟨_, rfl⟩
        rw [← hnv] at ev
        subst ev
        have own_ne : ∀ n, vl.ownBlock = some n → n < w.heap.size := fun n e => (HH.out.rl.lt n e).2
        have KK := Kp.of_grown hg
        have S0 : ∀ w', Ext W w' → w'.cell? ⟨Pb, 0, none⟩ = some (.string sX) ∧ w'.cell? ⟨Pb, 1, none⟩ = some (.slice AX nX.length cX) := fun w' z => ⟨z.at (kX.cell 0), z.at (kX.cell 1)⟩
        have kp : Blk w' Pb 42 [.string sX, .slice AX nX.length cX] := KK.blk (kX.ext XA) (fun e => by have := own_ne _ e.symm; omega)
        have S1 : w'.cell? ⟨Pb, 0, none⟩ = some (.string sX) ∧ w'.cell? ⟨Pb, 1, none⟩ = some (.slice AX nX.length cX) := ⟨kp.cell 0, kp.cell 1⟩
        have kp2 := kp.far (p := ⟨g, 0, none⟩) (by show g ≠ _; omega) (.slice Av nv cv)
        have S2 : (w'.setCell ⟨g, 0, none⟩ (.slice Av nv cv)).cell? ⟨Pb, 0, none⟩ = some (.string sX) ∧ (w'.setCell ⟨g, 0, none⟩ (.slice Av nv cv)).cell? ⟨Pb, 1, none⟩ = some (.slice AX nX.length cX) := ⟨kp2.cell 0, kp2.cell 1⟩
        have g0 : WD.cell? ⟨g, 0, none⟩ = some vl := ((HH.out.ext (X.out.trans XD)).box.cell 0)
        have g0' : (WD.alloc (.cells #[.string sX, .slice AX nX.length cX] 42)).cell? ⟨g, 0, none⟩ = some vl := HPB.box.cell 0
        have gw : w'.cell? ⟨g, 0, none⟩ = some vl := (KK.blk HPB.box (fun e => by have := (HH.out.rl.lt _ e.symm).1; omega)).cell 0
        have gf : w'.frozen? ⟨g, 0, none⟩ = false := (KK.blk HPB.box (fun e => by have := (HH.out.rl.lt _ e.symm).1; omega)).free 0
        have FIN := Lib.hid (show AddQ N B g w l m s.data.toList (.returned (.bool true)) (w'.setCell ⟨g, 0, none⟩ (.slice Av nv cv)) from
          ⟨((keeps_ext (X.out.trans XA)).trans (KeepsOthers.of_grownBy hg (fun j o => row_cells HPB.rl j o))).trans (KeepsOthers.setCell _ _ _),
            ((Chg.of_ext (X.out.trans XA)).trans (Chg.row hg (fun k e => (HPB.rl.lt k e).1) (by omega))).trans (Chg.set w' g 0 (.slice Av nv cv) (.inl rfl) hN),
            .inl ⟨(.slice Av nv cv), vm, l ++ [⟨sX, nX, AX, cX⟩], m, rfl, hPB, by
              rw [addW, HAS.out]
              simp⟩⟩)
        clear HPB hPB hat hg own_ne KK kp kp2 hInn kN hnv
        refine wp_region_noPanic ?_
        refine wp_region_held_drew (S := (fun w' => w'.cell? ⟨Pb, 0, none⟩ = some (.string sX) ∧ w'.cell? ⟨Pb, 1, none⟩ = some (.slice AX nX.length cX))) (by kernel_rfl) (S0 _ Z3.out.drew) (fun h0 => ?_)
        rw [← hWD] at h0 ⊢
        clear hWD
        refine wpAnyH_take (i := 0) (oi := ?_) (v := ?_) ?_ (by kernel_rfl) (by kernel_rfl) (by kernel_rfl) ?_ ?_ h0 ?_
        rotate_left 2
        · simp only [List.getElem?_toArray, List.getElem?_cons_zero]; rfl
        · exact fun _ _ _ h => h
        · refine Or.inl ⟨by rfl, ?_⟩
          intro w hSw
          (try dsimp only at hSw)
          go_simp
          (try with_reducible rfl)
        (try simp only [Act.put, List.setIfInBounds_toArray, List.set_cons_zero, List.set_cons_succ])
        refine wpAnyH_take (i := 1) (oi := ?_) (v := ?_) ?_ (by kernel_rfl) (by kernel_rfl) (by kernel_rfl) ?_ ?_ h0 ?_
        rotate_left 2
        · simp only [List.getElem?_toArray, List.getElem?_cons_zero, List.getElem?_cons_succ]; rfl
        · exact fun _ _ _ h => h
        · refine Or.inl ⟨by rfl, ?_⟩
          intro w hSw
          (try dsimp only at hSw)
          go_simp
          (try with_reducible rfl)
        (try simp only [Act.put, List.setIfInBounds_toArray, List.set_cons_zero, List.set_cons_succ])
        refine wpAnyH_take (i := 2) (oi := ?_) (v := ?_) ?_ (by kernel_rfl) (by kernel_rfl) (by kernel_rfl) ?_ ?_ h0 ?_
        rotate_left 2
        · simp only [List.getElem?_toArray, List.getElem?_cons_zero, List.getElem?_cons_succ]; rfl
        · exact fun _ _ _ h => h
        · refine Or.inl ⟨by rfl, ?_⟩
          intro w hSw
          (try dsimp only at hSw)
          go_simp
          (try with_reducible rfl)
        (try simp only [Act.put, List.setIfInBounds_toArray, List.set_cons_zero, List.set_cons_succ])
        refine wpAnyH_take (i := 3) (oi := ?_) (v := ?_) ?_ (by kernel_rfl) (by kernel_rfl) (by kernel_rfl) ?_ ?_ h0 ?_
        rotate_left 2
        · simp only [List.getElem?_toArray, List.getElem?_cons_zero, List.getElem?_cons_succ]; rfl
        · exact fun _ _ _ h => h
        · refine Or.inl ⟨by rfl, ?_⟩
          intro w hSw
          (try dsimp only at hSw)
          go_simp
          (try with_reducible rfl)
        (try simp only [Act.put, List.setIfInBounds_toArray, List.set_cons_zero, List.set_cons_succ])
        refine wpAnyH_take (i := 5) (oi := ?_) (v := ?_) ?_ (by kernel_rfl) (by kernel_rfl) (by kernel_rfl) ?_ ?_ h0 ?_
        rotate_left 2
        · simp only [List.getElem?_toArray, List.getElem?_cons_zero, List.getElem?_cons_succ]; rfl
        · exact fun _ _ _ h => h
        · refine Or.inl ⟨by rfl, ?_⟩
          intro w hSw
          (try dsimp only at hSw)
          go_simp
          (try with_reducible rfl)
        (try simp only [Act.put, List.setIfInBounds_toArray, List.set_cons_zero, List.set_cons_succ])
        refine wpAnyH_ready (rs := [4, 6]) (by kernel_rfl) (by simp) ?_
        refine AllReadyH.cons (o := ?_) ?_ (fun K hK => ?_) ?_
        rotate_left
        · simp only [List.getElem?_toArray, List.getElem?_cons_zero, List.getElem?_cons_succ]; rfl
        · go_simp
          refine hK.out _ _ (S0 _ XD) (fun h1 => ?_)
          clear hK K
          (try simp only [Act.put, List.setIfInBounds_toArray, List.set_cons_zero, List.set_cons_succ])
          refine wpAnyH_ready (rs := [6]) (by kernel_rfl) (by simp) ?_
          refine AllReadyH.cons (o := ?_) ?_ (fun K hK => ?_) AllReadyH.nil
          rotate_left
          · simp only [List.getElem?_toArray, List.getElem?_cons_zero, List.getElem?_cons_succ]; rfl
          go_simp
          refine hK.out _ _ (S0 _ XA) (fun h2 => ?_)
          clear hK K
          (try simp only [Act.put, List.setIfInBounds_toArray, List.set_cons_zero, List.set_cons_succ])
          refine wpAnyH_ready (rs := [7]) (by kernel_rfl) (by simp) ?_
          refine AllReadyH.cons (o := ?_) ?_ (fun K hK => ?_) AllReadyH.nil
          rotate_left
          · simp only [List.getElem?_toArray, List.getElem?_cons_zero, List.getElem?_cons_succ]; rfl
          refine step_app10 (.tmp 28) (.tmp 30) rfl (by kernel_rfl) hr ?_
          refine hK.out _ _ S1 (fun h3 => ?_)
          clear hK K
          (try simp only [Act.put, List.setIfInBounds_toArray, List.set_cons_zero, List.set_cons_succ])
          refine wpAnyH_take (i := 8) (oi := ?_) (v := ?_) ?_ (by kernel_rfl) (by kernel_rfl) (by kernel_rfl) ?_ ?_ h3 ?_
          rotate_left 2
          · simp only [List.getElem?_toArray, List.getElem?_cons_zero, List.getElem?_cons_succ]; rfl
          · exact fun _ _ _ h => h
          · refine Or.inl ⟨by rfl, ?_⟩
            intro w hSw
            (try dsimp only at hSw)
            go_simp
            (try with_reducible rfl)
          (try simp only [Act.put, List.setIfInBounds_toArray, List.set_cons_zero, List.set_cons_succ])
          refine wpAnyH_take (i := 9) (oi := ?_) (v := ?_) ?_ (by kernel_rfl) (by kernel_rfl) (by kernel_rfl) ?_ ?_ h3 ?_
          rotate_left 2
          · simp only [List.getElem?_toArray, List.getElem?_cons_zero, List.getElem?_cons_succ]; rfl
          · exact fun _ _ _ h => h
          · refine Or.inl ⟨by rfl, ?_⟩
            intro w hSw
            (try dsimp only at hSw)
            go_simp
            (try with_reducible rfl)
          (try simp only [Act.put, List.setIfInBounds_toArray, List.set_cons_zero, List.set_cons_succ])
          refine wpAnyH_ready (rs := [10]) (by kernel_rfl) (by simp) ?_
          refine AllReadyH.cons (o := ?_) ?_ (fun K hK => ?_) AllReadyH.nil
          rotate_left
          · simp only [List.getElem?_toArray, List.getElem?_cons_zero, List.getElem?_cons_succ]; rfl
          go_simp
          refine hK.out _ _ S2 (fun h4 => ?_)
          clear hK K
          (try simp only [Act.put, List.setIfInBounds_toArray, List.set_cons_zero, List.set_cons_succ])
          refine wpAnyH_done (by kernel_rfl) ?_ _
          refine NoPanic.normal ?_
          clear h0 h1 h2 h3 h4 hr
          go_wp2_with fail
          go_ret
          exact FIN.out
        · refine AllReadyH.cons (o := ?_) ?_ (fun K hK => ?_) AllReadyH.nil
          rotate_left
          · simp only [List.getElem?_toArray, List.getElem?_cons_zero, List.getElem?_cons_succ]; rfl
          go_simp
          refine hK.out _ _ (S0 _ XA) (fun h1 => ?_)
          clear hK K
          (try simp only [Act.put, List.setIfInBounds_toArray, List.set_cons_zero, List.set_cons_succ])
          refine wpAnyH_ready (rs := [4]) (by kernel_rfl) (by simp) ?_
          refine AllReadyH.cons (o := ?_) ?_ (fun K hK => ?_) AllReadyH.nil
          rotate_left
          · simp only [List.getElem?_toArray, List.getElem?_cons_zero, List.getElem?_cons_succ]; rfl
          go_simp
          refine hK.out _ _ (S0 _ XA) (fun h2 => ?_)
          clear hK K
          (try simp only [Act.put, List.setIfInBounds_toArray, List.set_cons_zero, List.set_cons_succ])
          refine wpAnyH_ready (rs := [7]) (by kernel_rfl) (by simp) ?_
          refine AllReadyH.cons (o := ?_) ?_ (fun K hK => ?_) AllReadyH.nil
          rotate_left
          · simp only [List.getElem?_toArray, List.getElem?_cons_zero, List.getElem?_cons_succ]; rfl
          refine step_app10 (.tmp 28) (.tmp 30) rfl (by kernel_rfl) hr ?_
          refine hK.out _ _ S1 (fun h3 => ?_)
          clear hK K
          (try simp only [Act.put, List.setIfInBounds_toArray, List.set_cons_zero, List.set_cons_succ])
          refine wpAnyH_take (i := 8) (oi := ?_) (v := ?_) ?_ (by kernel_rfl) (by kernel_rfl) (by kernel_rfl) ?_ ?_ h3 ?_
          rotate_left 2
          · simp only [List.getElem?_toArray, List.getElem?_cons_zero, List.getElem?_cons_succ]; rfl
          · exact fun _ _ _ h => h
          · refine Or.inl ⟨by rfl, ?_⟩
            intro w hSw
            (try dsimp only at hSw)
            go_simp
            (try with_reducible rfl)
          (try simp only [Act.put, List.setIfInBounds_toArray, List.set_cons_zero, List.set_cons_succ])
          refine wpAnyH_take (i := 9) (oi := ?_) (v := ?_) ?_ (by kernel_rfl) (by kernel_rfl) (by kernel_rfl) ?_ ?_ h3 ?_
          rotate_left 2
          · simp only [List.getElem?_toArray, List.getElem?_cons_zero, List.getElem?_cons_succ]; rfl
          · exact fun _ _ _ h => h
          · refine Or.inl ⟨by rfl, ?_⟩
            intro w hSw
            (try dsimp only at hSw)
            go_simp
            (try with_reducible rfl)
          (try simp only [Act.put, List.setIfInBounds_toArray, List.set_cons_zero, List.set_cons_succ])
          refine wpAnyH_ready (rs := [10]) (by kernel_rfl) (by simp) ?_
          refine AllReadyH.cons (o := ?_) ?_ (fun K hK => ?_) AllReadyH.nil
          rotate_left
          · simp only [List.getElem?_toArray, List.getElem?_cons_zero, List.getElem?_cons_succ]; rfl
          go_simp
          refine hK.out _ _ S2 (fun h4 => ?_)
          clear hK K
          (try simp only [Act.put, List.setIfInBounds_toArray, List.set_cons_zero, List.set_cons_succ])
          refine wpAnyH_done (by kernel_rfl) ?_ _
          refine NoPanic.normal ?_
          clear h0 h1 h2 h3 h4 hr
          go_wp2_with fail
          go_ret
          exact FIN.out
      · have HNO := Lib.hid (show asPat s.data.toList = none by rw [LP.out, if_neg]; exact fun hh => heq hh.2)
        rw [decide_eq_false heq] at HPW
        clear hb heq hpw z2 z3 C2
        have r0 := Z3.out.at (kY.cell 0)
        have r1 := Z3.out.at (kY.cell 1)
        have r0 : w3.cell? ⟨Pb + 1, 0, none⟩ = some (.string sY) := r0
        have r1 : w3.cell? ⟨Pb + 1, 1, none⟩ = some (.slice AY nY.length cY) := r1
        go_wp2_with fail
        refine (C3.out w3 Z3.out).mono ?_; rintro e w5 ⟨rfl, z5⟩
        have r0 := z5.at r0
        have r1 := z5.at r1
        cases hc : excB (tn ⟨sY, nY, AY, cY⟩) with
        | false =>
          have HF := Lib.hid (show AddQ N B g w l m s.data.toList (.returned (.bool false)) w5 from ⟨keeps_ext ((X.out.trans Z3.out).trans z5), Chg.of_ext ((X.out.trans Z3.out).trans z5), .inr ⟨rfl, by
            have : asExc s.data.toList = none := by rw [LE.out, if_neg]; intro hh; rw [hc] at hh; cases hh.1
            rw [addW, HNO.out, this]⟩⟩)
          clear hc
          go_wp2_with fail
          go_ret
          exact HF.out
        | true =>
          go_wp2_with fail
          refine (C4.out hc w5 (Z3.out.trans z5)).mono ?_; rintro e w6 ⟨rfl, z6⟩
          obtain ⟨ew, hew⟩ : ∃ ew : ByteArray, ew = ⟨(partL (tn ⟨sY, nY, AY, cY⟩)).toArray⟩ := ⟨_, rfl⟩
          rw [← hew]
          have HEW := str_dec hew s
          have r0 := z6.at r0
          have r1 := z6.at r1
          by_cases heq : partL (tn ⟨sY, nY, AY, cY⟩) = s.data.toList
          · have HAS := Lib.hid (show asExc s.data.toList = some (tn ⟨sY, nY, AY, cY⟩) by rw [LE.out, if_pos ⟨hc, heq⟩])
            rw [decide_eq_true heq] at HEW
            have Z6 := Lib.hid ((Z3.out.trans z5).trans z6)
            clear hc heq hew
            go_wp2_with fail
            obtain ⟨WD, hWD⟩ : ∃ WD, WD = w6.drew := ⟨_, rfl⟩
            have XD : Ext W WD := by rw [hWD]; exact Z6.out.drew
            have XA : Ext W (WD.alloc (.cells #[.string sY, .slice AY nY.length cY] 45)) := XD.alloc _
            have HPB := HH.out.ext (X.out.trans XA)
            have PW := X.out.size
            have hB := HH.out.bw
            have gB := HH.out.gB
            have kN : Blk (WD.alloc (.cells #[.string sY, .slice AY nY.length cY] 45)) WD.heap.size 45 [.string sY, .slice AY nY.length cY] := Blk.lit _ _ _ _ rfl
            have hInn : Inn B (WD.alloc (.cells #[.string sY, .slice AY nY.length cY] 45)) vl vm ⟨sY, nY, AY, cY⟩ := ⟨y2, y3, SY.out _ XA, fun ad e => by
              obtain ⟨n1, n2⟩ := yn ad e
              exact ⟨by omega, Nat.lt_of_lt_of_le n2 (Nat.le_trans hPW XA.size), fun e2 => by have := (HH.out.rl.lt _ e2).2; omega, fun e2 => by have := (HH.out.rm.lt _ e2).2; omega⟩⟩
            obtain ⟨v', w', hr, hg, hat, hPB⟩ := HPB.putM ⟨sY, nY, AY, cY⟩ ⟨WD.heap.size, 0, none⟩ (kN.cell 0) (kN.cell 1) hInn (by omega) 25
            obtain ⟨Av, cv, ev, _, _, _⟩ := row_slice hPB.rm
            obtain ⟨nv, hnv⟩ : ∃ nv, nv = (m ++ [(⟨sY, nY, AY, cY⟩ : WP)]).length := ⟨_, rfl⟩
            rw [← hnv] at ev
            subst ev
            have own_ne : ∀ n, vm.ownBlock = some n → n < w.heap.size := fun n e => (HH.out.rm.lt n e).2
            have KK := Kp.of_grown hg
            have S0 : ∀ w', Ext W w' → w'.cell? ⟨Pb + 1, 0, none⟩ = some (.string sY) ∧ w'.cell? ⟨Pb + 1, 1, none⟩ = some (.slice AY nY.length cY) := fun w' z => ⟨z.at (kY.cell 0), z.at (kY.cell 1)⟩
            have kp : Blk w' (Pb + 1) 45 [.string sY, .slice AY nY.length cY] := KK.blk (kY.ext XA) (fun e => by have := own_ne _ e.symm; omega)
            have S1 : w'.cell? ⟨Pb + 1, 0, none⟩ = some (.string sY) ∧ w'.cell? ⟨Pb + 1, 1, none⟩ = some (.slice AY nY.length cY) := ⟨kp.cell 0, kp.cell 1⟩
            have kp2 := kp.far (p := ⟨g, 1, none⟩) (by show g ≠ _; omega) (.slice Av nv cv)
            have S2 : (w'.setCell ⟨g, 1, none⟩ (.slice Av nv cv)).cell? ⟨Pb + 1, 0, none⟩ = some (.string sY) ∧ (w'.setCell ⟨g, 1, none⟩ (.slice Av nv cv)).cell? ⟨Pb + 1, 1, none⟩ = some (.slice AY nY.length cY) := ⟨kp2.cell 0, kp2.cell 1⟩
            have g0 : WD.cell? ⟨g, 1, none⟩ = some vm := ((HH.out.ext (X.out.trans XD)).box.cell 1)
            have g0' : (WD.alloc (.cells #[.string sY, .slice AY nY.length cY] 45)).cell? ⟨g, 1, none⟩ = some vm := HPB.box.cell 1
            have gw : w'.cell? ⟨g, 1, none⟩ = some vm := (KK.blk HPB.box (fun e => by have := (HH.out.rm.lt _ e.symm).1; omega)).cell 1
            have gf : w'.frozen? ⟨g, 1, none⟩ = false := (KK.blk HPB.box (fun e => by have := (HH.out.rm.lt _ e.symm).1; omega)).free 1
            have FIN := Lib.hid (show AddQ N B g w l m s.data.toList (.returned (.bool true)) (w'.setCell ⟨g, 1, none⟩ (.slice Av nv cv)) from
              ⟨((keeps_ext (X.out.trans XA)).trans (KeepsOthers.of_grownBy hg (fun j o => row_cells HPB.rm j o))).trans (KeepsOthers.setCell _ _ _),
                ((Chg.of_ext (X.out.trans XA)).trans (Chg.row hg (fun k e => (HPB.rm.lt k e).1) (by omega))).trans (Chg.set w' g 1 (.slice Av nv cv) (.inl rfl) hN),
                .inl ⟨vl, (.slice Av nv cv), l, m ++ [⟨sY, nY, AY, cY⟩], rfl, hPB, by
                  rw [addW, HNO.out, HAS.out]
                  simp⟩⟩)
            clear HPB hPB hat hg own_ne KK kp kp2 hInn kN hnv
            refine wp_region_noPanic ?_
            refine wp_region_held_drew (S := (fun w' => w'.cell? ⟨Pb + 1, 0, none⟩ = some (.string sY) ∧ w'.cell? ⟨Pb + 1, 1, none⟩ = some (.slice AY nY.length cY))) (by kernel_rfl) (S0 _ Z6.out.drew) (fun h0 => ?_)
            rw [← hWD] at h0 ⊢
            clear hWD
            refine wpAnyH_take (i := 0) (oi := ?_) (v := ?_) ?_ (by kernel_rfl) (by kernel_rfl) (by kernel_rfl) ?_ ?_ h0 ?_
            rotate_left 2
            · simp only [List.getElem?_toArray, List.getElem?_cons_zero]; rfl
            · exact fun _ _ _ h => h
            · refine Or.inl ⟨by rfl, ?_⟩
              intro w hSw
              (try dsimp only at hSw)
              go_simp
              (try with_reducible rfl)
            (try simp only [Act.put, List.setIfInBounds_toArray, List.set_cons_zero, List.set_cons_succ])
            refine wpAnyH_take (i := 1) (oi := ?_) (v := ?_) ?_ (by kernel_rfl) (by kernel_rfl) (by kernel_rfl) ?_ ?_ h0 ?_
            rotate_left 2
            · simp only [List.getElem?_toArray, List.getElem?_cons_zero, List.getElem?_cons_succ]; rfl
            · exact fun _ _ _ h => h
            · refine Or.inl ⟨by rfl, ?_⟩
              intro w hSw
              (try dsimp only at hSw)
              go_simp
              (try with_reducible rfl)
            (try simp only [Act.put, List.setIfInBounds_toArray, List.set_cons_zero, List.set_cons_succ])
            refine wpAnyH_take (i := 2) (oi := ?_) (v := ?_) ?_ (by kernel_rfl) (by kernel_rfl) (by kernel_rfl) ?_ ?_ h0 ?_
            rotate_left 2
            · simp only [List.getElem?_toArray, List.getElem?_cons_zero, List.getElem?_cons_succ]; rfl
            · exact fun _ _ _ h => h
            · refine Or.inl ⟨by rfl, ?_⟩
              intro w hSw
              (try dsimp only at hSw)
              go_simp
              (try with_reducible rfl)
            (try simp only [Act.put, List.setIfInBounds_toArray, List.set_cons_zero, List.set_cons_succ])
            refine wpAnyH_take (i := 3) (oi := ?_) (v := ?_) ?_ (by kernel_rfl) (by kernel_rfl) (by kernel_rfl) ?_ ?_ h0 ?_
            rotate_left 2
            · simp only [List.getElem?_toArray, List.getElem?_cons_zero, List.getElem?_cons_succ]; rfl
            · exact fun _ _ _ h => h
            · refine Or.inl ⟨by rfl, ?_⟩
              intro w hSw
              (try dsimp only at hSw)
              go_simp
              (try with_reducible rfl)
            (try simp only [Act.put, List.setIfInBounds_toArray, List.set_cons_zero, List.set_cons_succ])
            refine wpAnyH_take (i := 5) (oi := ?_) (v := ?_) ?_ (by kernel_rfl) (by kernel_rfl) (by kernel_rfl) ?_ ?_ h0 ?_
            rotate_left 2
            · simp only [List.getElem?_toArray, List.getElem?_cons_zero, List.getElem?_cons_succ]; rfl
            · exact fun _ _ _ h => h
            · refine Or.inl ⟨by rfl, ?_⟩
              intro w hSw
              (try dsimp only at hSw)
              go_simp
              (try with_reducible rfl)
            (try simp only [Act.put, List.setIfInBounds_toArray, List.set_cons_zero, List.set_cons_succ])
            refine wpAnyH_ready (rs := [4, 6]) (by kernel_rfl) (by simp) ?_
            refine AllReadyH.cons (o := ?_) ?_ (fun K hK => ?_) ?_
            rotate_left
            · simp only [List.getElem?_toArray, List.getElem?_cons_zero, List.getElem?_cons_succ]; rfl
            · go_simp
              refine hK.out _ _ (S0 _ XD) (fun h1 => ?_)
              clear hK K
              (try simp only [Act.put, List.setIfInBounds_toArray, List.set_cons_zero, List.set_cons_succ])
              refine wpAnyH_ready (rs := [6]) (by kernel_rfl) (by simp) ?_
              refine AllReadyH.cons (o := ?_) ?_ (fun K hK => ?_) AllReadyH.nil
              rotate_left
              · simp only [List.getElem?_toArray, List.getElem?_cons_zero, List.getElem?_cons_succ]; rfl
              go_simp
              refine hK.out _ _ (S0 _ XA) (fun h2 => ?_)
              clear hK K
              (try simp only [Act.put, List.setIfInBounds_toArray, List.set_cons_zero, List.set_cons_succ])
              refine wpAnyH_ready (rs := [7]) (by kernel_rfl) (by simp) ?_
              refine AllReadyH.cons (o := ?_) ?_ (fun K hK => ?_) AllReadyH.nil
              rotate_left
              · simp only [List.getElem?_toArray, List.getElem?_cons_zero, List.getElem?_cons_succ]; rfl
              refine step_app10 (.tmp 47) (.tmp 49) rfl (by kernel_rfl) hr ?_
              refine hK.out _ _ S1 (fun h3 => ?_)
              clear hK K
              (try simp only [Act.put, List.setIfInBounds_toArray, List.set_cons_zero, List.set_cons_succ])
              refine wpAnyH_take (i := 8) (oi := ?_) (v := ?_) ?_ (by kernel_rfl) (by kernel_rfl) (by kernel_rfl) ?_ ?_ h3 ?_
              rotate_left 2
              · simp only [List.getElem?_toArray, List.getElem?_cons_zero, List.getElem?_cons_succ]; rfl
              · exact fun _ _ _ h => h
              · refine Or.inl ⟨by rfl, ?_⟩
                intro w hSw
                (try dsimp only at hSw)
                go_simp
                (try with_reducible rfl)
              (try simp only [Act.put, List.setIfInBounds_toArray, List.set_cons_zero, List.set_cons_succ])
              refine wpAnyH_take (i := 9) (oi := ?_) (v := ?_) ?_ (by kernel_rfl) (by kernel_rfl) (by kernel_rfl) ?_ ?_ h3 ?_
              rotate_left 2
              · simp only [List.getElem?_toArray, List.getElem?_cons_zero, List.getElem?_cons_succ]; rfl
              · exact fun _ _ _ h => h
              · refine Or.inl ⟨by rfl, ?_⟩
                intro w hSw
                (try dsimp only at hSw)
                go_simp
                (try with_reducible rfl)
              (try simp only [Act.put, List.setIfInBounds_toArray, List.set_cons_zero, List.set_cons_succ])
              refine wpAnyH_ready (rs := [10]) (by kernel_rfl) (by simp) ?_
              refine AllReadyH.cons (o := ?_) ?_ (fun K hK => ?_) AllReadyH.nil
              rotate_left
              · simp only [List.getElem?_toArray, List.getElem?_cons_zero, List.getElem?_cons_succ]; rfl
              go_simp
              refine hK.out _ _ S2 (fun h4 => ?_)
              clear hK K
              (try simp only [Act.put, List.setIfInBounds_toArray, List.set_cons_zero, List.set_cons_succ])
              refine wpAnyH_done (by kernel_rfl) ?_ _
              refine NoPanic.normal ?_
              clear h0 h1 h2 h3 h4 hr
              go_wp2_with fail
              go_ret
              exact FIN.out
            · refine AllReadyH.cons (o := ?_) ?_ (fun K hK => ?_) AllReadyH.nil
              rotate_left
              · simp only [List.getElem?_toArray, List.getElem?_cons_zero, List.getElem?_cons_succ]; rfl
              go_simp
              refine hK.out _ _ (S0 _ XA) (fun h1 => ?_)
              clear hK K
              (try simp only [Act.put, List.setIfInBounds_toArray, List.set_cons_zero, List.set_cons_succ])
              refine wpAnyH_ready (rs := [4]) (by kernel_rfl) (by simp) ?_
              refine AllReadyH.cons (o := ?_) ?_ (fun K hK => ?_) AllReadyH.nil
              rotate_left
              · simp only [List.getElem?_toArray, List.getElem?_cons_zero, List.getElem?_cons_succ]; rfl
              go_simp
              refine hK.out _ _ (S0 _ XA) (fun h2 => ?_)
              clear hK K
              (try simp only [Act.put, List.setIfInBounds_toArray, List.set_cons_zero, List.set_cons_succ])
              refine wpAnyH_ready (rs := [7]) (by kernel_rfl) (by simp) ?_
              refine AllReadyH.cons (o := ?_) ?_ (fun K hK => ?_) AllReadyH.nil
              rotate_left
              · simp only [List.getElem?_toArray, List.getElem?_cons_zero, List.getElem?_cons_succ]; rfl
              refine step_app10 (.tmp 47) (.tmp 49) rfl (by kernel_rfl) hr ?_
              refine hK.out _ _ S1 (fun h3 => ?_)
              clear hK K
              (try simp only [Act.put, List.setIfInBounds_toArray, List.set_cons_zero, List.set_cons_succ])
              refine wpAnyH_take (i := 8) (oi := ?_) (v := ?_) ?_ (by kernel_rfl) (by kernel_rfl) (by kernel_rfl) ?_ ?_ h3 ?_
              rotate_left 2
              · simp only [List.getElem?_toArray, List.getElem?_cons_zero, List.getElem?_cons_succ]; rfl
              · exact fun _ _ _ h => h
              · refine Or.inl ⟨by rfl, ?_⟩
                intro w hSw
                (try dsimp only at hSw)
                go_simp
                (try with_reducible rfl)
              (try simp only [Act.put, List.setIfInBounds_toArray, List.set_cons_zero, List.set_cons_succ])
              refine wpAnyH_take (i := 9) (oi := ?_) (v := ?_) ?_ (by kernel_rfl) (by kernel_rfl) (by kernel_rfl) ?_ ?_ h3 ?_
              rotate_left 2
              · simp only [List.getElem?_toArray, List.getElem?_cons_zero, List.getElem?_cons_succ]; rfl
              · exact fun _ _ _ h => h
              · refine Or.inl ⟨by rfl, ?_⟩
                intro w hSw
                (try dsimp only at hSw)
                go_simp
                (try with_reducible rfl)
              (try simp only [Act.put, List.setIfInBounds_toArray, List.set_cons_zero, List.set_cons_succ])
              refine wpAnyH_ready (rs := [10]) (by kernel_rfl) (by simp) ?_
              refine AllReadyH.cons (o := ?_) ?_ (fun K hK => ?_) AllReadyH.nil
              rotate_left
              · simp only [List.getElem?_toArray, List.getElem?_cons_zero, List.getElem?_cons_succ]; rfl
              go_simp
              refine hK.out _ _ S2 (fun h4 => ?_)
              clear hK K
              (try simp only [Act.put, List.setIfInBounds_toArray, List.set_cons_zero, List.set_cons_succ])
              refine wpAnyH_done (by kernel_rfl) ?_ _
              refine NoPanic.normal ?_
              clear h0 h1 h2 h3 h4 hr
              go_wp2_with fail
              go_ret
              exact FIN.out
          · have HF := Lib.hid (show AddQ N B g w l m s.data.toList (.returned (.bool false)) w6 from ⟨keeps_ext (((X.out.trans Z3.out).trans z5).trans z6), Chg.of_ext (((X.out.trans Z3.out).trans z5).trans z6), .inr ⟨rfl, by
              have : asExc s.data.toList = none := by rw [LE.out, if_neg]; exact fun hh => heq hh.2
              rw [addW, HNO.out, this]⟩⟩)
            rw [decide_eq_false heq] at HEW
            clear hc heq hew
            go_wp2_with fail
            go_ret
            exact HF.out
    | false =>
      have HNO := Lib.hid (show asPat s.data.toList = none by rw [LP.out, if_neg]; intro hh; rw [hb] at hh; cases hh.1)
      have Z3 := Lib.hid z2
      clear hb z2 C2
      have r0 := Z3.out.at (kY.cell 0)
      have r1 := Z3.out.at (kY.cell 1)
      have r0 : w2.cell? ⟨Pb + 1, 0, none⟩ = some (.string sY) := r0
      have r1 : w2.cell? ⟨Pb + 1, 1, none⟩ = some (.slice AY nY.length cY) := r1
      go_wp2_with fail
      refine (C3.out w2 Z3.out).mono ?_; rintro e w5 ⟨rfl, z5⟩
      have r0 := z5.at r0
      have r1 := z5.at r1
      cases hc : excB (tn ⟨sY, nY, AY, cY⟩) with
      | false =>
        have HF := Lib.hid (show AddQ N B g w l m s.data.toList (.returned (.bool false)) w5 from ⟨keeps_ext ((X.out.trans Z3.out).trans z5), Chg.of_ext ((X.out.trans Z3.out).trans z5), .inr ⟨rfl, by
          have : asExc s.data.toList = none := by rw [LE.out, if_neg]; intro hh; rw [hc] at hh; cases hh.1
          rw [addW, HNO.out, this]⟩⟩)
        clear hc
        go_wp2_with fail
        go_ret
        exact HF.out
      | true =>
        go_wp2_with fail
        refine (C4.out hc w5 (Z3.out.trans z5)).mono ?_; rintro e w6 ⟨rfl, z6⟩
        obtain ⟨ew, hew⟩ : ∃ ew : ByteArray, ew = ⟨(partL (tn ⟨sY, nY, AY, cY⟩)).toArray⟩ := ⟨_, rfl⟩
        rw [← hew]
        have HEW := str_dec hew s
        have r0 := z6.at r0
        have r1 := z6.at r1
        by_cases heq : partL (tn ⟨sY, nY, AY, cY⟩) = s.data.toList
        · have HAS := Lib.hid (show asExc s.data.toList = some (tn ⟨sY, nY, AY, cY⟩) by rw [LE.out, if_pos ⟨hc, heq⟩])
          rw [decide_eq_true heq] at HEW
          have Z6 := Lib.hid ((Z3.out.trans z5).trans z6)
          clear hc heq hew
          go_wp2_with fail
          obtain ⟨WD, hWD⟩ : ∃ WD, WD = w6.drew := ⟨_, rfl⟩
          have XD : Ext W WD := by rw [hWD]; exact Z6.out.drew
          have XA : Ext W (WD.alloc (.cells #[.string sY, .slice AY nY.length cY] 45)) := XD.alloc _
          have HPB := HH.out.ext (X.out.trans XA)
          have PW := X.out.size
          have hB := HH.out.bw
          have gB := HH.out.gB
          have kN : Blk (WD.alloc (.cells #[.string sY, .slice AY nY.length cY] 45)) WD.heap.size 45 [.string sY, .slice AY nY.length cY] := Blk.lit _ _ _ _ rfl
          have hInn : Inn B (WD.alloc (.cells #[.string sY, .slice AY nY.length cY] 45)) vl vm ⟨sY, nY, AY, cY⟩ := ⟨y2, y3, SY.out _ XA, fun ad e => by
            obtain ⟨n1, n2⟩ := yn ad e
            exact ⟨by omega, Nat.lt_of_lt_of_le n2 (Nat.le_trans hPW XA.size), fun e2 => by have := (HH.out.rl.lt _ e2).2; omega, fun e2 => by have := (HH.out.rm.lt _ e2).2; omega⟩⟩
          obtain ⟨v', w', hr, hg, hat, hPB⟩ := HPB.putM ⟨sY, nY, AY, cY⟩ ⟨WD.heap.size, 0, none⟩ (kN.cell 0) (kN.cell 1) hInn (by omega) 25
          obtain ⟨Av, cv, ev, _, _, _⟩ := row_slice hPB.rm
          obtain ⟨nv, hnv⟩ : ∃ nv, nv = (m ++ [(⟨sY, nY, AY, cY⟩ : WP)]).length := ⟨_, rfl⟩
          rw [← hnv] at ev
          subst ev
          have own_ne : ∀ n, vm.ownBlock = some n → n < w.heap.size := fun n e => (HH.out.rm.lt n e).2
          have KK := Kp.of_grown hg
          have S0 : ∀ w', Ext W w' → w'.cell? ⟨Pb + 1, 0, none⟩ = some (.string sY) ∧ w'.cell? ⟨Pb + 1, 1, none⟩ = some (.slice AY nY.length cY) := fun w' z => ⟨z.at (kY.cell 0), z.at (kY.cell 1)⟩
          have kp : Blk w' (Pb + 1) 45 [.string sY, .slice AY nY.length cY] := KK.blk (kY.ext XA) (fun e => by have := own_ne _ e.symm; omega)
          have S1 : w'.cell? ⟨Pb + 1, 0, none⟩ = some (.string sY) ∧ w'.cell? ⟨Pb + 1, 1, none⟩ = some (.slice AY nY.length cY) := ⟨kp.cell 0, kp.cell 1⟩
          have kp2 := kp.far (p := ⟨g, 1, none⟩) (by show g ≠ _; omega) (.slice Av nv cv)
          have S2 : (w'.setCell ⟨g, 1, none⟩ (.slice Av nv cv)).cell? ⟨Pb + 1, 0, none⟩ = some (.string sY) ∧ (w'.setCell ⟨g, 1, none⟩ (.slice Av nv cv)).cell? ⟨Pb + 1, 1, none⟩ = some (.slice AY nY.length cY) := ⟨kp2.cell 0, kp2.cell 1⟩
          have g0 : WD.cell? ⟨g, 1, none⟩ = some vm := ((HH.out.ext (X.out.trans XD)).box.cell 1)
          have g0' : (WD.alloc (.cells #[.string sY, .slice AY nY.length cY] 45)).cell? ⟨g, 1, none⟩ = some vm := HPB.box.cell 1
          have gw : w'.cell? ⟨g, 1, none⟩ = some vm := (KK.blk HPB.box (fun e => by have := (HH.out.rm.lt _ e.symm).1; omega)).cell 1
          have gf : w'.frozen? ⟨g, 1, none⟩ = false := (KK.blk HPB.box (fun e => by have := (HH.out.rm.lt _ e.symm).1; omega)).free 1
          have FIN := Lib.hid (show AddQ N B g w l m s.data.toList (.returned (.bool true)) (w'.setCell ⟨g, 1, none⟩ (.slice Av nv cv)) from
            ⟨((keeps_ext (X.out.trans XA)).trans (KeepsOthers.of_grownBy hg (fun j o => row_cells HPB.rm j o))).trans (KeepsOthers.setCell _ _ _),
              ((Chg.of_ext (X.out.trans XA)).trans (Chg.row hg (fun k e => (HPB.rm.lt k e).1) (by omega))).trans (Chg.set w' g 1 (.slice Av nv cv) (.inl rfl) hN),
              .inl ⟨vl, (.slice Av nv cv), l, m ++ [⟨sY, nY, AY, cY⟩], rfl, hPB, by
                rw [addW, HNO.out, HAS.out]
                simp⟩⟩)
          clear HPB hPB hat hg own_ne KK kp kp2 hInn kN hnv
          refine wp_region_noPanic ?_
          refine wp_region_held_drew (S := (fun w' => w'.cell? ⟨Pb + 1, 0, none⟩ = some (.string sY) ∧ w'.cell? ⟨Pb + 1, 1, none⟩ = some (.slice AY nY.length cY))) (by kernel_rfl) (S0 _ Z6.out.drew) (fun h0 => ?_)
          rw [← hWD] at h0 ⊢
          clear hWD
          refine wpAnyH_take (i := 0) (oi := ?_) (v := ?_) ?_ (by kernel_rfl) (by kernel_rfl) (by kernel_rfl) ?_ ?_ h0 ?_
          rotate_left 2
          · simp only [List.getElem?_toArray, List.getElem?_cons_zero]; rfl
          · exact fun _ _ _ h => h
          · refine Or.inl ⟨by rfl, ?_⟩
            intro w hSw
            (try dsimp only at hSw)
            go_simp
            (try with_reducible rfl)
          (try simp only [Act.put, List.setIfInBounds_toArray, List.set_cons_zero, List.set_cons_succ])
          refine wpAnyH_take (i := 1) (oi := ?_) (v := ?_) ?_ (by kernel_rfl) (by kernel_rfl) (by kernel_rfl) ?_ ?_ h0 ?_
          rotate_left 2
          · simp only [List.getElem?_toArray, List.getElem?_cons_zero, List.getElem?_cons_succ]; rfl
          · exact fun _ _ _ h => h
          · refine Or.inl ⟨by rfl, ?_⟩
            intro w hSw
            (try dsimp only at hSw)
            go_simp
            (try with_reducible rfl)
          (try simp only [Act.put, List.setIfInBounds_toArray, List.set_cons_zero, List.set_cons_succ])
          refine wpAnyH_take (i := 2) (oi := ?_) (v := ?_) ?_ (by kernel_rfl) (by kernel_rfl) (by kernel_rfl) ?_ ?_ h0 ?_
          rotate_left 2
          · simp only [List.getElem?_toArray, List.getElem?_cons_zero, List.getElem?_cons_succ]; rfl
          · exact fun _ _ _ h => h
          · refine Or.inl ⟨by rfl, ?_⟩
            intro w hSw
            (try dsimp only at hSw)
            go_simp
            (try with_reducible rfl)
          (try simp only [Act.put, List.setIfInBounds_toArray, List.set_cons_zero, List.set_cons_succ])
          refine wpAnyH_take (i := 3) (oi := ?_) (v := ?_) ?_ (by kernel_rfl) (by kernel_rfl) (by kernel_rfl) ?_ ?_ h0 ?_
          rotate_left 2
          · simp only [List.getElem?_toArray, List.getElem?_cons_zero, List.getElem?_cons_succ]; rfl
          · exact fun _ _ _ h => h
          · refine Or.inl ⟨by rfl, ?_⟩
            intro w hSw
            (try dsimp only at hSw)
            go_simp
            (try with_reducible rfl)
          (try simp only [Act.put, List.setIfInBounds_toArray, List.set_cons_zero, List.set_cons_succ])
          refine wpAnyH_take (i := 5) (oi := ?_) (v := ?_) ?_ (by kernel_rfl) (by kernel_rfl) (by kernel_rfl) ?_ ?_ h0 ?_
          rotate_left 2
          · simp only [List.getElem?_toArray, List.getElem?_cons_zero, List.getElem?_cons_succ]; rfl
          · exact fun _ _ _ h => h
          · refine Or.inl ⟨by rfl, ?_⟩
            intro w hSw
            (try dsimp only at hSw)
            go_simp
            (try with_reducible rfl)
          (try simp only [Act.put, List.setIfInBounds_toArray, List.set_cons_zero, List.set_cons_succ])
          refine wpAnyH_ready (rs := [4, 6]) (by kernel_rfl) (by simp) ?_
          refine AllReadyH.cons (o := ?_) ?_ (fun K hK => ?_) ?_
          rotate_left
          · simp only [List.getElem?_toArray, List.getElem?_cons_zero, List.getElem?_cons_succ]; rfl
          · go_simp
            refine hK.out _ _ (S0 _ XD) (fun h1 => ?_)
            clear hK K
            (try simp only [Act.put, List.setIfInBounds_toArray, List.set_cons_zero, List.set_cons_succ])
            refine wpAnyH_ready (rs := [6]) (by kernel_rfl) (by simp) ?_
            refine AllReadyH.cons (o := ?_) ?_ (fun K hK => ?_) AllReadyH.nil
            rotate_left
            · simp only [List.getElem?_toArray, List.getElem?_cons_zero, List.getElem?_cons_succ]; rfl
            go_simp
            refine hK.out _ _ (S0 _ XA) (fun h2 => ?_)
            clear hK K
            (try simp only [Act.put, List.setIfInBounds_toArray, List.set_cons_zero, List.set_cons_succ])
            refine wpAnyH_ready (rs := [7]) (by kernel_rfl) (by simp) ?_
            refine AllReadyH.cons (o := ?_) ?_ (fun K hK => ?_) AllReadyH.nil
            rotate_left
            · simp only [List.getElem?_toArray, List.getElem?_cons_zero, List.getElem?_cons_succ]; rfl
            refine step_app10 (.tmp 47) (.tmp 49) rfl (by kernel_rfl) hr ?_
            refine hK.out _ _ S1 (fun h3 => ?_)
            clear hK K
            (try simp only [Act.put, List.setIfInBounds_toArray, List.set_cons_zero, List.set_cons_succ])
            refine wpAnyH_take (i := 8) (oi := ?_) (v := ?_) ?_ (by kernel_rfl) (by kernel_rfl) (by kernel_rfl) ?_ ?_ h3 ?_
            rotate_left 2
            · simp only [List.getElem?_toArray, List.getElem?_cons_zero, List.getElem?_cons_succ]; rfl
            · exact fun _ _ _ h => h
            · refine Or.inl ⟨by rfl, ?_⟩
              intro w hSw
              (try dsimp only at hSw)
              go_simp
              (try with_reducible rfl)
            (try simp only [Act.put, List.setIfInBounds_toArray, List.set_cons_zero, List.set_cons_succ])
            refine wpAnyH_take (i := 9) (oi := ?_) (v := ?_) ?_ (by kernel_rfl) (by kernel_rfl) (by kernel_rfl) ?_ ?_ h3 ?_
            rotate_left 2
            · simp only [List.getElem?_toArray, List.getElem?_cons_zero, List.getElem?_cons_succ]; rfl
            · exact fun _ _ _ h => h
            · refine Or.inl ⟨by rfl, ?_⟩
              intro w hSw
              (try dsimp only at hSw)
              go_simp
              (try with_reducible rfl)
            (try simp only [Act.put, List.setIfInBounds_toArray, List.set_cons_zero, List.set_cons_succ])
            refine wpAnyH_ready (rs := [10]) (by kernel_rfl) (by simp) ?_
            refine AllReadyH.cons (o := ?_) ?_ (fun K hK => ?_) AllReadyH.nil
            rotate_left
            · simp only [List.getElem?_toArray, List.getElem?_cons_zero, List.getElem?_cons_succ]; rfl
            go_simp
            refine hK.out _ _ S2 (fun h4 => ?_)
            clear hK K
            (try simp only [Act.put, List.setIfInBounds_toArray, List.set_cons_zero, List.set_cons_succ])
            refine wpAnyH_done (by kernel_rfl) ?_ _
            refine NoPanic.normal ?_
            clear h0 h1 h2 h3 h4 hr
            go_wp2_with fail
            go_ret
            exact FIN.out
          · refine AllReadyH.cons (o := ?_) ?_ (fun K hK => ?_) AllReadyH.nil
            rotate_left
            · simp only [List.getElem?_toArray, List.getElem?_cons_zero, List.getElem?_cons_succ]; rfl
            go_simp
            refine hK.out _ _ (S0 _ XA) (fun h1 => ?_)
            clear hK K
            (try simp only [Act.put, List.setIfInBounds_toArray, List.set_cons_zero, List.set_cons_succ])
            refine wpAnyH_ready (rs := [4]) (by kernel_rfl) (by simp) ?_
            refine AllReadyH.cons (o := ?_) ?_ (fun K hK => ?_) AllReadyH.nil
            rotate_left
            · simp only [List.getElem?_toArray, List.getElem?_cons_zero, List.getElem?_cons_succ]; rfl
            go_simp
            refine hK.out _ _ (S0 _ XA) (fun h2 => ?_)
            clear hK K
            (try simp only [Act.put, List.setIfInBounds_toArray, List.set_cons_zero, List.set_cons_succ])
            refine wpAnyH_ready (rs := [7]) (by kernel_rfl) (by simp) ?_
            refine AllReadyH.cons (o := ?_) ?_ (fun K hK => ?_) AllReadyH.nil
            rotate_left
            · simp only [List.getElem?_toArray, List.getElem?_cons_zero, List.getElem?_cons_succ]; rfl
            refine step_app10 (.tmp 47) (.tmp 49) rfl (by kernel_rfl) hr ?_
            refine hK.out _ _ S1 (fun h3 => ?_)
            clear hK K
            (try simp only [Act.put, List.setIfInBounds_toArray, List.set_cons_zero, List.set_cons_succ])
            refine wpAnyH_take (i := 8) (oi := ?_) (v := ?_) ?_ (by kernel_rfl) (by kernel_rfl) (by kernel_rfl) ?_ ?_ h3 ?_
            rotate_left 2
            · simp only [List.getElem?_toArray, List.getElem?_cons_zero, List.getElem?_cons_succ]; rfl
            · exact fun _ _ _ h => h
            · refine Or.inl ⟨by rfl, ?_⟩
              intro w hSw
              (try dsimp only at hSw)
              go_simp
              (try with_reducible rfl)
            (try simp only [Act.put, List.setIfInBounds_toArray, List.set_cons_zero, List.set_cons_succ])
            refine wpAnyH_take (i := 9) (oi := ?_) (v := ?_) ?_ (by kernel_rfl) (by kernel_rfl) (by kernel_rfl) ?_ ?_ h3 ?_
            rotate_left 2
            · simp only [List.getElem?_toArray, List.getElem?_cons_zero, List.getElem?_cons_succ]; rfl
            · exact fun _ _ _ h => h
            · refine Or.inl ⟨by rfl, ?_⟩
              intro w hSw
              (try dsimp only at hSw)
              go_simp
              (try with_reducible rfl)
            (try simp only [Act.put, List.setIfInBounds_toArray, List.set_cons_zero, List.set_cons_succ])
            refine wpAnyH_ready (rs := [10]) (by kernel_rfl) (by simp) ?_
            refine AllReadyH.cons (o := ?_) ?_ (fun K hK => ?_) AllReadyH.nil
            rotate_left
            · simp only [List.getElem?_toArray, List.getElem?_cons_zero, List.getElem?_cons_succ]; rfl
            go_simp
            refine hK.out _ _ S2 (fun h4 => ?_)
            clear hK K
            (try simp only [Act.put, List.setIfInBounds_toArray, List.set_cons_zero, List.set_cons_succ])
            refine wpAnyH_done (by kernel_rfl) ?_ _
            refine NoPanic.normal ?_
            clear h0 h1 h2 h3 h4 hr
            go_wp2_with fail
            go_ret
            exact FIN.out
        · have HF := Lib.hid (show AddQ N B g w l m s.data.toList (.returned (.bool false)) w6 from ⟨keeps_ext (((X.out.trans Z3.out).trans z5).trans z6), Chg.of_ext (((X.out.trans Z3.out).trans z5).trans z6), .inr ⟨rfl, by
            have : asExc s.data.toList = none := by rw [LE.out, if_neg]; exact fun hh => heq hh.2
            rw [addW, HNO.out, this]⟩⟩)
          rw [decide_eq_false heq] at HEW
          clear hc heq hew
          go_wp2_with fail
          go_ret
          exact HF.out
end L10
end Go.Proofs.YtijhabhnhglhgaaDoor

