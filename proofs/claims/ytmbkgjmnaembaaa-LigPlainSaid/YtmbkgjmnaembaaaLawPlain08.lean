/- LigPlain: by a font without steps glyphs are the codes, without kerns, and by any font the last glyph has none, and each other one has 0, or one of the font's (at most three hundred of each; a hundred codes): for every input. -/
import Derived.Test.YtmbkgjmnaembaaaAwake08
import Derived.Test.YtmbkgjmnaembaaaPlainMath08
namespace Go.Proofs.Ytmbkgjmnaembaaa
open Go.ChangeShapes Go.WideShapes Go.ChangeAt Go.RowKit Go.Deep
namespace LigPlain
open L07 L08

def rowP8 (D : FontD) (i : Nat) : List Value := (List.range 6).map fun j => .int .i64 ((plainD D).chr i j)
def rowsP8 (D : FontD) (n : Nat) : List Value := (List.range n).flatMap (rowP8 D)
theorem rowsP8_succ (D : FontD) (n : Nat) : rowsP8 D (n + 1) = rowsP8 D n ++ [.int .i64 (D.chr n 0), .int .i64 (D.chr n 1), .int .i64 (D.chr n 2), .int .i64 (D.chr n 3), .int .i64 0, .int .i64 0] := by
  unfold rowsP8
  rw [List.range_succ, List.flatMap_append]
  rfl
theorem rowsP8_length (D : FontD) : ∀ n, (rowsP8 D n).length = n * 6
  | 0 => rfl
  | n + 1 => by rw [rowsP8_succ, List.length_append, rowsP8_length D n]; simp; omega
theorem rowsP8_get (D : FontD) : ∀ (n i j : Nat), i < n → j < 6 → (rowsP8 D n)[i * 6 + j]? = some (.int .i64 ((plainD D).chr i j))
  | 0, _, _, h, _ => by omega
  | n + 1, i, j, h, hj => by
    rw [rowsP8_succ]
    by_cases e : i = n
    · subst e
      rw [List.getElem?_append_right (by rw [rowsP8_length]; omega), rowsP8_length, show i * 6 + j - i * 6 = j by omega]
      obtain rfl | rfl | rfl | rfl | rfl | rfl : j = 0 ∨ j = 1 ∨ j = 2 ∨ j = 3 ∨ j = 4 ∨ j = 5 := by omega
      all_goals rfl
    · rw [List.getElem?_append_left (by rw [rowsP8_length]; omega)]
      exact rowsP8_get D n i j (by omega) hj

/-- A character is put behind. -/
theorem char_put8 {D : FontD} {P : FontP} {V wr : World} {bf k c N : Nat} {A : Option Addr} (kf : Blk wr bf 26 [.int .i64 D.sum, .int .i64 D.design, .int .i64 D.first, .slice A k c, .slice P.xw D.nw P.zw, .slice P.xh D.nh P.zh, .slice P.xd D.nd P.zd, .slice P.xi D.ni P.zi, .slice none 0 0, .slice P.xk D.nk P.zk, .slice P.xp D.np P.zp]) (ho : wr.ownsRow V.heap.size 42 6 (.slice A k c) k (rowsP8 D k)) (X : Chg (fun p => p.block = bf) N V wr) (hk : k < 300) (hbf : bf < V.heap.size) (hN : N ≤ bf) :
    ∃ A' c' w', (Builtin.append_ #[22, 22] 22 #[.slice A k c, .slice (some ⟨wr.heap.size + 1, 0, none⟩) 1 1]).run Try.prog ((wr.alloc (.cells #[.int .i64 (D.chr k 0), .int .i64 (D.chr k 1), .int .i64 (D.chr k 2), .int .i64 (D.chr k 3), .int .i64 0, .int .i64 0] 42)).alloc (.cells #[.int .i64 (D.chr k 0), .int .i64 (D.chr k 1), .int .i64 (D.chr k 2), .int .i64 (D.chr k 3), .int .i64 0, .int .i64 0] 42)) = .ok (.slice A' (k + 1) c') w' ∧
      w'.cell? ⟨bf, 3, none⟩ = some (.slice A k c) ∧ w'.frozen? ⟨bf, 3, none⟩ = false ∧ Blk (w'.setCell ⟨bf, 3, none⟩ (.slice A' (k + 1) c')) bf 26 [.int .i64 D.sum, .int .i64 D.design, .int .i64 D.first, .slice A' (k + 1) c', .slice P.xw D.nw P.zw, .slice P.xh D.nh P.zh, .slice P.xd D.nd P.zd, .slice P.xi D.ni P.zi, .slice none 0 0, .slice P.xk D.nk P.zk, .slice P.xp D.np P.zp] ∧
      (w'.setCell ⟨bf, 3, none⟩ (.slice A' (k + 1) c')).ownsRow V.heap.size 42 6 (.slice A' (k + 1) c') (k + 1) (rowsP8 D (k + 1)) ∧ Chg (fun p => p.block = bf) N V (w'.setCell ⟨bf, 3, none⟩ (.slice A' (k + 1) c')) := by
  have hsucc := rowsP8_succ D k
  generalize D.chr k 0 = x0 at *
  generalize D.chr k 1 = x1 at *
  generalize D.chr k 2 = x2 at *
  generalize D.chr k 3 = x3 at *
  have kn : Blk ((wr.alloc (.cells #[.int .i64 x0, .int .i64 x1, .int .i64 x2, .int .i64 x3, .int .i64 0, .int .i64 0] 42)).alloc (.cells #[.int .i64 x0, .int .i64 x1, .int .i64 x2, .int .i64 x3, .int .i64 0, .int .i64 0] 42)) (wr.heap.size + 1) 42 [.int .i64 x0, .int .i64 x1, .int .i64 x2, .int .i64 x3, .int .i64 0, .int .i64 0] := Blk.lit _ _ _ _ (by simp)
  have y : Ext wr ((wr.alloc (.cells #[.int .i64 x0, .int .i64 x1, .int .i64 x2, .int .i64 x3, .int .i64 0, .int .i64 0] 42)).alloc (.cells #[.int .i64 x0, .int .i64 x1, .int .i64 x2, .int .i64 x3, .int .i64 0, .int .i64 0] 42)) := ((Ext.refl _).alloc _).alloc _
  have X2 := X.trans (Chg.of_ext (T := fun p => p.block = bf) (N := N) y)
  obtain ⟨A', c', w', hr, ho', hg⟩ := run_putV (P := Try.prog) 22 22 42 _ 6 48 Try.underlying22 chr_info8 rfl (by omega) (by omega) ((ho.alloc _).alloc _) ⟨wr.heap.size + 1, 0, none⟩ 1 1 [.int .i64 x0, .int .i64 x1, .int .i64 x2, .int .i64 x3, .int .i64 0, .int .i64 0] rfl
    (fun j u hu => by rw [add_zero_addr, kn.cell j]; exact hu) (by simp [Value.oneCell']) (by omega) (Nat.le_trans X.size y.size)
  have hne : ∀ n, (Value.slice A k c).ownBlock = some n → V.heap.size ≤ n := fun n e => (ho.lt n e).1
  have kf2 := kf.ext y
  have kf3 : Blk w' bf 26 [.int .i64 D.sum, .int .i64 D.design, .int .i64 D.first, .slice A k c, .slice P.xw D.nw P.zw, .slice P.xh D.nh P.zh, .slice P.xd D.nd P.zd, .slice P.xi D.ni P.zi, .slice none 0 0, .slice P.xk D.nk P.zk, .slice P.xp D.np P.zp] := (hg.block bf kf2.lt (fun e => by have := hne bf e.symm; omega)).trans kf2
  refine ⟨A', c', w', hr, kf3.cell 3, kf3.free 3, kf3.set 3 _, ?_, (X2.grown hg hne (by omega)).trans (Chg.set _ _ _ _ rfl hN)⟩
  rw [hsucc]
  exact owns_set ho' (fun e => by have := (ho'.lt _ e).1; omega) _

/-- Has a kern been found? -/
def anyK (D : FontD) (x : Int) : Nat → Bool
  | 0 => x == 0
  | k + 1 => anyK D x k || (D.kd k == x)
theorem anyK_all {D : FontD} {x : Int} (h : KernOf D x) : anyK D x D.nk = true := by
  have step : ∀ n, (x = 0 ∨ ∃ q, q < n ∧ D.kd q = x) → anyK D x n = true := by
    intro n
    induction n with
    | zero => rintro (rfl | ⟨q, hq, _⟩); rfl; omega
    | succ n ih =>
      rintro (rfl | ⟨q, hq, e⟩)
      · rw [anyK, ih (.inl rfl)]; rfl
      · by_cases hqn : q = n
        · subst hqn; rw [anyK, e]; simp
        · rw [anyK, ih (.inr ⟨q, by omega, e⟩)]; rfl
  exact step D.nk h

set_option maxRecDepth 100000 in
set_option maxHeartbeats 16000000 in
theorem walk (D : FontD) (P : FontP) (ok : FontOk D P) (A : Option Addr) (l : List Int) (c : Nat) (hc : l.length ≤ c) (hm : c ≤ maxLen) (_ : ∀ n ∈ l, (Lit.int .i64 n).wf = true) (w : World) (sn : SeenFont w D P) (hs : Seen w.heap.size w A (l.map (.int .i64))) :
    Calls Try.prog 6 #[fontV D P, .slice A l.length c] w (Ret w (.bool true)) := by
  have hl := hs.fn
  clear hs
  have W0 : Ext w (w.alloc (.cells #[.int .i64 D.sum, .int .i64 D.design, .int .i64 D.first, .slice P.xc D.nc P.zc, .slice P.xw D.nw P.zw, .slice P.xh D.nh P.zh, .slice P.xd D.nd P.zd, .slice P.xi D.ni P.zi, .slice P.xs D.ns P.zs, .slice P.xk D.nk P.zk, .slice P.xp D.np P.zp] 26)) := (Ext.refl _).alloc _
  have SN := Lib.hid (fun w' (x : Ext (w.alloc (.cells #[.int .i64 D.sum, .int .i64 D.design, .int .i64 D.first, .slice P.xc D.nc P.zc, .slice P.xw D.nw P.zw, .slice P.xh D.nh P.zh, .slice P.xd D.nd P.zd, .slice P.xi D.ni P.zi, .slice P.xs D.ns P.zs, .slice P.xk D.nk P.zk, .slice P.xp D.np P.zp] 26)) w') => (sn.ext W0).ext x)
  have OK := Lib.hid ok
  have HC := Lib.hid hc
  have HM := Lib.hid hm
  have kF : Blk (w.alloc (.cells #[.int .i64 D.sum, .int .i64 D.design, .int .i64 D.first, .slice P.xc D.nc P.zc, .slice P.xw D.nw P.zw, .slice P.xh D.nh P.zh, .slice P.xd D.nd P.zd, .slice P.xi D.ni P.zi, .slice P.xs D.ns P.zs, .slice P.xk D.nk P.zk, .slice P.xp D.np P.zp] 26)) w.heap.size 26 [.int .i64 D.sum, .int .i64 D.design, .int .i64 D.first, .slice P.xc D.nc P.zc, .slice P.xw D.nw P.zw, .slice P.xh D.nh P.zh, .slice P.xd D.nd P.zd, .slice P.xi D.ni P.zi, .slice P.xs D.ns P.zs, .slice P.xk D.nk P.zk, .slice P.xp D.np P.zp] := Blk.lit _ _ _ _ rfl
  have HL := Lib.hid (fun w' (x : Ext (w.alloc (.cells #[.int .i64 D.sum, .int .i64 D.design, .int .i64 D.first, .slice P.xc D.nc P.zc, .slice P.xw D.nw P.zw, .slice P.xh D.nh P.zh, .slice P.xd D.nd P.zd, .slice P.xi D.ni P.zi, .slice P.xs D.ns P.zs, .slice P.xk D.nk P.zk, .slice P.xp D.np P.zp] 26)) w') => hl.ext (W0.trans x))
  have nkm : (D.nk : Int) ≤ 9223372036854775807 := by have := ok.rk; unfold maxLen at this; omega
  clear ok sn hc hm hl
  have S1 := Lib.hid (fun w' (x : Ext (w.alloc (.cells #[.int .i64 D.sum, .int .i64 D.design, .int .i64 D.first, .slice P.xc D.nc P.zc, .slice P.xw D.nw P.zw, .slice P.xh D.nh P.zh, .slice P.xd D.nd P.zd, .slice P.xi D.ni P.zi, .slice P.xs D.ns P.zs, .slice P.xk D.nk P.zk, .slice P.xp D.np P.zp] 26)) w') (hn : l.length ≤ 1000) => show Calls Try.prog 10 #[.agg #[.int .i64 D.sum, .int .i64 D.design, .int .i64 D.first, .slice P.xc D.nc P.zc, .slice P.xw D.nw P.zw, .slice P.xh D.nh P.zh, .slice P.xd D.nd P.zd, .slice P.xi D.ni P.zi, .slice P.xs D.ns P.zs, .slice P.xk D.nk P.zk, .slice P.xp D.np P.zp], .slice A l.length c] w' (GlyQ w' (setR D l)) from lset_any D P A l c w' OK.out (SN.out _ x) (HL.out _ x) hn HC.out HM.out)
  have S2 := Lib.hid (fun w' (x : Ext (w.alloc (.cells #[.int .i64 D.sum, .int .i64 D.design, .int .i64 D.first, .slice P.xc D.nc P.zc, .slice P.xw D.nw P.zw, .slice P.xh D.nh P.zh, .slice P.xd D.nd P.zd, .slice P.xi D.ni P.zi, .slice P.xs D.ns P.zs, .slice P.xk D.nk P.zk, .slice P.xp D.np P.zp] 26)) w') (hn : l.length ≤ 1000) (A1 : Option Addr) (c1 : Nat) (h1 : D.nc ≤ c1 ∧ c1 ≤ maxLen) (h2 : SeenN 6 w' A1 D.nc (plainD D).chr) => show Calls Try.prog 10 #[.agg #[.int .i64 D.sum, .int .i64 D.design, .int .i64 D.first, .slice A1 D.nc c1, .slice P.xw D.nw P.zw, .slice P.xh D.nh P.zh, .slice P.xd D.nd P.zd, .slice P.xi D.ni P.zi, .slice none 0 0, .slice P.xk D.nk P.zk, .slice P.xp D.np P.zp], .slice A l.length c] w' (GlyQ w' (setR (plainD D) l)) from lset_any (plainD D) (plainP P A1 c1) A l c w' (plain_ok OK.out A1 c1 h1) (plain_seen (SN.out _ x) c1 h2) (HL.out _ x) hn HC.out HM.out)
  have FEW := Lib.hid (fun w' => show Calls Try.prog 9 #[.agg #[.int .i64 D.sum, .int .i64 D.design, .int .i64 D.first, .slice P.xc D.nc P.zc, .slice P.xw D.nw P.zw, .slice P.xh D.nh P.zh, .slice P.xd D.nd P.zd, .slice P.xi D.ni P.zi, .slice P.xs D.ns P.zs, .slice P.xk D.nk P.zk, .slice P.xp D.np P.zp]] w' (Ret w' (.bool (fewB D))) from few_any D P w')
  obtain ⟨n, hnl⟩ : ∃ n, n = l.length := ⟨_, rfl⟩
  rw [← hnl] at S1 S2 HL ⊢
  have HN := Lib.hid hnl
  have hn63 : (n : Int) ≤ 9223372036854775807 := by have := HC.out; have := HM.out; unfold maxLen at this; omega
  clear hnl
  unfold fontV
  go_enter Try.func6, Try.ntmps6
  go_wp2_with fail
  generalize (w.alloc (.cells #[.int .i64 D.sum, .int .i64 D.design, .int .i64 D.first, .slice P.xc D.nc P.zc, .slice P.xw D.nw P.zw, .slice P.xh D.nh P.zh, .slice P.xd D.nd P.zd, .slice P.xi D.ni P.zi, .slice P.xs D.ns P.zs, .slice P.xk D.nk P.zk, .slice P.xp D.np P.zp] 26)) = V at *
  generalize w.heap.size = B at *
  refine (awake_any _).mono ?_; rintro e w1 ⟨rfl, x1⟩
  have k1 := kF.ext x1
  have q0 : w1.cell? ⟨B, 0, none⟩ = some (.int .i64 D.sum) := k1.cell 0
  have q1 : w1.cell? ⟨B, 1, none⟩ = some (.int .i64 D.design) := k1.cell 1
  have q2 : w1.cell? ⟨B, 2, none⟩ = some (.int .i64 D.first) := k1.cell 2
  have q3 : w1.cell? ⟨B, 3, none⟩ = some (.slice P.xc D.nc P.zc) := k1.cell 3
  have q4 : w1.cell? ⟨B, 4, none⟩ = some (.slice P.xw D.nw P.zw) := k1.cell 4
  have q5 : w1.cell? ⟨B, 5, none⟩ = some (.slice P.xh D.nh P.zh) := k1.cell 5
  have q6 : w1.cell? ⟨B, 6, none⟩ = some (.slice P.xd D.nd P.zd) := k1.cell 6
  have q7 : w1.cell? ⟨B, 7, none⟩ = some (.slice P.xi D.ni P.zi) := k1.cell 7
  have q8 : w1.cell? ⟨B, 8, none⟩ = some (.slice P.xs D.ns P.zs) := k1.cell 8
  have q9 : w1.cell? ⟨B, 9, none⟩ = some (.slice P.xk D.nk P.zk) := k1.cell 9
  have q10 : w1.cell? ⟨B, 10, none⟩ = some (.slice P.xp D.np P.zp) := k1.cell 10
  go_wp2_with fail
  refine (FEW.out _).mono ?_; rintro e w2 ⟨rfl, x2⟩
  have X2 := x1.trans x2
  have k2 := k1.ext x2
  clear q0 q1 q2 q3 q4 q5 q6 q7 q8 q9 q10 kF k1 x1 x2 FEW
  have q0 : w2.cell? ⟨B, 0, none⟩ = some (.int .i64 D.sum) := k2.cell 0
  have q1 : w2.cell? ⟨B, 1, none⟩ = some (.int .i64 D.design) := k2.cell 1
  have q2 : w2.cell? ⟨B, 2, none⟩ = some (.int .i64 D.first) := k2.cell 2
  have q3 : w2.cell? ⟨B, 3, none⟩ = some (.slice P.xc D.nc P.zc) := k2.cell 3
  have q4 : w2.cell? ⟨B, 4, none⟩ = some (.slice P.xw D.nw P.zw) := k2.cell 4
  have q5 : w2.cell? ⟨B, 5, none⟩ = some (.slice P.xh D.nh P.zh) := k2.cell 5
  have q6 : w2.cell? ⟨B, 6, none⟩ = some (.slice P.xd D.nd P.zd) := k2.cell 6
  have q7 : w2.cell? ⟨B, 7, none⟩ = some (.slice P.xi D.ni P.zi) := k2.cell 7
  have q8 : w2.cell? ⟨B, 8, none⟩ = some (.slice P.xs D.ns P.zs) := k2.cell 8
  have q9 : w2.cell? ⟨B, 9, none⟩ = some (.slice P.xk D.nk P.zk) := k2.cell 9
  have q10 : w2.cell? ⟨B, 10, none⟩ = some (.slice P.xp D.np P.zp) := k2.cell 10
  cases hfew : fewB D with
  | false =>
    clear hfew
    go_wp2_with fail
    go_ret
    exact ⟨rfl, W0.trans X2⟩
  | true =>
  have hnc : D.nc ≤ 300 := (of_decide_eq_true hfew).1
  clear hfew
  by_cases hn : (n : Int) ≤ 100
  rotate_left
  · have hn' : 100 < (n : Int) := by omega
    go_wp2_with fail
    go_ret
    exact ⟨rfl, W0.trans X2⟩
  have hn' : ¬ 100 < (n : Int) := by omega
  go_wp2_with fail
  refine (S1.out _ X2 (by omega)).mono ?_
  rintro e w3 ⟨x3, A3, c3, rfl, h3, h3', s3⟩
  have X3 := X2.trans x3
  have k3 := k2.ext x3
  clear q0 q1 q2 q3 q4 q5 q6 q7 q8 q9 q10 k2 x3 X2 S1
  have hk := set_kern D l
  have PS := Lib.hid (plain_set D l)
  obtain ⟨g, e1, hr⟩ : ∃ g e, setR D l = (g, e) := ⟨_, _, rfl⟩
  rw [hr] at s3 h3 hk PS
  simp only [hr]
  simp only at s3 h3 hk
  obtain ⟨K1, K2⟩ := hk
  have K1 := Lib.hid K1
  have K2 := Lib.hid K2
  clear hr
  obtain ⟨q, hq⟩ : ∃ q, q = g.length := ⟨_, rfl⟩
  rw [← hq] at h3 K1 K2 ⊢
  have HQ := Lib.hid hq
  have hq63 : (q : Int) ≤ 9223372036854775807 := by unfold maxLen at h3'; omega
  have HX3 := Lib.hid X3
  clear hq X3
  go_wp2_with fail
  go_loopw [8] (fun i wr => ∃ (k : Nat), k ≤ q ∧ i = .int .i64 k ∧ Ext w3 wr) (fun i _ => q - (intOf i).toNat)
  case atStart => exact ⟨0, by omega, rfl, Ext.refl _⟩
  case round =>
    obtain ⟨k, hkq, rfl, X⟩ := hrel
    have HX := Lib.hid X
    have kw := k3.ext X
    have HKW := Lib.hid kw
    by_cases hlt : k < q
    · have hkg : k < g.length := by rw [← HQ.out]; exact hlt
      obtain ⟨ad, rfl, _, u1⟩ := (s3.ext X).get hkg
      have KO := Lib.hid (anyK_all (K1.out k hlt))
      have KL := Lib.hid (K2.out k)
      generalize (g.getD k (0, 0)).2 = kv at *
      have q9 : wr.cell? ⟨B, 9, none⟩ = some (.slice P.xk D.nk P.zk) := kw.cell 9
      have SK := Lib.hid (SN.out wr (HX3.out.trans X)).ok
      have U1 := Lib.hid u1
      clear X kw
      go_wp2_with fail
      obtain ⟨wo, rfl⟩ : ∃ wo : World, wo = wr := ⟨_, rfl⟩
      have hk0 : (kv == 0) = anyK D kv 0 := rfl
      rw [hk0]
      clear hk0
      go_loopw [9, 10] (fun b i wr => ∃ (j : Nat), j ≤ D.nk ∧ i = .int .i64 j ∧ b = .bool (anyK D kv j) ∧ Ext wo wr) (fun _ i _ => D.nk - (intOf i).toNat)
      case atStart => exact ⟨0, by omega, rfl, rfl, Ext.refl _⟩
      case round =>
        obtain ⟨j, hj, rfl, rfl, Y⟩ := hrel
        have q9 := Y.at q9
        have u1 := Y.at U1.out
        by_cases hlj : j < D.nk
        · obtain ⟨ak, hak, hck⟩ := (SK.out.ext Y).get hlj
          rw [hak] at q9
          have HAK := Lib.hid hak
          have hlj64 : (j : Int) < (D.nk : Int) := by omega
          have hkq64 : (k : Int) < (q : Int) := by omega
          have HA : Hid (anyK D kv (j + 1) = (anyK D kv j || (D.kd j == kv))) := rfl
          have HY := Lib.hid Y
          clear hak Y
          generalize D.kd j = kj at *
          cases hb : anyK D kv j with
          | true =>
            have HB := Lib.hid (show anyK D kv (j + 1) = true by rw [HA.out, hb]; rfl)
            clear hb
            go_wp2_with fail
            go_quiet (fail)
            go_wp2_with fail
            go_roundw
            case rel => exact ⟨j + 1, by omega, by go_num, by rw [HB.out], HY.out.drewN _⟩
            case measure => simp [intOf]; omega
          | false =>
            have HB := Lib.hid (show anyK D kv (j + 1) = (kj == kv) by rw [HA.out, hb]; rfl)
            clear hb
            go_wp2_with fail
            go_quiet (fail)
            go_wp2_with fail
            go_roundw
            case rel => exact ⟨j + 1, by omega, by go_num, by rw [HB.out], HY.out.drewN _⟩
            case measure => simp [intOf]; omega
        · obtain rfl : j = D.nk := by omega
          rw [KO.out]
          have hkq64 : (k : Int) < (q : Int) := by omega
          have HXY := Lib.hid (HX.out.trans Y)
          clear Y
          by_cases hlast : k + 1 = q
          · have hkv : kv = 0 := KL.out hlast
            have e1 : (k : Int) = (q : Int) - 1 := by omega
            subst hkv
            have e2 : ((k : Int) == (q : Int) - 1) = true := by simpa using e1
            clear e1
            go_wp2_with fail
            go_roundw
            case rel => exact ⟨k + 1, by omega, by go_num, HXY.out⟩
            case measure => simp [intOf]; omega
          · have e2 : ((k : Int) == (q : Int) - 1) = false := by simp; omega
            go_wp2_with fail
            go_roundw
            case rel => exact ⟨k + 1, by omega, by go_num, HXY.out⟩
            case measure => simp [intOf]; omega
    · obtain rfl : k = q := by omega
      obtain ⟨wp, rfl⟩ : ∃ wp : World, wp = wr := ⟨_, rfl⟩
      have kF := HKW.out
      have q0 : wp.cell? ⟨B, 0, none⟩ = some (.int .i64 D.sum) := kF.cell 0
      have q1 : wp.cell? ⟨B, 1, none⟩ = some (.int .i64 D.design) := kF.cell 1
      have q2 : wp.cell? ⟨B, 2, none⟩ = some (.int .i64 D.first) := kF.cell 2
      have q3 : wp.cell? ⟨B, 3, none⟩ = some (.slice P.xc D.nc P.zc) := kF.cell 3
      have q4 : wp.cell? ⟨B, 4, none⟩ = some (.slice P.xw D.nw P.zw) := kF.cell 4
      have q5 : wp.cell? ⟨B, 5, none⟩ = some (.slice P.xh D.nh P.zh) := kF.cell 5
      have q6 : wp.cell? ⟨B, 6, none⟩ = some (.slice P.xd D.nd P.zd) := kF.cell 6
      have q7 : wp.cell? ⟨B, 7, none⟩ = some (.slice P.xi D.ni P.zi) := kF.cell 7
      have q8 : wp.cell? ⟨B, 8, none⟩ = some (.slice P.xs D.ns P.zs) := kF.cell 8
      have q9 : wp.cell? ⟨B, 9, none⟩ = some (.slice P.xk D.nk P.zk) := kF.cell 9
      have q10 : wp.cell? ⟨B, 10, none⟩ = some (.slice P.xp D.np P.zp) := kF.cell 10
      have lb := kF.lt
      have hXr := Lib.hid (HX3.out.trans X)
      have s3 := s3.ext X
      clear HX HKW kw X
      go_wp2_with fail
      obtain ⟨w4, hw4⟩ : ∃ w4, w4 = wp.alloc (.cells #[.int .i64 D.sum, .int .i64 D.design, .int .i64 D.first, .slice none 0 0, .slice P.xw D.nw P.zw, .slice P.xh D.nh P.zh, .slice P.xd D.nd P.zd, .slice P.xi D.ni P.zi, .slice none 0 0, .slice P.xk D.nk P.zk, .slice P.xp D.np P.zp] 26) := ⟨_, rfl⟩
      rw [← hw4]
      have kg : Blk w4 wp.heap.size 26 [.int .i64 D.sum, .int .i64 D.design, .int .i64 D.first, .slice none 0 0, .slice P.xw D.nw P.zw, .slice P.xh D.nh P.zh, .slice P.xd D.nd P.zd, .slice P.xi D.ni P.zi, .slice none 0 0, .slice P.xk D.nk P.zk, .slice P.xp D.np P.zp] := by rw [hw4]; exact Blk.lit _ _ _ _ rfl
      have x4 : Ext wp w4 := by rw [hw4]; exact (Ext.refl _).alloc _
      have hz4 : w4.heap.size = wp.heap.size + 1 := by rw [hw4]; simp
      have k4 := kF.ext x4
      clear hw4 q0 q1 q2 q3 q4 q5 q6 q7 q8 q9 q10 kF
      generalize hG : wp.heap.size = G at *
      go_loopw [12] (fun i wx => ∃ (A1 : Option Addr) (j c1 : Nat), j ≤ D.nc ∧ i = .int .i64 j ∧ Blk wx G 26 [.int .i64 D.sum, .int .i64 D.design, .int .i64 D.first, .slice A1 j c1, .slice P.xw D.nw P.zw, .slice P.xh D.nh P.zh, .slice P.xd D.nd P.zd, .slice P.xi D.ni P.zi, .slice none 0 0, .slice P.xk D.nk P.zk, .slice P.xp D.np P.zp] ∧ wx.ownsRow w4.heap.size 42 6 (.slice A1 j c1) j (rowsP8 D j) ∧ Chg (fun p => p.block = G) G w4 wx) (fun i _ => D.nc - (intOf i).toNat)
      case atStart => exact ⟨none, 0, 0, by omega, rfl, kg, World.ownsRow_nil _ _ _ _, Chg.refl _ _ _⟩
      case round =>
        obtain ⟨A1, j, c1, hj, rfl, kg, ho, X⟩ := hrel
        obtain ⟨wx, rfl⟩ : ∃ wx : World, wx = wr := ⟨_, rfl⟩
        have XR : Ext wp wx := X.old wp (by omega) x4
        have kx : Blk wx B 26 [.int .i64 D.sum, .int .i64 D.design, .int .i64 D.first, .slice P.xc D.nc P.zc, .slice P.xw D.nw P.zw, .slice P.xh D.nh P.zh, .slice P.xd D.nd P.zd, .slice P.xi D.ni P.zi, .slice P.xs D.ns P.zs, .slice P.xk D.nk P.zk, .slice P.xp D.np P.zp] := X.blk B _ _ _ (fun o h => by have h : B = G := h; omega) k4
        have lg := kg.lt
        have lx := kx.lt
        by_cases hlj : j < D.nc
        · have q3 : wx.cell? ⟨B, 3, none⟩ = some (.slice P.xc D.nc P.zc) := kx.cell 3
          obtain ⟨ad, hA, e0, e1, e2, e3, e4, e5⟩ := row6 (SN.out wx (hXr.out.trans XR)).oc hlj
          obtain ⟨A', c', w', hr, g3, z3, kg', ho', X'⟩ := char_put8 kg ho X (by omega) (by omega) (Nat.le_refl _)
          have y3 : wx.cell? ⟨G, 3, none⟩ = some (.slice A1 j c1) := kg.cell 3
          rw [hA] at q3
          have HO := Lib.hid ho'
          have HXX := Lib.hid X'
          have HKG := Lib.hid kg'
          have hlj64 : (j : Int) < (D.nc : Int) := by omega
          have hnc64 : (D.nc : Int) ≤ 300 := by omega
          clear hA ho' X' kg' X XR kx ho kg
          generalize D.chr j 0 = v0 at *
          generalize D.chr j 1 = v1 at *
          generalize D.chr j 2 = v2 at *
          generalize D.chr j 3 = v3 at *
          generalize D.chr j 4 = v4 at *
          generalize D.chr j 5 = v5 at *
          go_wp2_with (at_builtin; refine wpList_ran rfl _ _ rfl hr ?_)
          go_roundw
          case rel => exact ⟨A', j + 1, c', by omega, by go_num, HKG.out, HO.out, HXX.out⟩
          case measure => simp [intOf]; omega
        · obtain rfl : j = D.nc := by omega
          have q3 : wx.cell? ⟨B, 3, none⟩ = some (.slice P.xc D.nc P.zc) := kx.cell 3
          obtain ⟨_, _, e', h1, h2, h3⟩ := own_slice ho
          cases e'
          have SC : SeenN 6 wx A1 D.nc (plainD D).chr := fun i hi j hj => h3 _ _ (rowsP8_get D D.nc i j hi hj)
          have XRR := hXr.out.trans XR
          have C5 := Lib.hid (S2.out wx XRR (by omega) A1 c1 ⟨h1, h2⟩ SC)
          have HXRR := Lib.hid XRR
          have y0 : wx.cell? ⟨G, 0, none⟩ = some (.int .i64 D.sum) := kg.cell 0
          have y1 : wx.cell? ⟨G, 1, none⟩ = some (.int .i64 D.design) := kg.cell 1
          have y2 : wx.cell? ⟨G, 2, none⟩ = some (.int .i64 D.first) := kg.cell 2
          have y3 : wx.cell? ⟨G, 3, none⟩ = some (.slice A1 D.nc c1) := kg.cell 3
          have y4 : wx.cell? ⟨G, 4, none⟩ = some (.slice P.xw D.nw P.zw) := kg.cell 4
          have y5 : wx.cell? ⟨G, 5, none⟩ = some (.slice P.xh D.nh P.zh) := kg.cell 5
          have y6 : wx.cell? ⟨G, 6, none⟩ = some (.slice P.xd D.nd P.zd) := kg.cell 6
          have y7 : wx.cell? ⟨G, 7, none⟩ = some (.slice P.xi D.ni P.zi) := kg.cell 7
          have y8 : wx.cell? ⟨G, 8, none⟩ = some (.slice none 0 0) := kg.cell 8
          have y9 : wx.cell? ⟨G, 9, none⟩ = some (.slice P.xk D.nk P.zk) := kg.cell 9
          have y10 : wx.cell? ⟨G, 10, none⟩ = some (.slice P.xp D.np P.zp) := kg.cell 10
          clear SC h1 h2 h3 ho X XR XRR kx kg lx lg
          go_wp2_with fail
          refine C5.out.mono ?_
          rintro e w6 ⟨x6, A6, c6, rfl, h6, h6', s6⟩
          clear C5 y0 y1 y2 y3 y4 y5 y6 y7 y8 y9 y10 q3 s3 k4
          rcases PS.out with hp | ⟨er, he, hp, hne⟩
          · rw [hp] at s6 h6
            simp only [hp]
            simp only at s6 h6
            have hlm : (l.map (fun x => (x, (0 : Int)))).length = n := by rw [List.length_map, HN.out]
            have GD := Lib.hid (fun (k : Nat) (hk : k < n) => show (l.map (fun x => (x, (0 : Int)))).getD k (0, 0) = (l.getD k 0, 0) by
              have hk' : k < l.length := by rw [← HN.out]; exact hk
              rw [List.getD, List.getD, List.getElem?_map, List.getElem?_eq_getElem hk']; rfl)
            have HLM := Lib.hid hlm
            clear hp
            rw [hlm] at h6 ⊢
            clear hlm
            generalize l.map (fun x => (x, (0 : Int))) = gm at *
            go_wp2_with fail
            go_loopw [16] (fun i wy => ∃ (k : Nat), k ≤ n ∧ i = .int .i64 k ∧ Ext w6 wy) (fun i _ => n - (intOf i).toNat)
            case atStart => exact ⟨0, by omega, rfl, Ext.refl _⟩
            case round =>
              obtain ⟨k, hk, rfl, Y⟩ := hrel
              obtain ⟨wy, rfl⟩ : ∃ wy : World, wy = wr := ⟨_, rfl⟩
              have HY := Lib.hid Y
              by_cases hlk : k < n
              · obtain ⟨am, rfl, u0, u1⟩ := (s6.ext Y).get (show k < gm.length by rw [HLM.out]; exact hlk)
                obtain ⟨ac, rfl, hck⟩ := (HL.out wy ((HXRR.out.trans x6).trans Y)).get hlk
                rw [GD.out k hlk] at u0 u1
                simp only at u0 u1
                generalize l.getD k 0 = cv at *
                have hlk64 : (k : Int) < (n : Int) := by omega
                have hge : decide ((n : Int) ≤ (k : Int)) = false := by simp; omega
                clear Y
                go_wp2_with fail
                go_quiet (fail)
                go_wp2_with fail
                go_roundw
                case rel => exact ⟨k + 1, by omega, by go_num, HY.out.drewN _⟩
                case measure => simp [intOf]; omega
              · obtain rfl : k = n := by omega
                clear Y
                go_wp2_with fail
                go_ret
                exact ⟨rfl, W0.trans ((HXRR.out.trans x6).trans HY.out)⟩
          · rw [hp] at s6 h6
            simp only [hp]
            have he0 : (er != 0) = true := by simpa using he
            have he1 : (e1 != 0) = true := by simpa using hne
            clear hp hne he s6 h6 h6'
            go_wp2_with fail
            go_ret
            exact ⟨rfl, W0.trans (HXRR.out.trans x6)⟩

set_option maxRecDepth 100000 in
theorem lifted (os : Os) (started : os.Started) (H : Type) (enc : TypeId × Value → H) :
    ReturnsInHanded {} Try.checked os 6 .any (Rows.ligPlainSpec.pre6 enc Try.prog Try.f6 [] false) (Rows.ligPlainSpec.post enc Try.prog Try.f6 false true false false) := by
  refine law_lift (C := Try.checked) own started (by kernel_rfl) Try.func6 laidOut rfl rfl Try.underlying4 (by kernel_rfl) ?_
    (ChangeSpec.witness6 (enc := enc) (C := Try.checked) false ⟨#[], #[.agg #[.int .i64 0, .int .i64 0, .int .i64 0, .slice none 0 0, .slice none 0 0, .slice none 0 0, .slice none 0 0, .slice none 0 0, .slice none 0 0, .slice none 0 0, .slice none 0 0], .slice none 0 0], []⟩ 8 (by kernel_rfl) (by kernel_rfl) (by kernel_rfl) (by kernel_rfl)) ?_
  · intro H ds h
    match ds, h with
    | [_, _], _ => rfl
  · intro W base args ds p hval hA hlt hwt hsh
    rw [Try.params6] at hA hval
    obtain ⟨v0, vs0, d0, ds0, p0, q0, hargs, rfl, rfl, h0, r0⟩ := trodAll_cons hA
    obtain ⟨v1, vs1, d1, ds1, p1, q1, rfl, rfl, rfl, h1, r1⟩ := trodAll_cons r0
    obtain ⟨rfl, rfl, rfl⟩ := trodAll_nil r1
    obtain rfl : args = #[v0, v1] := by cases args; simp_all
    obtain ⟨D0, P0, rfl, ok0, hs0⟩ := arg_font (hval 0 26 v0 rfl rfl) h0
    obtain ⟨A1, l1, c1, rfl, hc1, hm1, wf1, hs1⟩ := seen_ints Try.underlying23 Try.underlying3 (by kernel_rfl) (hval 1 23 v1 rfl rfl) h1
    exact walk D0 P0 ok0 A1 l1 c1 hc1 hm1 wf1 W hs0 hs1

theorem holds : Rows.LigPlainSaid :=
  OpenClaim.holds_of_wide 6 Try.f6 rfl rfl rfl rfl rfl rfl rfl ⟨rfl, rfl, rfl, rfl, rfl⟩ rfl rfl rfl rfl rfl (by kernel_rfl) Try.func6 (by kernel_rfl)
    (of_decide_eq_true (by kernel_rfl)) (by unfold Func.isWrapper; first | (rw [if_pos (by decide +kernel)]; kernel_rfl) | (rw [if_neg (by decide +kernel)]; exact ⟨rfl, rfl⟩))
    (fun os started H enc _ => lifted os started H enc)
end LigPlain
end Go.Proofs.Ytmbkgjmnaembaaa

