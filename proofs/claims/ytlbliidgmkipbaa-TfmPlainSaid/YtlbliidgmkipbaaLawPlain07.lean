/- TfmPlain: a font that may be may be without its steps, and its characters' tags, too, and has the same characters (at most three hundred of each): for every input. -/
import Derived.Test.YtlbliidgmkipbaaAwake07
import Derived.Lib.QuietBelow
import Derived.OpenShut
namespace Go.Proofs.Ytlbliidgmkipbaa
namespace TfmPlain
open Go.RowKit Go.Lib in
/-- A call within a region that draws its order. -/
theorem rg {f : FuncId} {args : Array Value} {w : World} {d : Nat} {os : Array Obj} {v : Value} (h : Calls Try.prog f args (Sort.grow (redrawn w d) os) (Ret (Sort.grow (redrawn w d) os) v)) :
    Calls Try.prog f args (Sort.grow (redrawn w d) os) fun e w'' => e = .returned v ∧ ∃ p : Regrown, w'' = Sort.grow (redrawn w p.d) p.os := Calls.regrown_of h
open Go.ChangeShapes Go.WideShapes Go.ChangeAt Go.RowKit Go.Deep
open L06 L07

/-- A font without its steps, its kerns and its characters' tags. -/
def plainD (D : FontD) : FontD := { D with chr := fun i j => match j with | 0 => D.chr i 0 | 1 => D.chr i 1 | 2 => D.chr i 2 | 3 => D.chr i 3 | _ => 0, ns := 0, nk := 0 }
def plainP (P : FontP) (A : Option Addr) (c : Nat) : FontP := { P with xc := A, zc := c, xs := none, zs := 0, xk := none, zk := 0 }
theorem plain_check {D : FontD} (h : checkB D = true) : checkB (plainD D) = true := by
  simp only [checkB, headB, tabsB, Bool.and_eq_true, decide_eq_true_eq] at h ⊢
  obtain ⟨⟨a1, a2, a3, a4, a5⟩, ⟨b1, b2, b3, b4, b5, b6⟩, c1, c2⟩ := h
  refine ⟨⟨a1, a2, a3, a4, by show 0 ≤ 256; omega⟩, ⟨b1, b2, b3, b4, rfl, b6⟩, ?_, rfl⟩
  rw [allB_iff] at c1 ⊢
  intro j hj
  have := c1 j hj
  simp only [chrB, Bool.and_eq_true] at this ⊢
  obtain ⟨d1, d2, d3, d4, _⟩ := this
  exact ⟨d1, d2, d3, d4, rfl⟩
theorem plain_has {D : FontD} {n : Int} (h : checkB D = true) : hasB (plainD D) n = hasB D n := by
  unfold hasB
  rw [h, plain_check h]
  rfl
theorem plain_ok {D : FontD} {P : FontP} (ok : FontOk D P) (A : Option Addr) (c : Nat) (h : D.nc ≤ c ∧ c ≤ maxLen) : FontOk (plainD D) (plainP P A c) := by
  have w0 : Wide 0 := by simp [Wide]
  refine ⟨ok.sum, ok.design, ok.first, fun i j hi hj => ?_, ok.bw, ok.bh, ok.bd, ok.bi, fun i j hi _ => absurd hi (Nat.not_lt_zero i), ok.bk, ok.bp, h, ok.rw, ok.rh, ok.rd, ok.ri, ⟨Nat.le_refl _, Nat.zero_le _⟩, ⟨Nat.le_refl _, Nat.zero_le _⟩, ok.rp⟩
  match j, hj with
  | 0, _ => exact ok.bc i 0 hi (by omega)
  | 1, _ => exact ok.bc i 1 hi (by omega)
  | 2, _ => exact ok.bc i 2 hi (by omega)
  | 3, _ => exact ok.bc i 3 hi (by omega)
  | 4, _ => exact w0
  | 5, _ => exact w0
theorem plain_seen {D : FontD} {P : FontP} {w : World} (sn : SeenFont w D P) {A : Option Addr} (c : Nat) (h : SeenN 6 w A D.nc (plainD D).chr) : SeenFont w (plainD D) (plainP P A c) := by
  obtain ⟨_, s2, s3, s4, s5, _, _, s8⟩ := sn
  exact ⟨h, s2, s3, s4, s5, SeenN.nil, SeenF.none, s8⟩
theorem range_fin : ∀ (n : Nat) (f : Nat → List Value), (List.range n).flatMap f = (List.finRange n).flatMap fun i => f i.val
  | 0, _ => rfl
  | n + 1, f => by
    rw [List.range_succ_eq_map, List.finRange_succ, List.flatMap_cons, List.flatMap_cons, List.flatMap_map, List.flatMap_map]
    exact congrArg (f 0 ++ ·) (range_fin n (fun i => f (i + 1)))
def rowsP (D : FontD) (k : Nat) : List Value := (List.range k).flatMap fun i => (List.range 6).map fun j => .int .i64 ((plainD D).chr i j)
theorem rows_next (D : FontD) (k : Nat) : rowsP D (k + 1) = rowsP D k ++ [.int .i64 (D.chr k 0), .int .i64 (D.chr k 1), .int .i64 (D.chr k 2), .int .i64 (D.chr k 3), .int .i64 0, .int .i64 0] := by
  unfold rowsP
  rw [List.range_succ (n := k), List.flatMap_append]
  rfl
/-- One struct is put behind, in a variable's field. -/
theorem put_plain {N : Nat} {wk w2 : World} {t : Addr} {A : Option Addr} {i c : Nat} {xs ys : List Value} (T E : TypeId) (z : Value) (size bytes : Nat) (hT : Try.prog.underlying T = some (.slice E)) (hz : (Try.prog.info? E).map (fun i => (i.zero, i.size, i.bytes)) = some (some z, size, bytes))
    (hzs : z.cells.size = size) (hsz : 0 < size) (hb : bytes ≤ 1000) (q : w2.cell? t = some (.slice A i c)) (fz : w2.frozen? t = false)
    (ow : w2.ownsRow wk.heap.size E size (.slice A i c) i xs) (hys : ys.length = 1 * size) (h1 : ∀ u ∈ ys, u.oneCell' = true) (ht : t.block < wk.heap.size) (hN : N ≤ t.block) (ch : Chg (fun p => p = t) N wk w2) (hi : i ≤ 200000) (hsp : t.spot = none) :
    ∃ A' c' w3, (Builtin.append_ #[T, T] T #[.slice A i c, .slice (some ⟨w2.heap.size, 0, none⟩) 1 1]).run Try.prog (w2.alloc (.cells ys.toArray E)) = .ok (.slice A' (i + 1) c') w3 ∧
      w3.cell? t = some (.slice A i c) ∧ w3.frozen? t = false ∧
      ((w3.setCell t (.slice A' (i + 1) c')).cell? t = some (.slice A' (i + 1) c') ∧ (w3.setCell t (.slice A' (i + 1) c')).frozen? t = false ∧
        (w3.setCell t (.slice A' (i + 1) c')).ownsRow wk.heap.size E size (.slice A' (i + 1) c') (i + 1) (xs ++ ys)) ∧
      Chg (fun p => p = t) N wk (w3.setCell t (.slice A' (i + 1) c')) := by
  have x1 : Ext w2 (w2.alloc (.cells ys.toArray E)) := (Ext.refl w2).alloc _
  have o1 : (w2.alloc (.cells ys.toArray E)).ownsRow wk.heap.size E size (.slice A i c) i xs := OwnsRow.ext ow x1
  obtain ⟨A', c', w3, hr, ho, hg⟩ := run_putV (P := Try.prog) T T E z size bytes hT hz hzs hsz hb o1 ⟨w2.heap.size, 0, none⟩ 1 1 ys hys
    (fun j u hu => by
      have k := Blk.lit w2 w2.heap.size E ys.toArray rfl
      have := k.cell j
      rw [add_zero_addr]
      exact this.trans (by simpa using hu)) h1 (by omega) (by simp; have := ch.size; omega)
  have hrow : ∀ k, (Value.slice A i c).ownBlock = some k → wk.heap.size ≤ k := fun k hk => (ow.lt k hk).1
  have hblk : ∀ b, b < wk.heap.size → w3.heap[b]? = w2.heap[b]? := fun b hlt => by
    have h2 : b < w2.heap.size := Nat.lt_of_lt_of_le hlt ch.size
    exact (hg.block b (by simp; omega) fun e => by have := hrow _ e.symm; omega).trans (x1.block b h2)
  obtain ⟨e1, e2⟩ : w3.cell? t = w2.cell? t ∧ w3.frozen? t = w2.frozen? t := cell_of_block (hblk t.block ht)
  have q3 : w3.cell? t = some (.slice A i c) := e1.trans q
  have f3 : w3.frozen? t = false := e2.trans fz
  obtain ⟨tb, to, ts⟩ := t
  simp only at hsp ht hN
  subst hsp
  have C3 : Chg (fun p => p = ⟨tb, to, none⟩) N wk w3 := (ch.trans (Chg.of_ext x1)).grown hg hrow (Nat.le_trans hN (Nat.le_of_lt ht))
  refine ⟨A', c', w3, hr, q3, f3, ⟨World.cell?_setCell_same _ _ _ q3, by rw [World.frozen?_setCell]; exact f3, ?_⟩, C3.trans (Chg.set w3 tb to _ rfl hN)⟩
  refine ho.kept (row := some tb) ⟨rfl, rfl, rfl, (by simp [World.setCell]), fun k _ hk => Below.heap_setCell _ _ _ k (fun e => hk (by rw [e]))⟩ (.inr fun e => ?_)
  have := (ho.lt tb e).1
  omega
/-- What has been put so far. -/
def PutI (D : FontD) (G : Nat) (w3 : World) (k : Nat) (wr : World) : Prop :=
  ∃ A c, wr.cell? ⟨G, 3, none⟩ = some (.slice A k c) ∧ wr.frozen? ⟨G, 3, none⟩ = false ∧ wr.ownsRow w3.heap.size 42 6 (.slice A k c) k (rowsP D k) ∧ Chg (fun p => p = ⟨G, 3, none⟩) G w3 wr

set_option maxRecDepth 100000 in
set_option maxHeartbeats 16000000 in
theorem walk (D : FontD) (P : FontP) (ok : FontOk D P) (n : Int) (hn : -9223372036854775808 ≤ n ∧ n ≤ 9223372036854775807) (w : World) (sn : SeenFont w D P) :
    Calls Try.prog 7 #[fontV D P, .int .i64 n] w (Ret w (.bool true)) := by
  have W0 : Ext w (w.alloc (.cells #[.int .i64 D.sum, .int .i64 D.design, .int .i64 D.first, .slice P.xc D.nc P.zc, .slice P.xw D.nw P.zw, .slice P.xh D.nh P.zh, .slice P.xd D.nd P.zd, .slice P.xi D.ni P.zi, .slice P.xs D.ns P.zs, .slice P.xk D.nk P.zk, .slice P.xp D.np P.zp] 26)) := (Ext.refl _).alloc _
  have SN := Lib.hid (fun w' (x : Ext (w.alloc (.cells #[.int .i64 D.sum, .int .i64 D.design, .int .i64 D.first, .slice P.xc D.nc P.zc, .slice P.xw D.nw P.zw, .slice P.xh D.nh P.zh, .slice P.xd D.nd P.zd, .slice P.xi D.ni P.zi, .slice P.xs D.ns P.zs, .slice P.xk D.nk P.zk, .slice P.xp D.np P.zp] 26)) w') => (sn.ext W0).ext x)
  have OK := Lib.hid ok
  have HN := Lib.hid hn
  have kF : Blk (w.alloc (.cells #[.int .i64 D.sum, .int .i64 D.design, .int .i64 D.first, .slice P.xc D.nc P.zc, .slice P.xw D.nw P.zw, .slice P.xh D.nh P.zh, .slice P.xd D.nd P.zd, .slice P.xi D.ni P.zi, .slice P.xs D.ns P.zs, .slice P.xk D.nk P.zk, .slice P.xp D.np P.zp] 26)) w.heap.size 26 [.int .i64 D.sum, .int .i64 D.design, .int .i64 D.first, .slice P.xc D.nc P.zc, .slice P.xw D.nw P.zw, .slice P.xh D.nh P.zh, .slice P.xd D.nd P.zd, .slice P.xi D.ni P.zi, .slice P.xs D.ns P.zs, .slice P.xk D.nk P.zk, .slice P.xp D.np P.zp] := Blk.lit _ _ _ _ rfl
  have FEW := few_any D P
  have FEW := Lib.hid FEW
  obtain ⟨n0, n1⟩ := hn
  clear ok sn
  unfold fontV at *
  go_enter Try.func7, Try.ntmps7
  go_wp2_with fail
  generalize (w.alloc (.cells #[.int .i64 D.sum, .int .i64 D.design, .int .i64 D.first, .slice P.xc D.nc P.zc, .slice P.xw D.nw P.zw, .slice P.xh D.nh P.zh, .slice P.xd D.nd P.zd, .slice P.xi D.ni P.zi, .slice P.xs D.ns P.zs, .slice P.xk D.nk P.zk, .slice P.xp D.np P.zp] 26)) = V at *
  generalize w.heap.size = B at *
  refine (awake_any _).mono ?_; rintro e w1 ⟨rfl, x1⟩
  have k1 := kF.ext x1
  have q0 : w1.cell? ⟨B, 0, none⟩ = some (.int .i64 D.sum) := k1.cell 0
  have q1 : w1.cell? ⟨B, 1, none⟩ = some (.int .i64 D.design) := k1.cell 1
  have q2 : w1.cell? ⟨B, 2, none⟩ = some (.int .i64 D.first) := k1.cell 2
  have q3 : w1.cell? ⟨B, 3, none⟩ = some (.slice P.xc D.nc P.zc) := k1.cell 3
  have q4 : w1.cell? ⟨B, 4, none⟩ = some (.slice P.xw D.nw P.zw) := k1.cell 4
  have q5 : w1.cell? ⟨B, 5, none⟩ = some (.slice P.xh D.nh P.zh) := k1.cell 5
  have q6 : w1.cell? ⟨B, 6, none⟩ = some (.slice P.xd D.nd P.zd) := k1.cell 6
  have q7 : w1.cell? ⟨B, 7, none⟩ = some (.slice P.xi D.ni P.zi) := k1.cell 7
  have q8 : w1.cell? ⟨B, 8, none⟩ = some (.slice P.xs D.ns P.zs) := k1.cell 8
  have q9 : w1.cell? ⟨B, 9, none⟩ = some (.slice P.xk D.nk P.zk) := k1.cell 9
  have q10 : w1.cell? ⟨B, 10, none⟩ = some (.slice P.xp D.np P.zp) := k1.cell 10
  go_wp2_with fail
  refine (FEW.out w1).mono ?_; rintro e w2 ⟨rfl, x2⟩
  have k2 := k1.ext x2
  have X2 := x1.trans x2
  have q0 : w2.cell? ⟨B, 0, none⟩ = some (.int .i64 D.sum) := k2.cell 0
  have q1 : w2.cell? ⟨B, 1, none⟩ = some (.int .i64 D.design) := k2.cell 1
  have q2 : w2.cell? ⟨B, 2, none⟩ = some (.int .i64 D.first) := k2.cell 2
  have q3 : w2.cell? ⟨B, 3, none⟩ = some (.slice P.xc D.nc P.zc) := k2.cell 3
  have q4 : w2.cell? ⟨B, 4, none⟩ = some (.slice P.xw D.nw P.zw) := k2.cell 4
  have q5 : w2.cell? ⟨B, 5, none⟩ = some (.slice P.xh D.nh P.zh) := k2.cell 5
  have q6 : w2.cell? ⟨B, 6, none⟩ = some (.slice P.xd D.nd P.zd) := k2.cell 6
  have q7 : w2.cell? ⟨B, 7, none⟩ = some (.slice P.xi D.ni P.zi) := k2.cell 7
  have q8 : w2.cell? ⟨B, 8, none⟩ = some (.slice P.xs D.ns P.zs) := k2.cell 8
  have q9 : w2.cell? ⟨B, 9, none⟩ = some (.slice P.xk D.nk P.zk) := k2.cell 9
  have q10 : w2.cell? ⟨B, 10, none⟩ = some (.slice P.xp D.np P.zp) := k2.cell 10
  clear FEW kF k1 x1 x2
  cases hfew : fewB D with
  | false =>
    clear hfew
    go_wp2_with fail
    go_ret
    exact ⟨rfl, W0.trans X2⟩
  | true =>
  have hnc : D.nc ≤ 300 := (of_decide_eq_true hfew).1
  have hB2 : B < w2.heap.size := k2.lt
  have kG : Blk (w2.alloc (.cells #[.int .i64 D.sum, .int .i64 D.design, .int .i64 D.first, .slice none 0 0, .slice P.xw D.nw P.zw, .slice P.xh D.nh P.zh, .slice P.xd D.nd P.zd, .slice P.xi D.ni P.zi, .slice none 0 0, .slice none 0 0, .slice P.xp D.np P.zp] 26)) w2.heap.size 26 [.int .i64 D.sum, .int .i64 D.design, .int .i64 D.first, .slice none 0 0, .slice P.xw D.nw P.zw, .slice P.xh D.nh P.zh, .slice P.xd D.nd P.zd, .slice P.xi D.ni P.zi, .slice none 0 0, .slice none 0 0, .slice P.xp D.np P.zp] := Blk.lit _ _ _ _ rfl
  have XG : Ext w2 (w2.alloc (.cells #[.int .i64 D.sum, .int .i64 D.design, .int .i64 D.first, .slice none 0 0, .slice P.xw D.nw P.zw, .slice P.xh D.nh P.zh, .slice P.xd D.nd P.zd, .slice P.xi D.ni P.zi, .slice none 0 0, .slice none 0 0, .slice P.xp D.np P.zp] 26)) := (Ext.refl _).alloc _
  have hG3 : w2.heap.size < (w2.alloc (.cells #[.int .i64 D.sum, .int .i64 D.design, .int .i64 D.first, .slice none 0 0, .slice P.xw D.nw P.zw, .slice P.xh D.nh P.zh, .slice P.xd D.nd P.zd, .slice P.xi D.ni P.zi, .slice none 0 0, .slice none 0 0, .slice P.xp D.np P.zp] 26)).heap.size := by simp
  clear hfew
  go_wp2_with fail
  generalize (w2.alloc (.cells #[.int .i64 D.sum, .int .i64 D.design, .int .i64 D.first, .slice none 0 0, .slice P.xw D.nw P.zw, .slice P.xh D.nh P.zh, .slice P.xd D.nd P.zd, .slice P.xi D.ni P.zi, .slice none 0 0, .slice none 0 0, .slice P.xp D.np P.zp] 26)) = w3 at *
  generalize hG2 : w2.heap.size = G at *
  have HI : Hid (PutI D G w3 0 w3) := Lib.hid ⟨none, 0, kG.cell 3, kG.free 3, World.ownsRow_nil _ _ _ _, Chg.refl _ _ _⟩
  have k3 := k2.ext XG
  go_loopw [7] (fun i wr => ∃ k : Nat, k ≤ D.nc ∧ i = .int .i64 k ∧ Hid (PutI D G w3 k wr)) (fun i _ => D.nc - (intOf i).toNat)
  case atStart => exact ⟨0, by omega, rfl, HI⟩
  case round =>
    clear HI
    obtain ⟨k, hk, rfl, o⟩ := hrel
    have xr : Ext w2 wr := by obtain ⟨_, _, _, _, _, ch⟩ := o.out; exact ch.old w2 (by omega) XG
    have XR : Ext V wr := X2.trans xr
    have kr := k2.ext xr
    have hBr := kr.lt
    have q0 : wr.cell? ⟨B, 0, none⟩ = some (.int .i64 D.sum) := kr.cell 0
    have q1 : wr.cell? ⟨B, 1, none⟩ = some (.int .i64 D.design) := kr.cell 1
    have q2 : wr.cell? ⟨B, 2, none⟩ = some (.int .i64 D.first) := kr.cell 2
    have q3 : wr.cell? ⟨B, 3, none⟩ = some (.slice P.xc D.nc P.zc) := kr.cell 3
    have q4 : wr.cell? ⟨B, 4, none⟩ = some (.slice P.xw D.nw P.zw) := kr.cell 4
    have q5 : wr.cell? ⟨B, 5, none⟩ = some (.slice P.xh D.nh P.zh) := kr.cell 5
    have q6 : wr.cell? ⟨B, 6, none⟩ = some (.slice P.xd D.nd P.zd) := kr.cell 6
    have q7 : wr.cell? ⟨B, 7, none⟩ = some (.slice P.xi D.ni P.zi) := kr.cell 7
    have q8 : wr.cell? ⟨B, 8, none⟩ = some (.slice P.xs D.ns P.zs) := kr.cell 8
    have q9 : wr.cell? ⟨B, 9, none⟩ = some (.slice P.xk D.nk P.zk) := kr.cell 9
    have q10 : wr.cell? ⟨B, 10, none⟩ = some (.slice P.xp D.np P.zp) := kr.cell 10
    by_cases hlt : k < D.nc
    · obtain ⟨ad, hA, e0, e1, e2, e3, e4, e5⟩ := row6 (SN.out _ XR).oc hlt
      obtain ⟨A, c, g3, z3, ow, ch⟩ := o.out
      have hGr : G < wr.heap.size := by have := ch.size; omega
      have HC : Hid (rowsP D (k + 1) = rowsP D k ++ [.int .i64 (D.chr k 0), .int .i64 (D.chr k 1), .int .i64 (D.chr k 2), .int .i64 (D.chr k 3), .int .i64 0, .int .i64 0]) := Lib.hid (rows_next D k)
      rw [hA] at q3
      generalize D.chr k 0 = v0 at *
      generalize D.chr k 1 = v1 at *
      generalize D.chr k 2 = v2 at *
      generalize D.chr k 3 = v3 at *
      generalize D.chr k 4 = v4 at *
      generalize D.chr k 5 = v5 at *
      have xc : Ext wr (wr.alloc (.cells #[.int .i64 v0, .int .i64 v1, .int .i64 v2, .int .i64 v3, .int .i64 0, .int .i64 0] 42)) := (Ext.refl _).alloc _
      obtain ⟨A9, c9, u9, r9, a1, a2, a3, a4⟩ := put_plain (wk := w3) (w2 := wr.alloc (.cells #[.int .i64 v0, .int .i64 v1, .int .i64 v2, .int .i64 v3, .int .i64 0, .int .i64 0] 42)) (t := ⟨G, 3, none⟩) (N := G) (ys := [.int .i64 v0, .int .i64 v1, .int .i64 v2, .int .i64 v3, .int .i64 0, .int .i64 0]) 22 42 (.agg #[.int .i64 0, .int .i64 0, .int .i64 0, .int .i64 0, .int .i64 0, .int .i64 0]) 6 48 (by kernel_rfl) char_info rfl (by omega) (by omega)
        (xc.at g3) (xc.fz g3 z3) (OwnsRow.ext ow xc) rfl (by simp [Value.oneCell']) hG3 (Nat.le_refl _) (ch.trans (Chg.of_ext xc)) (by omega) rfl
      rw [World.size_alloc] at r9
      have A34 := Lib.hid (And.intro a3 a4)
      clear a3 a4 o ow ch xc hA kr xr XR
      go_wp2_with (at_builtin; refine wpList_ran rfl _ _ rfl r9 ?_)
      go_roundw
      case rel =>
        obtain ⟨⟨b1, b2, b3⟩, b4⟩ := A34.out
        exact ⟨k + 1, by omega, by go_num, Lib.hid ⟨A9, c9, b1, b2, by rw [HC.out]; exact b3, b4⟩⟩
      case measure => simp [intOf]; omega
    · obtain rfl : k = D.nc := by omega
      obtain ⟨A, c, g3, z3, ow, ch⟩ := o.out
      have ow' := ow
      rw [rowsP, range_fin] at ow'
      obtain ⟨A', c', e', h1, h2, h3⟩ := own_rowN (k := 6) (N := D.nc) (f := (plainD D).chr) (by omega) rfl ow'
      obtain ⟨rfl, rfl⟩ : A = A' ∧ c = c' := by simpa using e'
      have SC : SeenN 6 wr A D.nc (plainD D).chr := rowN_seen (T := fun _ => False) (M := 0) h3 (Chg.refl _ _ _) (fun _ _ _ h => h)
      have SG := Lib.hid (plain_seen (SN.out _ XR) c SC)
      have OG := Lib.hid (plain_ok OK.out A c ⟨h1, h2⟩)
      have nt : ∀ i, i ≠ 3 → ¬ ((⟨G, i, none⟩ : Addr) = ⟨G, 3, none⟩) := fun i hi e => hi (congrArg Addr.off e)
      have y0 : wr.cell? ⟨G, 0, none⟩ = some (.int .i64 D.sum) := ch.cell _ _ (nt 0 (by omega)) (kG.cell 0)
      have y1 : wr.cell? ⟨G, 1, none⟩ = some (.int .i64 D.design) := ch.cell _ _ (nt 1 (by omega)) (kG.cell 1)
      have y2 : wr.cell? ⟨G, 2, none⟩ = some (.int .i64 D.first) := ch.cell _ _ (nt 2 (by omega)) (kG.cell 2)
      have y4 : wr.cell? ⟨G, 4, none⟩ = some (.slice P.xw D.nw P.zw) := ch.cell _ _ (nt 4 (by omega)) (kG.cell 4)
      have y5 : wr.cell? ⟨G, 5, none⟩ = some (.slice P.xh D.nh P.zh) := ch.cell _ _ (nt 5 (by omega)) (kG.cell 5)
      have y6 : wr.cell? ⟨G, 6, none⟩ = some (.slice P.xd D.nd P.zd) := ch.cell _ _ (nt 6 (by omega)) (kG.cell 6)
      have y7 : wr.cell? ⟨G, 7, none⟩ = some (.slice P.xi D.ni P.zi) := ch.cell _ _ (nt 7 (by omega)) (kG.cell 7)
      have y8 : wr.cell? ⟨G, 8, none⟩ = some (.slice none 0 0) := ch.cell _ _ (nt 8 (by omega)) (kG.cell 8)
      have y9 : wr.cell? ⟨G, 9, none⟩ = some (.slice none 0 0) := ch.cell _ _ (nt 9 (by omega)) (kG.cell 9)
      have y10 : wr.cell? ⟨G, 10, none⟩ = some (.slice P.xp D.np P.zp) := ch.cell _ _ (nt 10 (by omega)) (kG.cell 10)
      have y3 := g3
      clear o ow ow' h1 h2 h3 SC e' hk hlt nt ch kr xr kG k3 k2 z3 g3
      have g0 := cell_regrown q0
      have u0 := cell_regrown y0
      have g1 := cell_regrown q1
      have u1 := cell_regrown y1
      have g2 := cell_regrown q2
      have u2 := cell_regrown y2
      have g3 := cell_regrown q3
      have u3 := cell_regrown y3
      have g4 := cell_regrown q4
      have u4 := cell_regrown y4
      have g5 := cell_regrown q5
      have u5 := cell_regrown y5
      have g6 := cell_regrown q6
      have u6 := cell_regrown y6
      have g7 := cell_regrown q7
      have u7 := cell_regrown y7
      have g8 := cell_regrown q8
      have u8 := cell_regrown y8
      have g9 := cell_regrown q9
      have u9 := cell_regrown y9
      have g10 := cell_regrown q10
      have u10 := cell_regrown y10
      go_wp2_with fail
      cases hck : checkB D with
      | false =>
        have hh : hasB D n = false := by simp [hasB, hck]
        have C1 : ∀ d os, Calls Try.prog 13 #[.agg #[.int .i64 D.sum, .int .i64 D.design, .int .i64 D.first, .slice P.xc D.nc P.zc, .slice P.xw D.nw P.zw, .slice P.xh D.nh P.zh, .slice P.xd D.nd P.zd, .slice P.xi D.ni P.zi, .slice P.xs D.ns P.zs, .slice P.xk D.nk P.zk, .slice P.xp D.np P.zp]] (Sort.grow (redrawn wr d) os) (Ret (Sort.grow (redrawn wr d) os) (.bool false)) := fun d os => by
          have h := tcheck_any D P (Sort.grow (redrawn wr d) os) OK.out (SN.out _ (XR.trans (below_regrown _ _ _)))
          rw [hck] at h
          exact h
        have C2 : ∀ d os, Calls Try.prog 15 #[.agg #[.int .i64 D.sum, .int .i64 D.design, .int .i64 D.first, .slice P.xc D.nc P.zc, .slice P.xw D.nw P.zw, .slice P.xh D.nh P.zh, .slice P.xd D.nd P.zd, .slice P.xi D.ni P.zi, .slice P.xs D.ns P.zs, .slice P.xk D.nk P.zk, .slice P.xp D.np P.zp], .int .i64 n] (Sort.grow (redrawn wr d) os) (Ret (Sort.grow (redrawn wr d) os) (.bool false)) := fun d os => by
          have h := thas_any D P n (Sort.grow (redrawn wr d) os) OK.out (SN.out _ (XR.trans (below_regrown _ _ _))) HN.out
          rw [hh] at h
          exact h
        clear SG OG
        refine wp_region_quiet_below (by kernel_rfl) (by kernel_rfl) ?_
        repeat (go_big_quiet_step (first | (with_reducible exact rg (C1 _ _)) | (with_reducible exact rg (C2 _ _))))
        refine wpQuiet_nil ?_
        intro _ hw'
        obtain ⟨⟨dq, osq⟩, hw''⟩ := hw'
        subst hw''
        have z5 : Ext wr (Sort.grow (redrawn wr dq) osq) := below_regrown _ _ _
        clear C1 C2 g0 y0 q0 u0 g1 y1 q1 u1 g2 y2 q2 u2 g3 y3 q3 u3 g4 y4 q4 u4 g5 y5 q5 u5 g6 y6 q6 u6 g7 y7 q7 u7 g8 y8 q8 u8 g9 y9 q9 u9 g10 y10 q10 u10
        generalize Sort.grow (redrawn wr dq) osq = w5 at *
        go_wp2_with fail
        go_ret
        exact ⟨rfl, W0.trans (XR.trans z5)⟩
      | true =>
        cases hh : hasB D n with
        | false =>
          have C1 : ∀ d os, Calls Try.prog 13 #[.agg #[.int .i64 D.sum, .int .i64 D.design, .int .i64 D.first, .slice P.xc D.nc P.zc, .slice P.xw D.nw P.zw, .slice P.xh D.nh P.zh, .slice P.xd D.nd P.zd, .slice P.xi D.ni P.zi, .slice P.xs D.ns P.zs, .slice P.xk D.nk P.zk, .slice P.xp D.np P.zp]] (Sort.grow (redrawn wr d) os) (Ret (Sort.grow (redrawn wr d) os) (.bool true)) := fun d os => by
            have h := tcheck_any D P (Sort.grow (redrawn wr d) os) OK.out (SN.out _ (XR.trans (below_regrown _ _ _)))
            rw [hck] at h
            exact h
          have C2 : ∀ d os, Calls Try.prog 15 #[.agg #[.int .i64 D.sum, .int .i64 D.design, .int .i64 D.first, .slice P.xc D.nc P.zc, .slice P.xw D.nw P.zw, .slice P.xh D.nh P.zh, .slice P.xd D.nd P.zd, .slice P.xi D.ni P.zi, .slice P.xs D.ns P.zs, .slice P.xk D.nk P.zk, .slice P.xp D.np P.zp], .int .i64 n] (Sort.grow (redrawn wr d) os) (Ret (Sort.grow (redrawn wr d) os) (.bool false)) := fun d os => by
            have h := thas_any D P n (Sort.grow (redrawn wr d) os) OK.out (SN.out _ (XR.trans (below_regrown _ _ _))) HN.out
            rw [hh] at h
            exact h
          have C3 : ∀ d os, Calls Try.prog 13 #[.agg #[.int .i64 D.sum, .int .i64 D.design, .int .i64 D.first, .slice A D.nc c, .slice P.xw D.nw P.zw, .slice P.xh D.nh P.zh, .slice P.xd D.nd P.zd, .slice P.xi D.ni P.zi, .slice none 0 0, .slice none 0 0, .slice P.xp D.np P.zp]] (Sort.grow (redrawn wr d) os) (Ret (Sort.grow (redrawn wr d) os) (.bool true)) := fun d os => by
            have h := tcheck_any (plainD D) (plainP P A c) (Sort.grow (redrawn wr d) os) OG.out (SG.out.ext (below_regrown _ _ _))
            rw [plain_check hck] at h
            exact h
          have C4 : ∀ d os, Calls Try.prog 15 #[.agg #[.int .i64 D.sum, .int .i64 D.design, .int .i64 D.first, .slice A D.nc c, .slice P.xw D.nw P.zw, .slice P.xh D.nh P.zh, .slice P.xd D.nd P.zd, .slice P.xi D.ni P.zi, .slice none 0 0, .slice none 0 0, .slice P.xp D.np P.zp], .int .i64 n] (Sort.grow (redrawn wr d) os) (Ret (Sort.grow (redrawn wr d) os) (.bool false)) := fun d os => by
            have h := thas_any (plainD D) (plainP P A c) n (Sort.grow (redrawn wr d) os) OG.out (SG.out.ext (below_regrown _ _ _)) HN.out
            rw [plain_has hck, hh] at h
            exact h
          clear SG OG
          refine wp_region_quiet_below (by kernel_rfl) (by kernel_rfl) ?_
          repeat (go_big_quiet_step (first | (with_reducible exact rg (C1 _ _)) | (with_reducible exact rg (C2 _ _)) | (with_reducible exact rg (C3 _ _)) | (with_reducible exact rg (C4 _ _))))
          refine wpQuiet_nil ?_
          intro _ hw'
          obtain ⟨⟨dq, osq⟩, hw''⟩ := hw'
          subst hw''
          have z5 : Ext wr (Sort.grow (redrawn wr dq) osq) := below_regrown _ _ _
          clear C1 C2 C3 C4 g0 y0 q0 u0 g1 y1 q1 u1 g2 y2 q2 u2 g3 y3 q3 u3 g4 y4 q4 u4 g5 y5 q5 u5 g6 y6 q6 u6 g7 y7 q7 u7 g8 y8 q8 u8 g9 y9 q9 u9 g10 y10 q10 u10
          generalize Sort.grow (redrawn wr dq) osq = w5 at *
          go_wp2_with fail
          go_ret
          exact ⟨rfl, W0.trans (XR.trans z5)⟩
        | true =>
          have C1 : ∀ d os, Calls Try.prog 13 #[.agg #[.int .i64 D.sum, .int .i64 D.design, .int .i64 D.first, .slice P.xc D.nc P.zc, .slice P.xw D.nw P.zw, .slice P.xh D.nh P.zh, .slice P.xd D.nd P.zd, .slice P.xi D.ni P.zi, .slice P.xs D.ns P.zs, .slice P.xk D.nk P.zk, .slice P.xp D.np P.zp]] (Sort.grow (redrawn wr d) os) (Ret (Sort.grow (redrawn wr d) os) (.bool true)) := fun d os => by
            have h := tcheck_any D P (Sort.grow (redrawn wr d) os) OK.out (SN.out _ (XR.trans (below_regrown _ _ _)))
            rw [hck] at h
            exact h
          have C2 : ∀ d os, Calls Try.prog 15 #[.agg #[.int .i64 D.sum, .int .i64 D.design, .int .i64 D.first, .slice P.xc D.nc P.zc, .slice P.xw D.nw P.zw, .slice P.xh D.nh P.zh, .slice P.xd D.nd P.zd, .slice P.xi D.ni P.zi, .slice P.xs D.ns P.zs, .slice P.xk D.nk P.zk, .slice P.xp D.np P.zp], .int .i64 n] (Sort.grow (redrawn wr d) os) (Ret (Sort.grow (redrawn wr d) os) (.bool true)) := fun d os => by
            have h := thas_any D P n (Sort.grow (redrawn wr d) os) OK.out (SN.out _ (XR.trans (below_regrown _ _ _))) HN.out
            rw [hh] at h
            exact h
          have C3 : ∀ d os, Calls Try.prog 13 #[.agg #[.int .i64 D.sum, .int .i64 D.design, .int .i64 D.first, .slice A D.nc c, .slice P.xw D.nw P.zw, .slice P.xh D.nh P.zh, .slice P.xd D.nd P.zd, .slice P.xi D.ni P.zi, .slice none 0 0, .slice none 0 0, .slice P.xp D.np P.zp]] (Sort.grow (redrawn wr d) os) (Ret (Sort.grow (redrawn wr d) os) (.bool true)) := fun d os => by
            have h := tcheck_any (plainD D) (plainP P A c) (Sort.grow (redrawn wr d) os) OG.out (SG.out.ext (below_regrown _ _ _))
            rw [plain_check hck] at h
            exact h
          have C4 : ∀ d os, Calls Try.prog 15 #[.agg #[.int .i64 D.sum, .int .i64 D.design, .int .i64 D.first, .slice A D.nc c, .slice P.xw D.nw P.zw, .slice P.xh D.nh P.zh, .slice P.xd D.nd P.zd, .slice P.xi D.ni P.zi, .slice none 0 0, .slice none 0 0, .slice P.xp D.np P.zp], .int .i64 n] (Sort.grow (redrawn wr d) os) (Ret (Sort.grow (redrawn wr d) os) (.bool true)) := fun d os => by
            have h := thas_any (plainD D) (plainP P A c) n (Sort.grow (redrawn wr d) os) OG.out (SG.out.ext (below_regrown _ _ _)) HN.out
            rw [plain_has hck, hh] at h
            exact h
          clear SG OG
          refine wp_region_quiet_below (by kernel_rfl) (by kernel_rfl) ?_
          repeat (go_big_quiet_step (first | (with_reducible exact rg (C1 _ _)) | (with_reducible exact rg (C2 _ _)) | (with_reducible exact rg (C3 _ _)) | (with_reducible exact rg (C4 _ _))))
          refine wpQuiet_nil ?_
          intro _ hw'
          obtain ⟨⟨dq, osq⟩, hw''⟩ := hw'
          subst hw''
          have z5 : Ext wr (Sort.grow (redrawn wr dq) osq) := below_regrown _ _ _
          clear C1 C2 C3 C4 g0 y0 q0 u0 g1 y1 q1 u1 g2 y2 q2 u2 g3 y3 q3 u3 g4 y4 q4 u4 g5 y5 q5 u5 g6 y6 q6 u6 g7 y7 q7 u7 g8 y8 q8 u8 g9 y9 q9 u9 g10 y10 q10 u10
          generalize Sort.grow (redrawn wr dq) osq = w5 at *
          go_wp2_with fail
          go_ret
          exact ⟨rfl, W0.trans (XR.trans z5)⟩

set_option maxRecDepth 100000 in
theorem lifted (os : Os) (started : os.Started) (H : Type) (enc : TypeId × Value → H) :
    ReturnsInHanded {} Try.checked os 7 .any (Rows.tfmPlainSpec.pre6 enc Try.prog Try.f7 [] false) (Rows.tfmPlainSpec.post enc Try.prog Try.f7 false true false false) := by
  refine law_lift (C := Try.checked) own started (by kernel_rfl) Try.func7 laidOut rfl rfl Try.underlying4 (by kernel_rfl) ?_
    (ChangeSpec.witness6 (enc := enc) (C := Try.checked) false ⟨#[], #[.agg #[.int .i64 0, .int .i64 0, .int .i64 0, .slice none 0 0, .slice none 0 0, .slice none 0 0, .slice none 0 0, .slice none 0 0, .slice none 0 0, .slice none 0 0, .slice none 0 0], .int .i64 0], []⟩ 8 (by kernel_rfl) (by kernel_rfl) (by kernel_rfl) (by kernel_rfl)) ?_
  · intro H ds h
    match ds, h with
    | [_, _], _ => rfl
  · intro W base args ds p hval hA hlt hwt hsh
    rw [Try.params7] at hA hval
    obtain ⟨v0, vs0, d0, ds0, p0, q0, hargs, rfl, rfl, h0, r0⟩ := trodAll_cons hA
    obtain ⟨v1, vs1, d1, ds1, p1, q1, rfl, rfl, rfl, h1, r1⟩ := trodAll_cons r0
    obtain ⟨rfl, rfl, rfl⟩ := trodAll_nil r1
    obtain rfl : args = #[v0, v1] := by cases args; simp_all
    obtain ⟨D0, P0, rfl, ok0, hs0⟩ := arg_font (hval 0 26 v0 rfl rfl) h0
    obtain ⟨a1, rfl, rfl, rfl, wf1⟩ := open_int Try.underlying3 (hval 1 3 v1 rfl rfl) h1
    exact walk D0 P0 ok0 a1 (bounds_i64 wf1) W hs0

theorem holds : Rows.TfmPlainSaid :=
  OpenClaim.holds_of_wide 7 Try.f7 rfl rfl rfl rfl rfl rfl rfl ⟨rfl, rfl, rfl, rfl, rfl⟩ rfl rfl rfl rfl rfl (by kernel_rfl) Try.func7 (by kernel_rfl)
    (of_decide_eq_true (by kernel_rfl)) (by unfold Func.isWrapper; first | (rw [if_pos (by decide +kernel)]; kernel_rfl) | (rw [if_neg (by decide +kernel)]; exact ⟨rfl, rfl⟩))
    (fun os started H enc _ => lifted os started H enc)
end TfmPlain
end Go.Proofs.Ytlbliidgmkipbaa

