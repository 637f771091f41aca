/- The font of layer 8's statements. -/
import Derived.Test.YtijhabhnhglhgaaGSame08
namespace Go.Proofs.Ytijhabhnhglhgaa
open Go.RowKit Go.Lib
namespace L08
open L07

def ligChr (i j : Nat) : Int := match j with
  | 0 => 1
  | 4 => if i = 69 ∨ i = 87 then 1 else 0
  | 5 => if i = 87 then 1 else 0
  | _ => 0
def ligStp (i j : Nat) : Int := if i = 0 then (match j with | 0 => 128 | 1 => 105 | 3 => 128 | _ => 0) else (match j with | 0 => 128 | 1 => 102 | 2 => 128 | _ => 0)
def ligD : FontD := ⟨0, 1048576, 33, 96, ligChr, 2, fun j => if j = 0 then 0 else 5, 1, fun _ => 0, 1, fun _ => 0, 1, fun _ => 0, 2, ligStp, 1, fun _ => -7, 0, fun _ => 0⟩
def chrRow8 (i : Nat) : List Value := (List.range 6).map fun j => .int .i64 (ligChr i j)
def chrRows8 (n : Nat) : List Value := (List.range n).flatMap chrRow8
theorem chrRows8_succ (n : Nat) : chrRows8 (n + 1) = chrRows8 n ++ chrRow8 n := by
  unfold chrRows8
  rw [List.range_succ, List.flatMap_append]
  simp
theorem chrRows8_length : ∀ n, (chrRows8 n).length = n * 6
  | 0 => rfl
  | n + 1 => by rw [chrRows8_succ, List.length_append, chrRows8_length n]; simp [chrRow8]; omega
theorem chrRows8_get : ∀ (n i j : Nat), i < n → j < 6 → (chrRows8 n)[i * 6 + j]? = some (.int .i64 (ligChr i j))
  | 0, _, _, h, _ => by omega
  | n + 1, i, j, h, hj => by
    rw [chrRows8_succ]
    by_cases e : i = n
    · subst e
      rw [List.getElem?_append_right (by rw [chrRows8_length]; omega), chrRows8_length, show i * 6 + j - i * 6 = j by omega]
      simp [chrRow8, hj]
    · rw [List.getElem?_append_left (by rw [chrRows8_length]; omega)]
      exact chrRows8_get n i j (by omega) hj
theorem chr_info8 : (Try.prog.info? 44).map (fun i => (i.zero, i.size, i.bytes)) = some (some (.agg #[.int .i64 0, .int .i64 0, .int .i64 0, .int .i64 0, .int .i64 0, .int .i64 0]), 6, 48) := by kernel_rfl
/-- A literal row of integers that is seen. -/
theorem seenF_lit {w : World} {b n : Nat} {t : TypeId} {cs : List Value} {f : Nat → Int} (h : Blk w b t cs) (hf : ∀ j, j < n → cs[j]? = some (.int .i64 (f j))) : SeenF w (some ⟨b, 0, none⟩) n f := fun j hj =>
  ⟨_, rfl, h.lt, by rw [add_zero_addr, h.cell j]; exact hf j hj⟩
/-- What a function answers whose result is a font's box. -/
theorem results_font0 {fn : Func} (h : fn.results = #[.cell 0 28]) (tmps : Array Value) (W : World) (R : Nat) (t : TypeId) (v0 v1 v2 v3 v4 v5 v6 v7 v8 v9 v10 : Value) (h2 : tmps[0]? = some (.pointer (some ⟨R, 0, none⟩)))
    (hb : Blk W R t [v0, v1, v2, v3, v4, v5, v6, v7, v8, v9, v10]) : (results fn tmps).run Try.prog W = .ok (.agg #[v0, v1, v2, v3, v4, v5, v6, v7, v8, v9, v10]) W := by
  have r0 : W.cell? ⟨R, 0, none⟩ = some v0 := hb.cell 0
  have r1 : W.cell? ⟨R, 1, none⟩ = some v1 := hb.cell 1
  have r2 : W.cell? ⟨R, 2, none⟩ = some v2 := hb.cell 2
  have r3 : W.cell? ⟨R, 3, none⟩ = some v3 := hb.cell 3
  have r4 : W.cell? ⟨R, 4, none⟩ = some v4 := hb.cell 4
  have r5 : W.cell? ⟨R, 5, none⟩ = some v5 := hb.cell 5
  have r6 : W.cell? ⟨R, 6, none⟩ = some v6 := hb.cell 6
  have r7 : W.cell? ⟨R, 7, none⟩ = some v7 := hb.cell 7
  have r8 : W.cell? ⟨R, 8, none⟩ = some v8 := hb.cell 8
  have r9 : W.cell? ⟨R, 9, none⟩ = some v9 := hb.cell 9
  have r10 : W.cell? ⟨R, 10, none⟩ = some v10 := hb.cell 10
  simp only [results, h]
  simp [go_sem, loadVar, asAddr, *]

/-- The font, seen. -/
def FontQ (D : FontD) (w : World) (e : Ending) (w' : World) : Prop := ∃ P, e = .returned (fontV D P) ∧ FontOk D P ∧ SeenFont w' D P ∧ Ext w w'

/-- A character is put behind. -/
theorem char_put {V wr : World} {bw bh bd bi bs bk bf k c N : Nat} {A : Option Addr} (kf : Blk wr bf 28 [.int .i64 0, .int .i64 1048576, .int .i64 33, .slice A k c, .slice (some ⟨bw, 0, none⟩) 2 2, .slice (some ⟨bh, 0, none⟩) 1 1, .slice (some ⟨bd, 0, none⟩) 1 1, .slice (some ⟨bi, 0, none⟩) 1 1, .slice (some ⟨bs, 0, none⟩) 2 2, .slice (some ⟨bk, 0, none⟩) 1 1, .slice none 0 0]) (ho : wr.ownsRow V.heap.size 44 6 (.slice A k c) k (chrRows8 k)) (X : Chg (fun p => p.block = bf) N V wr) (x0 x1 x2 x3 x4 x5 : Int)
    (hrow : chrRow8 k = [.int .i64 x0, .int .i64 x1, .int .i64 x2, .int .i64 x3, .int .i64 x4, .int .i64 x5]) (hk : k < 96) (hbf : bf < V.heap.size) (hN : N ≤ bf) :
    ∃ A' c' w', (Builtin.append_ #[24, 24] 24 #[.slice A k c, .slice (some ⟨wr.heap.size + 1, 0, none⟩) 1 1]).run Try.prog ((wr.alloc (.cells #[.int .i64 x0, .int .i64 x1, .int .i64 x2, .int .i64 x3, .int .i64 x4, .int .i64 x5] 44)).alloc (.cells #[.int .i64 x0, .int .i64 x1, .int .i64 x2, .int .i64 x3, .int .i64 x4, .int .i64 x5] 44)) = .ok (.slice A' (k + 1) c') w' ∧
      w'.cell? ⟨bf, 3, none⟩ = some (.slice A k c) ∧ w'.frozen? ⟨bf, 3, none⟩ = false ∧ Blk (w'.setCell ⟨bf, 3, none⟩ (.slice A' (k + 1) c')) bf 28 [.int .i64 0, .int .i64 1048576, .int .i64 33, .slice A' (k + 1) c', .slice (some ⟨bw, 0, none⟩) 2 2, .slice (some ⟨bh, 0, none⟩) 1 1, .slice (some ⟨bd, 0, none⟩) 1 1, .slice (some ⟨bi, 0, none⟩) 1 1, .slice (some ⟨bs, 0, none⟩) 2 2, .slice (some ⟨bk, 0, none⟩) 1 1, .slice none 0 0] ∧
      (w'.setCell ⟨bf, 3, none⟩ (.slice A' (k + 1) c')).ownsRow V.heap.size 44 6 (.slice A' (k + 1) c') (k + 1) (chrRows8 (k + 1)) ∧ Chg (fun p => p.block = bf) N V (w'.setCell ⟨bf, 3, none⟩ (.slice A' (k + 1) c')) := by
  have kn : Blk ((wr.alloc (.cells #[.int .i64 x0, .int .i64 x1, .int .i64 x2, .int .i64 x3, .int .i64 x4, .int .i64 x5] 44)).alloc (.cells #[.int .i64 x0, .int .i64 x1, .int .i64 x2, .int .i64 x3, .int .i64 x4, .int .i64 x5] 44)) (wr.heap.size + 1) 44 [.int .i64 x0, .int .i64 x1, .int .i64 x2, .int .i64 x3, .int .i64 x4, .int .i64 x5] := Blk.lit _ _ _ _ (by simp)
  have y : Ext wr ((wr.alloc (.cells #[.int .i64 x0, .int .i64 x1, .int .i64 x2, .int .i64 x3, .int .i64 x4, .int .i64 x5] 44)).alloc (.cells #[.int .i64 x0, .int .i64 x1, .int .i64 x2, .int .i64 x3, .int .i64 x4, .int .i64 x5] 44)) := ((Ext.refl _).alloc _).alloc _
  have X2 := X.trans (Chg.of_ext (T := fun p => p.block = bf) (N := N) y)
  obtain ⟨A', c', w', hr, ho', hg⟩ := run_putV (P := Try.prog) 24 24 44 _ 6 48 Try.underlying24 chr_info8 rfl (by omega) (by omega) ((ho.alloc _).alloc _) ⟨wr.heap.size + 1, 0, none⟩ 1 1 [.int .i64 x0, .int .i64 x1, .int .i64 x2, .int .i64 x3, .int .i64 x4, .int .i64 x5] rfl
    (fun j u hu => by rw [add_zero_addr, kn.cell j]; exact hu) (by simp [Value.oneCell']) (by omega) (Nat.le_trans X.size y.size)
  have hne : ∀ n, (Value.slice A k c).ownBlock = some n → V.heap.size ≤ n := fun n e => (ho.lt n e).1
  have kf2 := kf.ext y
  have kf3 : Blk w' bf 28 [.int .i64 0, .int .i64 1048576, .int .i64 33, .slice A k c, .slice (some ⟨bw, 0, none⟩) 2 2, .slice (some ⟨bh, 0, none⟩) 1 1, .slice (some ⟨bd, 0, none⟩) 1 1, .slice (some ⟨bi, 0, none⟩) 1 1, .slice (some ⟨bs, 0, none⟩) 2 2, .slice (some ⟨bk, 0, none⟩) 1 1, .slice none 0 0] := (hg.block bf kf2.lt (fun e => by have := hne bf e.symm; omega)).trans kf2
  refine ⟨A', c', w', hr, kf3.cell 3, kf3.free 3, kf3.set 3 _, ?_, (X2.grown hg hne (by omega)).trans (Chg.set _ _ _ _ rfl hN)⟩
  rw [chrRows8_succ, hrow]
  exact owns_set ho' (fun e => by have := (ho'.lt _ e).1; omega) _

set_option maxRecDepth 100000 in
set_option maxHeartbeats 2000000 in
theorem ligFont_any (w : World) : Calls Try.prog 27 #[] w (FontQ ligD w) := by
  go_enter Try.func27, Try.ntmps27
  go_wp2_with fail
  obtain ⟨V, hV⟩ : ∃ V, V = (((((((w.alloc (.cells #[.int .i64 0, .int .i64 0, .int .i64 0, .slice none 0 0, .slice none 0 0, .slice none 0 0, .slice none 0 0, .slice none 0 0, .slice none 0 0, .slice none 0 0, .slice none 0 0] 28)).alloc (.cells #[.int .i64 0, .int .i64 5] 3)).alloc (.cells #[.int .i64 0] 3)).alloc (.cells #[.int .i64 0] 3)).alloc (.cells #[.int .i64 0] 3)).alloc (.cells #[.int .i64 128, .int .i64 105, .int .i64 0, .int .i64 128, .int .i64 128, .int .i64 102, .int .i64 128, .int .i64 0] 53)).alloc (.cells #[.int .i64 (-7)] 3)).alloc
    (.cells #[.int .i64 0, .int .i64 1048576, .int .i64 33, .slice none 0 0, .slice (some ⟨w.heap.size + 1, 0, none⟩) 2 2, .slice (some ⟨w.heap.size + 1 + 1, 0, none⟩) 1 1, .slice (some ⟨w.heap.size + 1 + 1 + 1, 0, none⟩) 1 1, .slice (some ⟨w.heap.size + 1 + 1 + 1 + 1, 0, none⟩) 1 1, .slice (some ⟨w.heap.size + 1 + 1 + 1 + 1 + 1, 0, none⟩) 2 2, .slice (some ⟨w.heap.size + 1 + 1 + 1 + 1 + 1 + 1, 0, none⟩) 1 1, .slice none 0 0] 28) := ⟨_, rfl⟩
  rw [← hV]
  have kR : Blk V w.heap.size 28 [.int .i64 0, .int .i64 0, .int .i64 0, .slice none 0 0, .slice none 0 0, .slice none 0 0, .slice none 0 0, .slice none 0 0, .slice none 0 0, .slice none 0 0, .slice none 0 0] := by rw [hV]; exact (Blk.lit _ _ _ _ (by simp)).ext ((((((((Ext.refl _).alloc _).alloc _).alloc _).alloc _).alloc _).alloc _).alloc _)
  have kW : Blk V (w.heap.size + 1) 3 [.int .i64 0, .int .i64 5] := by rw [hV]; exact (Blk.lit _ _ _ _ (by simp)).ext (((((((Ext.refl _).alloc _).alloc _).alloc _).alloc _).alloc _).alloc _)
  have kH : Blk V (w.heap.size + 1 + 1) 3 [.int .i64 0] := by rw [hV]; exact (Blk.lit _ _ _ _ (by simp)).ext ((((((Ext.refl _).alloc _).alloc _).alloc _).alloc _).alloc _)
  have kD : Blk V (w.heap.size + 1 + 1 + 1) 3 [.int .i64 0] := by rw [hV]; exact (Blk.lit _ _ _ _ (by simp)).ext (((((Ext.refl _).alloc _).alloc _).alloc _).alloc _)
  have kI : Blk V (w.heap.size + 1 + 1 + 1 + 1) 3 [.int .i64 0] := by rw [hV]; exact (Blk.lit _ _ _ _ (by simp)).ext ((((Ext.refl _).alloc _).alloc _).alloc _)
  have kS : Blk V (w.heap.size + 1 + 1 + 1 + 1 + 1) 53 [.int .i64 128, .int .i64 105, .int .i64 0, .int .i64 128, .int .i64 128, .int .i64 102, .int .i64 128, .int .i64 0] := by rw [hV]; exact (Blk.lit _ _ _ _ (by simp)).ext (((Ext.refl _).alloc _).alloc _)
  have kK : Blk V (w.heap.size + 1 + 1 + 1 + 1 + 1 + 1) 3 [.int .i64 (-7)] := by rw [hV]; exact (Blk.lit _ _ _ _ (by simp)).ext ((Ext.refl _).alloc _)
  have kF : Blk V (w.heap.size + 1 + 1 + 1 + 1 + 1 + 1 + 1) 28 [.int .i64 0, .int .i64 1048576, .int .i64 33, .slice none 0 0, .slice (some ⟨w.heap.size + 1, 0, none⟩) 2 2, .slice (some ⟨w.heap.size + 1 + 1, 0, none⟩) 1 1, .slice (some ⟨w.heap.size + 1 + 1 + 1, 0, none⟩) 1 1, .slice (some ⟨w.heap.size + 1 + 1 + 1 + 1, 0, none⟩) 1 1, .slice (some ⟨w.heap.size + 1 + 1 + 1 + 1 + 1, 0, none⟩) 2 2, .slice (some ⟨w.heap.size + 1 + 1 + 1 + 1 + 1 + 1, 0, none⟩) 1 1, .slice none 0 0] := by rw [hV]; exact Blk.lit _ _ _ _ (by simp)
  have XV : Ext w V := by rw [hV]; exact ((((((((Ext.refl _).alloc _).alloc _).alloc _).alloc _).alloc _).alloc _).alloc _).alloc _
  have hz : V.heap.size = w.heap.size + 1 + 1 + 1 + 1 + 1 + 1 + 1 + 1 := by rw [hV]; simp
  clear hV
  generalize hw : w.heap.size + 1 = bw at *
  generalize hh : bw + 1 = bh at *
  generalize hd : bh + 1 = bd at *
  generalize hi : bd + 1 = bi at *
  generalize hs : bi + 1 = bs at *
  generalize hk : bs + 1 = bk at *
  generalize hf : bk + 1 = bf at *
  generalize hb0 : w.heap.size = b0 at *
  go_loopw [2] (fun i wr => ∃ (A : Option Addr) (k c : Nat), k ≤ 96 ∧ i = .int .i64 (33 + (k : Int)) ∧ Blk wr bf 28 [.int .i64 0, .int .i64 1048576, .int .i64 33, .slice A k c, .slice (some ⟨bw, 0, none⟩) 2 2, .slice (some ⟨bh, 0, none⟩) 1 1, .slice (some ⟨bd, 0, none⟩) 1 1, .slice (some ⟨bi, 0, none⟩) 1 1, .slice (some ⟨bs, 0, none⟩) 2 2, .slice (some ⟨bk, 0, none⟩) 1 1, .slice none 0 0] ∧ wr.ownsRow V.heap.size 44 6 (.slice A k c) k (chrRows8 k) ∧ Chg (fun p => p.block = bf) b0 V wr) (fun i _ => 200 - (intOf i).toNat)
  case atStart => exact ⟨none, 0, 0, by omega, rfl, kF, World.ownsRow_nil _ _ _ _, Chg.refl _ _ _⟩
  case round =>
    obtain ⟨A, k, c, hk96, rfl, kf, ho, X⟩ := hrel
    have t3 : wr.cell? ⟨bf, 3, none⟩ = some (.slice A k c) := kf.cell 3
    have hlt := kf.lt
    by_cases hlk : k < 96
    · have hcase : k = 69 ∨ k = 87 ∨ (k ≠ 69 ∧ k ≠ 87) := by omega
      rcases hcase with rfl | rfl | ⟨n1, n2⟩
      · obtain ⟨A', c', w', hr, g3, z3, kf', ho', X'⟩ := char_put kf ho X 1 0 0 0 1 0 rfl hlk (by omega) (by omega)
        have HO := Lib.hid ho'
        have HX := Lib.hid X'
        have HF := Lib.hid kf'
        clear kf ho X ho' X' kf'
        go_wp2_with (at_builtin; refine wpList_ran rfl _ _ rfl hr ?_)
        go_roundw
        case rel => exact ⟨A', 70, c', by omega, rfl, HF.out, HO.out, HX.out⟩
        case measure => simp [intOf]
      · obtain ⟨A', c', w', hr, g3, z3, kf', ho', X'⟩ := char_put kf ho X 1 0 0 0 1 1 rfl hlk (by omega) (by omega)
        have HO := Lib.hid ho'
        have HX := Lib.hid X'
        have HF := Lib.hid kf'
        clear kf ho X ho' X' kf'
        go_wp2_with (at_builtin; refine wpList_ran rfl _ _ rfl hr ?_)
        go_roundw
        case rel => exact ⟨A', 88, c', by omega, rfl, HF.out, HO.out, HX.out⟩
        case measure => simp [intOf]
      · obtain ⟨A', c', w', hr, g3, z3, kf', ho', X'⟩ := char_put kf ho X 1 0 0 0 0 0 (by simp [chrRow8, ligChr, List.range_succ, n1, n2]) hlk (by omega) (by omega)
        have HO := Lib.hid ho'
        have HX := Lib.hid X'
        have HF := Lib.hid kf'
        have i1 : ((33 + (k : Int)) == 102) = false := by simp; omega
        have i2 : ((33 + (k : Int)) == 120) = false := by simp; omega
        have i3 : (33 + (k : Int)) ≤ 128 := by omega
        clear kf ho X ho' X' kf'
        go_wp2_with (at_builtin; refine wpList_ran rfl _ _ rfl hr ?_)
        go_roundw
        case rel => exact ⟨A', k + 1, c', by omega, by simp; omega, HF.out, HO.out, HX.out⟩
        case measure => simp [intOf]; omega
    · obtain rfl : k = 96 := by omega
      have hget := chrRows8_get 96
      generalize chrRows8 96 = rows at *
      have HGET := Lib.hid hget
      clear hget
      have kR2 : Blk wr b0 28 [.int .i64 0, .int .i64 0, .int .i64 0, .slice none 0 0, .slice none 0 0, .slice none 0 0, .slice none 0 0, .slice none 0 0, .slice none 0 0, .slice none 0 0, .slice none 0 0] := X.blk b0 _ _ _ (fun o h => by have h : b0 = bf := h; omega) kR
      have f0 : wr.cell? ⟨bf, 0, none⟩ = some (.int .i64 0) := kf.cell 0
      have f1 : wr.cell? ⟨bf, 1, none⟩ = some (.int .i64 1048576) := kf.cell 1
      have f2 : wr.cell? ⟨bf, 2, none⟩ = some (.int .i64 33) := kf.cell 2
      have f3 : wr.cell? ⟨bf, 3, none⟩ = some (.slice A 96 c) := kf.cell 3
      have f4 : wr.cell? ⟨bf, 4, none⟩ = some (.slice (some ⟨bw, 0, none⟩) 2 2) := kf.cell 4
      have f5 : wr.cell? ⟨bf, 5, none⟩ = some (.slice (some ⟨bh, 0, none⟩) 1 1) := kf.cell 5
      have f6 : wr.cell? ⟨bf, 6, none⟩ = some (.slice (some ⟨bd, 0, none⟩) 1 1) := kf.cell 6
      have f7 : wr.cell? ⟨bf, 7, none⟩ = some (.slice (some ⟨bi, 0, none⟩) 1 1) := kf.cell 7
      have f8 : wr.cell? ⟨bf, 8, none⟩ = some (.slice (some ⟨bs, 0, none⟩) 2 2) := kf.cell 8
      have f9 : wr.cell? ⟨bf, 9, none⟩ = some (.slice (some ⟨bk, 0, none⟩) 1 1) := kf.cell 9
      have f10 : wr.cell? ⟨bf, 10, none⟩ = some (.slice none 0 0) := kf.cell 10
      have r0 : wr.cell? ⟨b0, 0, none⟩ = some (.int .i64 0) := kR2.cell 0
      have z0 := kR2.free 0
      have r1 : wr.cell? ⟨b0, 1, none⟩ = some (.int .i64 0) := kR2.cell 1
      have z1 := kR2.free 1
      have r2 : wr.cell? ⟨b0, 2, none⟩ = some (.int .i64 0) := kR2.cell 2
      have z2 := kR2.free 2
      have r3 : wr.cell? ⟨b0, 3, none⟩ = some (.slice none 0 0) := kR2.cell 3
      have z3 := kR2.free 3
      have r4 : wr.cell? ⟨b0, 4, none⟩ = some (.slice none 0 0) := kR2.cell 4
      have z4 := kR2.free 4
      have r5 : wr.cell? ⟨b0, 5, none⟩ = some (.slice none 0 0) := kR2.cell 5
      have z5 := kR2.free 5
      have r6 : wr.cell? ⟨b0, 6, none⟩ = some (.slice none 0 0) := kR2.cell 6
      have z6 := kR2.free 6
      have r7 : wr.cell? ⟨b0, 7, none⟩ = some (.slice none 0 0) := kR2.cell 7
      have z7 := kR2.free 7
      have r8 : wr.cell? ⟨b0, 8, none⟩ = some (.slice none 0 0) := kR2.cell 8
      have z8 := kR2.free 8
      have r9 : wr.cell? ⟨b0, 9, none⟩ = some (.slice none 0 0) := kR2.cell 9
      have z9 := kR2.free 9
      have r10 : wr.cell? ⟨b0, 10, none⟩ = some (.slice none 0 0) := kR2.cell 10
      have z10 := kR2.free 10
      have hob : (Value.slice A 96 c).ownBlock ≠ some b0 := fun e => by have := (ho.lt _ e).1; omega
      have X1 : Chg (fun p => p.block = bf ∨ p.block = b0) b0 V wr := X.wide (fun p h => .inl h) (Nat.le_refl _)
      have hb := (((((((((((kR2.set 0 (.int .i64 0)).set 1 (.int .i64 1048576)).set 2 (.int .i64 33)).set 3 (.slice A 96 c)).set 4 (.slice (some ⟨bw, 0, none⟩) 2 2)).set 5 (.slice (some ⟨bh, 0, none⟩) 1 1)).set 6 (.slice (some ⟨bd, 0, none⟩) 1 1)).set 7 (.slice (some ⟨bi, 0, none⟩) 1 1)).set 8 (.slice (some ⟨bs, 0, none⟩) 2 2)).set 9 (.slice (some ⟨bk, 0, none⟩) 1 1)).set 10 (.slice none 0 0))
      simp only [List.set_cons_zero, List.set_cons_succ] at hb
      have HB := Lib.hid hb
      clear hb
      have HO := Lib.hid (owns_set (b := b0) (i := 10) (owns_set (b := b0) (i := 9) (owns_set (b := b0) (i := 8) (owns_set (b := b0) (i := 7) (owns_set (b := b0) (i := 6) (owns_set (b := b0) (i := 5) (owns_set (b := b0) (i := 4) (owns_set (b := b0) (i := 3) (owns_set (b := b0) (i := 2) (owns_set (b := b0) (i := 1) (owns_set (b := b0) (i := 0) ho hob (.int .i64 0)) hob (.int .i64 1048576)) hob (.int .i64 33)) hob (.slice A 96 c)) hob (.slice (some ⟨bw, 0, none⟩) 2 2)) hob (.slice (some ⟨bh, 0, none⟩) 1 1)) hob (.slice (some ⟨bd, 0, none⟩) 1 1)) hob (.slice (some ⟨bi, 0, none⟩) 1 1)) hob (.slice (some ⟨bs, 0, none⟩) 2 2)) hob (.slice (some ⟨bk, 0, none⟩) 1 1)) hob (.slice none 0 0))
      have HC := Lib.hid (((((((((((X1.trans (Chg.set _ b0 0 (.int .i64 0) (.inr rfl) (Nat.le_refl _))).trans (Chg.set _ b0 1 (.int .i64 1048576) (.inr rfl) (Nat.le_refl _))).trans (Chg.set _ b0 2 (.int .i64 33) (.inr rfl) (Nat.le_refl _))).trans (Chg.set _ b0 3 (.slice A 96 c) (.inr rfl) (Nat.le_refl _))).trans (Chg.set _ b0 4 (.slice (some ⟨bw, 0, none⟩) 2 2) (.inr rfl) (Nat.le_refl _))).trans (Chg.set _ b0 5 (.slice (some ⟨bh, 0, none⟩) 1 1) (.inr rfl) (Nat.le_refl _))).trans (Chg.set _ b0 6 (.slice (some ⟨bd, 0, none⟩) 1 1) (.inr rfl) (Nat.le_refl _))).trans (Chg.set _ b0 7 (.slice (some ⟨bi, 0, none⟩) 1 1) (.inr rfl) (Nat.le_refl _))).trans (Chg.set _ b0 8 (.slice (some ⟨bs, 0, none⟩) 2 2) (.inr rfl) (Nat.le_refl _))).trans (Chg.set _ b0 9 (.slice (some ⟨bk, 0, none⟩) 1 1) (.inr rfl) (Nat.le_refl _))).trans (Chg.set _ b0 10 (.slice none 0 0) (.inr rfl) (Nat.le_refl _)))
      clear kR2 ho X1 X kf hob
      go_wp2_with fail
      refine bodyPost_ret (results_font0 rfl _ _ b0 28 (.int .i64 0) (.int .i64 1048576) (.int .i64 33) (.slice A 96 c) (.slice (some ⟨bw, 0, none⟩) 2 2) (.slice (some ⟨bh, 0, none⟩) 1 1) (.slice (some ⟨bd, 0, none⟩) 1 1) (.slice (some ⟨bi, 0, none⟩) 1 1) (.slice (some ⟨bs, 0, none⟩) 2 2) (.slice (some ⟨bk, 0, none⟩) 1 1) (.slice none 0 0) rfl ?_) rfl ?_
      · exact HB.out
      have C := HC.out
      obtain ⟨A', c', e', h1, h2, h3⟩ := own_slice HO.out
      cases e'
      have nb : ∀ b o, b < V.heap.size → b ≠ bf → b ≠ b0 → ¬ (fun p : Addr => p.block = bf ∨ p.block = b0) ⟨b, o, none⟩ := fun b o _ h1 h2 h => h.elim (fun e => h1 e) (fun e => h2 e)
      refine ⟨⟨A, c, some ⟨bw, 0, none⟩, 2, some ⟨bh, 0, none⟩, 1, some ⟨bd, 0, none⟩, 1, some ⟨bi, 0, none⟩, 1, some ⟨bs, 0, none⟩, 2, some ⟨bk, 0, none⟩, 1, none, 0⟩, rfl, ?_, ?_, ?_⟩
      · have hchr : ∀ i j, Wide (ligChr i j) := fun i j => by unfold ligChr Wide; split <;> (try split) <;> omega
        have hstp : ∀ i j, Wide (ligStp i j) := fun i j => by unfold ligStp Wide; split <;> split <;> omega
        refine ⟨?_, ?_, ?_, fun i j _ _ => hchr i j, fun j => ?_, fun j => ?_, fun j => ?_, fun j => ?_, fun i j _ _ => hstp i j, fun j => ?_, fun j => ?_, ⟨h1, h2⟩, ?_, ?_, ?_, ?_, ?_, ?_, ?_⟩
        all_goals first | (show Wide _; simp only [ligD, Wide]; first | omega | (split <;> omega)) | (simp [ligD, maxLen])
      · refine ⟨?_, ?_, ?_, ?_, ?_, ?_, ?_, ?_⟩
        · intro i hi j hj
          exact h3 _ _ (HGET.out i j hi hj)
        · exact seenF_lit (n := 2) (C.blk bw _ _ _ (fun o => nb bw o (by omega) (by omega) (by omega)) kW) (fun j hj => by obtain rfl | rfl : j = 0 ∨ j = 1 := (by omega) <;> rfl)
        · exact seenF_lit (n := 1) (C.blk bh _ _ _ (fun o => nb bh o (by omega) (by omega) (by omega)) kH) (fun j hj => by obtain rfl : j = 0 := (by omega); rfl)
        · exact seenF_lit (n := 1) (C.blk bd _ _ _ (fun o => nb bd o (by omega) (by omega) (by omega)) kD) (fun j hj => by obtain rfl : j = 0 := (by omega); rfl)
        · exact seenF_lit (n := 1) (C.blk bi _ _ _ (fun o => nb bi o (by omega) (by omega) (by omega)) kI) (fun j hj => by obtain rfl : j = 0 := (by omega); rfl)
        · have k8 : Blk _ bs 53 _ := C.blk bs _ _ _ (fun o => nb bs o (by omega) (by omega) (by omega)) kS
          intro i hi j hj
          refine ⟨_, rfl, k8.lt, ?_⟩
          rw [add_zero_addr, k8.cell]
          have hi : i < 2 := hi
          obtain rfl | rfl : i = 0 ∨ i = 1 := by omega
          · obtain rfl | rfl | rfl | rfl : j = 0 ∨ j = 1 ∨ j = 2 ∨ j = 3 := by omega
            all_goals rfl
          · obtain rfl | rfl | rfl | rfl : j = 0 ∨ j = 1 ∨ j = 2 ∨ j = 3 := by omega
            all_goals rfl
        · exact seenF_lit (n := 1) (C.blk bk _ _ _ (fun o => nb bk o (by omega) (by omega) (by omega)) kK) (fun j hj => by obtain rfl : j = 0 := (by omega); rfl)
        · exact SeenF.none
      · exact C.old w (by omega) XV
end L08
end Go.Proofs.Ytijhabhnhglhgaa

