/- The document's Read of layer 7: its walk. -/
import Derived.Test.YtggedodfkjdegaaRefReadD07
import Derived.Test.YtggedodfkjdegaaRefWriteB07
import Derived.StillTailTactics
import Derived.Deep.RegionHeld3
import Derived.Deep.DeepCutAuto
namespace Go.Proofs.Ytggedodfkjdegaa
open Go.RowKit
namespace L07
open L06

/-- The twelve numbers, of which k are read. -/
def hV (l : List UInt8) (k : Nat) : List Value := (List.range 12).map fun j => .int .i64 (if j < k then half l j else 0)
theorem hV_set (l : List UInt8) (k : Nat) (_ : k < 12) : (hV l k).set k (.int .i64 (half l k)) = hV l (k + 1) := by
  apply List.ext_getElem
  · simp [hV]
  · intro i h1 h2
    rw [List.getElem_set]
    simp only [hV, List.getElem_map, List.getElem_range]
    split
    · rename_i e; subst e; rw [if_pos (Nat.lt_succ_self _)]
    · rename_i e
      by_cases hi : i < k
      · rw [if_pos hi, if_pos (by omega)]
      · rw [if_neg hi, if_neg (by omega)]
theorem hV_get (l : List UInt8) (k j : Nat) (h : j < 12) : (hV l k)[j]? = some (.int .i64 (if j < k then half l j else 0)) := by
  simp [hV, h]

set_option maxRecDepth 100000 in
set_option maxHeartbeats 16000000 in
theorem rread_any (A : Option Addr) (l : List UInt8) (c : Nat) (w : World) (hb : SeenB w A l) (hc : l.length ≤ c) (hcm : c ≤ 9223372036854775807) (hl : l.length ≤ 100000) :
    Calls Try.prog 6 #[.slice A l.length c] w (ReadC w l) := by
  obtain ⟨V, hV⟩ : ∃ V, V = w.alloc (.cells #[.int .i64 0, .int .i64 0, .int .i64 0, .slice none 0 0, .slice none 0 0, .slice none 0 0, .slice none 0 0, .slice none 0 0, .slice none 0 0, .slice none 0 0, .slice none 0 0] 28) := ⟨_, rfl⟩
  have X0 : Ext w V := by rw [hV]; exact (Ext.refl w).alloc _
  have kR : Blk V w.heap.size 28 [.int .i64 0, .int .i64 0, .int .i64 0, .slice none 0 0, .slice none 0 0, .slice none 0 0, .slice none 0 0, .slice none 0 0, .slice none 0 0, .slice none 0 0, .slice none 0 0] := by rw [hV]; exact Blk.lit _ _ _ _ rfl
  have hRV : V.heap.size = w.heap.size + 1 := by rw [hV]; simp
  have HB := Lib.hid (fun w' (x : Ext w w') => hb.ext x)
  have HO := Lib.hid (fun h : FontOf l => heads_of h)
  obtain ⟨n, hn⟩ : ∃ n, n = l.length := ⟨_, rfl⟩
  rw [← hn] at HO hc hl ⊢
  have HN := Lib.hid hn
  have hn64 : (n : Int) ≤ 100000 := by omega
  have hn262 : (n : Int) ≤ 262140 := by omega
  clear hb hn
  go_enter Try.func6, Try.ntmps6
  go_upto_region 1 with (fail)
  rw [← hV]
  clear hV
  generalize hR : w.heap.size = R at *
  by_cases g1 : (n : Int) < 32
  · have NF : ¬ FontOf l := fun h => by have := HO.out h; omega
    have r0 : V.cell? ⟨R, 0, none⟩ = some (.int .i64 0) := kR.cell 0
    have z0 := kR.free 0
    have r1 : V.cell? ⟨R, 1, none⟩ = some (.int .i64 0) := kR.cell 1
    have z1 := kR.free 1
    have r2 : V.cell? ⟨R, 2, none⟩ = some (.int .i64 0) := kR.cell 2
    have z2 := kR.free 2
    have r3 : V.cell? ⟨R, 3, none⟩ = some (.slice none 0 0) := kR.cell 3
    have z3 := kR.free 3
    have r4 : V.cell? ⟨R, 4, none⟩ = some (.slice none 0 0) := kR.cell 4
    have z4 := kR.free 4
    have r5 : V.cell? ⟨R, 5, none⟩ = some (.slice none 0 0) := kR.cell 5
    have z5 := kR.free 5
    have r6 : V.cell? ⟨R, 6, none⟩ = some (.slice none 0 0) := kR.cell 6
    have z6 := kR.free 6
    have r7 : V.cell? ⟨R, 7, none⟩ = some (.slice none 0 0) := kR.cell 7
    have z7 := kR.free 7
    have r8 : V.cell? ⟨R, 8, none⟩ = some (.slice none 0 0) := kR.cell 8
    have z8 := kR.free 8
    have r9 : V.cell? ⟨R, 9, none⟩ = some (.slice none 0 0) := kR.cell 9
    have z9 := kR.free 9
    have r10 : V.cell? ⟨R, 10, none⟩ = some (.slice none 0 0) := kR.cell 10
    have z10 := kR.free 10
    clear HO HB
    go_wp2_with fail
    refine bodyPost_ret (results_font rfl _ _ R 28 (.int .i64 70) (.int .i64 0) (.int .i64 0) (.int .i64 0) (.slice none 0 0) (.slice none 0 0) (.slice none 0 0) (.slice none 0 0) (.slice none 0 0) (.slice none 0 0) (.slice none 0 0) (.slice none 0 0) rfl rfl (((((((((((kR.set 0 (.int .i64 0)).set 1 (.int .i64 0)).set 2 (.int .i64 0)).set 3 (.slice none 0 0)).set 4 (.slice none 0 0)).set 5 (.slice none 0 0)).set 6 (.slice none 0 0)).set 7 (.slice none 0 0)).set 8 (.slice none 0 0)).set 9 (.slice none 0 0)).set 10 (.slice none 0 0))) rfl ?_
    exact .inr ⟨rfl, NF, (((((((((((X0.setCell (by show _ ≤ R; omega) _).setCell (by show _ ≤ R; omega) _).setCell (by show _ ≤ R; omega) _).setCell (by show _ ≤ R; omega) _).setCell (by show _ ≤ R; omega) _).setCell (by show _ ≤ R; omega) _).setCell (by show _ ≤ R; omega) _).setCell (by show _ ≤ R; omega) _).setCell (by show _ ≤ R; omega) _).setCell (by show _ ≤ R; omega) _).setCell (by show _ ≤ R; omega) _)⟩
  by_cases g2 : n % 4 = 0
  case neg =>
    have NF : ¬ FontOf l := fun h => by have := HO.out h; omega
    have g3 : ((n : Int) % 4 != 0) = true := by simp; omega
    have g4 : ((n : Int) % 4 == 0) = false := by simp; omega
    have r0 : V.cell? ⟨R, 0, none⟩ = some (.int .i64 0) := kR.cell 0
    have z0 := kR.free 0
    have r1 : V.cell? ⟨R, 1, none⟩ = some (.int .i64 0) := kR.cell 1
    have z1 := kR.free 1
    have r2 : V.cell? ⟨R, 2, none⟩ = some (.int .i64 0) := kR.cell 2
    have z2 := kR.free 2
    have r3 : V.cell? ⟨R, 3, none⟩ = some (.slice none 0 0) := kR.cell 3
    have z3 := kR.free 3
    have r4 : V.cell? ⟨R, 4, none⟩ = some (.slice none 0 0) := kR.cell 4
    have z4 := kR.free 4
    have r5 : V.cell? ⟨R, 5, none⟩ = some (.slice none 0 0) := kR.cell 5
    have z5 := kR.free 5
    have r6 : V.cell? ⟨R, 6, none⟩ = some (.slice none 0 0) := kR.cell 6
    have z6 := kR.free 6
    have r7 : V.cell? ⟨R, 7, none⟩ = some (.slice none 0 0) := kR.cell 7
    have z7 := kR.free 7
    have r8 : V.cell? ⟨R, 8, none⟩ = some (.slice none 0 0) := kR.cell 8
    have z8 := kR.free 8
    have r9 : V.cell? ⟨R, 9, none⟩ = some (.slice none 0 0) := kR.cell 9
    have z9 := kR.free 9
    have r10 : V.cell? ⟨R, 10, none⟩ = some (.slice none 0 0) := kR.cell 10
    have z10 := kR.free 10
    clear HO HB
    go_wp2_with fail
    refine bodyPost_ret (results_font rfl _ _ R 28 (.int .i64 70) (.int .i64 0) (.int .i64 0) (.int .i64 0) (.slice none 0 0) (.slice none 0 0) (.slice none 0 0) (.slice none 0 0) (.slice none 0 0) (.slice none 0 0) (.slice none 0 0) (.slice none 0 0) rfl rfl (((((((((((kR.set 0 (.int .i64 0)).set 1 (.int .i64 0)).set 2 (.int .i64 0)).set 3 (.slice none 0 0)).set 4 (.slice none 0 0)).set 5 (.slice none 0 0)).set 6 (.slice none 0 0)).set 7 (.slice none 0 0)).set 8 (.slice none 0 0)).set 9 (.slice none 0 0)).set 10 (.slice none 0 0))) rfl ?_
    exact .inr ⟨rfl, NF, (((((((((((X0.setCell (by show _ ≤ R; omega) _).setCell (by show _ ≤ R; omega) _).setCell (by show _ ≤ R; omega) _).setCell (by show _ ≤ R; omega) _).setCell (by show _ ≤ R; omega) _).setCell (by show _ ≤ R; omega) _).setCell (by show _ ≤ R; omega) _).setCell (by show _ ≤ R; omega) _).setCell (by show _ ≤ R; omega) _).setCell (by show _ ≤ R; omega) _).setCell (by show _ ≤ R; omega) _)⟩
  obtain ⟨q, hq⟩ : ∃ q : Nat, n = 4 * q := ⟨n / 4, by omega⟩
  have em : (n : Int) % 4 = 0 := by omega
  have ed : (n : Int) / 4 = (q : Int) := by omega
  have ed' : (n : Int).tdiv 4 = (q : Int) := by rw [Int.tdiv_eq_ediv_of_nonneg (by omega)]; omega
  have HQ4 := Lib.hid hq
  have hnq : (n : Int) ≤ 4 * (q : Int) := by omega
  have hqn : 4 * (q : Int) ≤ (n : Int) := by omega
  clear hq
  obtain ⟨ad0, eA, l9, r9⟩ := (HB.out w (Ext.refl w)).get (k := 0) (by rw [← HN.out]; omega)
  subst eA
  clear l9 r9
  obtain ⟨W0, hW0⟩ : ∃ W0, W0 = V.alloc (.cells #[.int .i64 0, .int .i64 0, .int .i64 0, .int .i64 0, .int .i64 0, .int .i64 0, .int .i64 0, .int .i64 0, .int .i64 0, .int .i64 0, .int .i64 0, .int .i64 0] 41) := ⟨_, rfl⟩
  have kH : Blk W0 (R + 1) 41 (hV l 0) := by rw [hW0, ← hRV]; exact Blk.lit _ _ _ _ rfl
  have kR0 : Blk W0 R 28 [.int .i64 0, .int .i64 0, .int .i64 0, .slice none 0 0, .slice none 0 0, .slice none 0 0, .slice none 0 0, .slice none 0 0, .slice none 0 0, .slice none 0 0, .slice none 0 0] := by rw [hW0]; exact kR.ext ((Ext.refl _).alloc _)
  have X1 : Ext w W0 := by rw [hW0]; exact X0.alloc _
  go_upto_region 5 with (fail)
  rw [← hW0]
  clear hW0
  have HX := Lib.hid X1
  have HKR := Lib.hid kR0
  have HKH := Lib.hid kH
  clear X0 X1 kR kR0 kH hRV
  go_loopw [5] (fun i wr => ∃ k : Nat, i = .int .i64 k ∧ k ≤ 12 ∧ Hid (Ext w wr) ∧ Hid (Blk wr R 28 [.int .i64 0, .int .i64 0, .int .i64 0, .slice none 0 0, .slice none 0 0, .slice none 0 0, .slice none 0 0, .slice none 0 0, .slice none 0 0, .slice none 0 0, .slice none 0 0]) ∧ Hid (Blk wr (R + 1) 41 (hV l k))) (fun i _ => 12 - (intOf i).toNat)
  case atStart => exact ⟨0, rfl, by omega, HX, HKR, HKH⟩
  case round =>
    obtain ⟨k, rfl, hk, hx, hkr, hkh⟩ := hrel
    by_cases hlt : k < 12
    · have hk64 : (k : Int) < 12 := by omega
      have h32 : 32 ≤ n := by omega
      have h1' : 2 * k + 1 < l.length := by rw [← HN.out]; omega
      have h0' : 2 * k < l.length := by omega
      obtain ⟨ad, e', hb0, c0⟩ := (HB.out wr hx.out).get h0'
      cases e'
      obtain ⟨ad', e', hb1, c1⟩ := (HB.out wr hx.out).get h1'
      cases e'
      have HG := Lib.hid (half_get h1')
      obtain ⟨b0, e0⟩ : ∃ b0 : Nat, b0 = (l[2 * k]'h0').toNat := ⟨_, rfl⟩
      obtain ⟨b1, e1⟩ : ∃ b1 : Nat, b1 = (l[2 * k + 1]'h1').toNat := ⟨_, rfl⟩
      have l0 : b0 < 256 := by rw [e0]; exact UInt8.toNat_lt _
      have l1 : b1 < 256 := by rw [e1]; exact UInt8.toNat_lt _
      rw [← e0] at c0 HG
      rw [← e1] at c1 HG
      have xd : Ext wr wr.drew := (Ext.refl wr).drew
      have kd := hkh.out.ext xd
      have k9 := kd.set k (.int .i64 (half l k))
      rw [hV_set l k hlt, HG.out] at k9
      have q0 : wr.drew.cell? ⟨R + 1, k, none⟩ = some (.int .i64 0) := by rw [kd.cell k, hV_get l k k hlt, if_neg (by omega)]
      have f0 := kd.free k
      have K9 := Lib.hid k9
      have XD := Lib.hid (hx.out.trans xd)
      have KRD := Lib.hid (hkr.out.ext xd)
      clear k9 kd xd
      obtain ⟨m0, hm0⟩ : ∃ m0, m0 = 2 * k := ⟨_, rfl⟩
      obtain ⟨m1, hm1⟩ : ∃ m1, m1 = 2 * k + 1 := ⟨_, rfl⟩
      rw [← hm0] at c0
      rw [← hm1] at c1
      have w1 : IntKind.i64.wrap (2 * (k : Int)) = (m0 : Int) := by rw [IntWalk.i64_in _ (by omega)]; omega
      have w2 : IntKind.i64.wrap ((m0 : Int) + 1) = (m1 : Int) := by rw [IntWalk.i64_in _ (by omega)]; omega
      have w3 : IntKind.i64.wrap (256 * (b0 : Int)) = 256 * (b0 : Int) := IntWalk.i64_in _ (by omega)
      have w4 : IntKind.i64.wrap (256 * (b0 : Int) + (b1 : Int)) = 256 * (b0 : Int) + (b1 : Int) := IntWalk.i64_in _ (by omega)
      have i1 : m0 < n := by omega
      have i2 : m1 < n := by omega
      have HM := Lib.hid (And.intro hm0 hm1)
      clear hm0 hm1
      clear hb0 hb1 e0 e1
      go_wp2_with fail
      go_still_tail 17, (by as_aux_lemma => kernel_rfl)
      change wpList _ _ _ _ _ wr.drew
      generalize wr.drew = WD at *
      go_wp2_with fail
      go_roundw
      case rel => exact ⟨k + 1, by go_num, by omega, Lib.hid (XD.out.setCell (by show _ ≤ R + 1; omega) _), Lib.hid (KRD.out.far (by show R + 1 ≠ R; omega) _), K9⟩
      case measure => simp [intOf]; omega
    · obtain rfl : k = 12 := by omega
      have hcell : ∀ j, j < 12 → wr.cell? ⟨R + 1, j, none⟩ = some (.int .i64 (half l j)) := fun j hj => by rw [hkh.out.cell j, hV_get l 12 j hj, if_pos hj]
      have HOX := HO.out
      have c2 := hcell 2 (by omega)
      have v2 := half_le l 2
      have c3 := hcell 3 (by omega)
      have v3 := half_le l 3
      have c4 := hcell 4 (by omega)
      have v4 := half_le l 4
      have c5 := hcell 5 (by omega)
      have v5 := half_le l 5
      have c6 := hcell 6 (by omega)
      have v6 := half_le l 6
      have c7 := hcell 7 (by omega)
      have v7 := half_le l 7
      have c8 := hcell 8 (by omega)
      have v8 := half_le l 8
      have c9 := hcell 9 (by omega)
      have v9 := half_le l 9
      have c11 := hcell 11 (by omega)
      have v11 := half_le l 11
      obtain ⟨x2, hx2⟩ : ∃ x, half l 2 = x := ⟨_, rfl⟩
      rw [hx2] at c2 v2 HOX
      obtain ⟨x3, hx3⟩ : ∃ x, half l 3 = x := ⟨_, rfl⟩
      rw [hx3] at c3 v3 HOX
      obtain ⟨x4, hx4⟩ : ∃ x, half l 4 = x := ⟨_, rfl⟩
      rw [hx4] at c4 v4 HOX
      obtain ⟨x5, hx5⟩ : ∃ x, half l 5 = x := ⟨_, rfl⟩
      rw [hx5] at c5 v5 HOX
      obtain ⟨x6, hx6⟩ : ∃ x, half l 6 = x := ⟨_, rfl⟩
      rw [hx6] at c6 v6 HOX
      obtain ⟨x7, hx7⟩ : ∃ x, half l 7 = x := ⟨_, rfl⟩
      rw [hx7] at c7 v7 HOX
      obtain ⟨x8, hx8⟩ : ∃ x, half l 8 = x := ⟨_, rfl⟩
      rw [hx8] at c8 v8 HOX
      obtain ⟨x9, hx9⟩ : ∃ x, half l 9 = x := ⟨_, rfl⟩
      rw [hx9] at c9 v9 HOX
      obtain ⟨x11, hx11⟩ : ∃ x, half l 11 = x := ⟨_, rfl⟩
      rw [hx11] at c11 v11 HOX
      obtain ⟨a2, b2⟩ := v2
      obtain ⟨a3, b3⟩ := v3
      obtain ⟨a4, b4⟩ := v4
      obtain ⟨a5, b5⟩ := v5
      obtain ⟨a6, b6⟩ := v6
      obtain ⟨a7, b7⟩ := v7
      obtain ⟨a8, b8⟩ := v8
      obtain ⟨a9, b9⟩ := v9
      obtain ⟨a11, b11⟩ := v11
      have KH := hkh
      clear hcell hkh HO
      by_cases g4 : x3 - x2 + 1 < 0
      · have NF : ¬ FontOf l := fun h => by have := HOX h; omega
        have r0 : wr.cell? ⟨R, 0, none⟩ = some (.int .i64 0) := hkr.out.cell 0
        have z0 := hkr.out.free 0
        have r1 : wr.cell? ⟨R, 1, none⟩ = some (.int .i64 0) := hkr.out.cell 1
        have z1 := hkr.out.free 1
        have r2 : wr.cell? ⟨R, 2, none⟩ = some (.int .i64 0) := hkr.out.cell 2
        have z2 := hkr.out.free 2
        have r3 : wr.cell? ⟨R, 3, none⟩ = some (.slice none 0 0) := hkr.out.cell 3
        have z3 := hkr.out.free 3
        have r4 : wr.cell? ⟨R, 4, none⟩ = some (.slice none 0 0) := hkr.out.cell 4
        have z4 := hkr.out.free 4
        have r5 : wr.cell? ⟨R, 5, none⟩ = some (.slice none 0 0) := hkr.out.cell 5
        have z5 := hkr.out.free 5
        have r6 : wr.cell? ⟨R, 6, none⟩ = some (.slice none 0 0) := hkr.out.cell 6
        have z6 := hkr.out.free 6
        have r7 : wr.cell? ⟨R, 7, none⟩ = some (.slice none 0 0) := hkr.out.cell 7
        have z7 := hkr.out.free 7
        have r8 : wr.cell? ⟨R, 8, none⟩ = some (.slice none 0 0) := hkr.out.cell 8
        have z8 := hkr.out.free 8
        have r9 : wr.cell? ⟨R, 9, none⟩ = some (.slice none 0 0) := hkr.out.cell 9
        have z9 := hkr.out.free 9
        have r10 : wr.cell? ⟨R, 10, none⟩ = some (.slice none 0 0) := hkr.out.cell 10
        have z10 := hkr.out.free 10
        clear HOX HB HX HKR HKH
        go_wp2_with fail
        refine bodyPost_ret (results_font rfl _ _ R 28 (.int .i64 70) (.int .i64 0) (.int .i64 0) (.int .i64 0) (.slice none 0 0) (.slice none 0 0) (.slice none 0 0) (.slice none 0 0) (.slice none 0 0) (.slice none 0 0) (.slice none 0 0) (.slice none 0 0) rfl rfl (((((((((((hkr.out.set 0 (.int .i64 0)).set 1 (.int .i64 0)).set 2 (.int .i64 0)).set 3 (.slice none 0 0)).set 4 (.slice none 0 0)).set 5 (.slice none 0 0)).set 6 (.slice none 0 0)).set 7 (.slice none 0 0)).set 8 (.slice none 0 0)).set 9 (.slice none 0 0)).set 10 (.slice none 0 0))) rfl ?_
        exact .inr ⟨rfl, NF, (((((((((((hx.out.setCell (by show _ ≤ R; omega) _).setCell (by show _ ≤ R; omega) _).setCell (by show _ ≤ R; omega) _).setCell (by show _ ≤ R; omega) _).setCell (by show _ ≤ R; omega) _).setCell (by show _ ≤ R; omega) _).setCell (by show _ ≤ R; omega) _).setCell (by show _ ≤ R; omega) _).setCell (by show _ ≤ R; omega) _).setCell (by show _ ≤ R; omega) _).setCell (by show _ ≤ R; omega) _)⟩
      have NG := Lib.hid (fun h : FontOf l => (HOX h).2.2.2.2)
      clear HOX
      by_cases g5 : 8 + (x3 - x2 + 1) + x4 + x5 + x6 + x7 + x8 + x9 + x11 = (q : Int)
      case neg =>
        have NF : ¬ FontOf l := fun h => by have := NG.out h; omega
        have g6 : (8 + (x3 - x2 + 1) + x4 + x5 + x6 + x7 + x8 + x9 + x11 == (q : Int)) = false := by simpa using g5
        have g7 : (8 + (x3 - x2 + 1) + x4 + x5 + x6 + x7 + x8 + x9 + x11 != (q : Int)) = true := by simpa using g5
        have r0 : wr.cell? ⟨R, 0, none⟩ = some (.int .i64 0) := hkr.out.cell 0
        have z0 := hkr.out.free 0
        have r1 : wr.cell? ⟨R, 1, none⟩ = some (.int .i64 0) := hkr.out.cell 1
        have z1 := hkr.out.free 1
        have r2 : wr.cell? ⟨R, 2, none⟩ = some (.int .i64 0) := hkr.out.cell 2
        have z2 := hkr.out.free 2
        have r3 : wr.cell? ⟨R, 3, none⟩ = some (.slice none 0 0) := hkr.out.cell 3
        have z3 := hkr.out.free 3
        have r4 : wr.cell? ⟨R, 4, none⟩ = some (.slice none 0 0) := hkr.out.cell 4
        have z4 := hkr.out.free 4
        have r5 : wr.cell? ⟨R, 5, none⟩ = some (.slice none 0 0) := hkr.out.cell 5
        have z5 := hkr.out.free 5
        have r6 : wr.cell? ⟨R, 6, none⟩ = some (.slice none 0 0) := hkr.out.cell 6
        have z6 := hkr.out.free 6
        have r7 : wr.cell? ⟨R, 7, none⟩ = some (.slice none 0 0) := hkr.out.cell 7
        have z7 := hkr.out.free 7
        have r8 : wr.cell? ⟨R, 8, none⟩ = some (.slice none 0 0) := hkr.out.cell 8
        have z8 := hkr.out.free 8
        have r9 : wr.cell? ⟨R, 9, none⟩ = some (.slice none 0 0) := hkr.out.cell 9
        have z9 := hkr.out.free 9
        have r10 : wr.cell? ⟨R, 10, none⟩ = some (.slice none 0 0) := hkr.out.cell 10
        have z10 := hkr.out.free 10
        clear HB HX HKR HKH NG
        go_wp2_with fail
        refine bodyPost_ret (results_font rfl _ _ R 28 (.int .i64 70) (.int .i64 0) (.int .i64 0) (.int .i64 0) (.slice none 0 0) (.slice none 0 0) (.slice none 0 0) (.slice none 0 0) (.slice none 0 0) (.slice none 0 0) (.slice none 0 0) (.slice none 0 0) rfl rfl (((((((((((hkr.out.set 0 (.int .i64 0)).set 1 (.int .i64 0)).set 2 (.int .i64 0)).set 3 (.slice none 0 0)).set 4 (.slice none 0 0)).set 5 (.slice none 0 0)).set 6 (.slice none 0 0)).set 7 (.slice none 0 0)).set 8 (.slice none 0 0)).set 9 (.slice none 0 0)).set 10 (.slice none 0 0))) rfl ?_
        exact .inr ⟨rfl, NF, (((((((((((hx.out.setCell (by show _ ≤ R; omega) _).setCell (by show _ ≤ R; omega) _).setCell (by show _ ≤ R; omega) _).setCell (by show _ ≤ R; omega) _).setCell (by show _ ≤ R; omega) _).setCell (by show _ ≤ R; omega) _).setCell (by show _ ≤ R; omega) _).setCell (by show _ ≤ R; omega) _).setCell (by show _ ≤ R; omega) _).setCell (by show _ ≤ R; omega) _).setCell (by show _ ≤ R; omega) _)⟩
      have g6 : (8 + (x3 - x2 + 1) + x4 + x5 + x6 + x7 + x8 + x9 + x11 == (q : Int)) = true := by simpa using g5
      have g7 : (8 + (x3 - x2 + 1) + x4 + x5 + x6 + x7 + x8 + x9 + x11 != (q : Int)) = false := by simpa using g5
      have hsum0 := g5
      clear NG
      obtain ⟨nw, rfl⟩ : ∃ m : Nat, x4 = m := ⟨x4.toNat, by omega⟩
      obtain ⟨nh, rfl⟩ : ∃ m : Nat, x5 = m := ⟨x5.toNat, by omega⟩
      obtain ⟨nd, rfl⟩ : ∃ m : Nat, x6 = m := ⟨x6.toNat, by omega⟩
      obtain ⟨ni, rfl⟩ : ∃ m : Nat, x7 = m := ⟨x7.toNat, by omega⟩
      obtain ⟨ns, rfl⟩ : ∃ m : Nat, x8 = m := ⟨x8.toNat, by omega⟩
      obtain ⟨nk, rfl⟩ : ∃ m : Nat, x9 = m := ⟨x9.toNat, by omega⟩
      obtain ⟨np, rfl⟩ : ∃ m : Nat, x11 = m := ⟨x11.toNat, by omega⟩
      obtain ⟨nc, hnc⟩ : ∃ m : Nat, x3 - x2 + 1 = m := ⟨(x3 - x2 + 1).toNat, by omega⟩
      have hsum : q = 8 + nc + nw + nh + nd + ni + ns + nk + np := by omega
      have hq25 : q ≤ 25000 := by omega
      clear g4 g5 g6 g7 hsum0
      have g6 : (8 + (nc : Int) + nw + nh + nd + ni + ns + nk + np == (q : Int)) = true := by simp; omega
      have g7 : (8 + (nc : Int) + nw + nh + nd + ni + ns + nk + np != (q : Int)) = false := by simp; omega
      have HSUM := Lib.hid hsum
      have HNC := Lib.hid hnc
      clear hsum
      go_upto_region 11 with (fail)
      go_cut [7] from 15 to 97 (fun f wx => ∃ F, f = .pointer (some ⟨F, 0, none⟩) ∧ wr.heap.size ≤ F ∧ Hid (Ext wr wx) ∧ Hid (Blk wx F 28 [.int .i64 (fixA l 6), .int .i64 (fixA l 7), .int .i64 x2, .slice none 0 0, .slice none 0 0, .slice none 0 0, .slice none 0 0, .slice none 0 0, .slice none 0 0, .slice none 0 0, .slice none 0 0]))
      case first =>
        have F6 := Lib.hid (fun w' (x : Ext wr w') => rfix_any (some ad0) l c n 6 w' (HB.out w' (hx.out.trans x)) HN.out hc hcm (by rw [← HN.out]; exact hl) (by omega))
        have F7 := Lib.hid (fun w' (x : Ext wr w') => rfix_any (some ad0) l c n 7 w' (HB.out w' (hx.out.trans x)) HN.out hc hcm (by rw [← HN.out]; exact hl) (by omega))
        generalize fixA l 6 = y6 at *
        generalize fixA l 7 = y7 at *
        obtain ⟨WD, hWD⟩ : ∃ WD, WD = wr.drew := ⟨_, rfl⟩
        have XD : Ext wr WD := by rw [hWD]; exact (Ext.refl wr).drew
        refine wp_region_noPanic ?_
        refine wp_region_held_drew (S := (fun w' => w'.cell? ⟨R + 1, 2, none⟩ = some (.int .i64 x2))) (by as_aux_lemma => kernel_rfl) ((Ext.refl wr).drew.at c2) (fun h0 => ?_)
        rw [← hWD] at h0 ⊢
        clear hWD
        refine wpAnyH_take (i := 0) (oi := ?_) (v := ?_) ?_ (by as_aux_lemma => kernel_rfl) (by as_aux_lemma => kernel_rfl) (by as_aux_lemma => kernel_rfl) ?_ ?_ h0 ?_
        rotate_left 2
        · simp only [List.getElem?_toArray, List.getElem?_cons_zero]; rfl
        · exact fun _ _ _ h => h
        · refine Or.inl ⟨by rfl, ?_⟩
          intro w hSw
          (try dsimp only at hSw)
          go_simp
          (try with_reducible rfl)
        (try simp only [Act.put, List.setIfInBounds_toArray, List.set_cons_zero, List.set_cons_succ])
        refine wpAnyH_take (i := 2) (oi := ?_) (v := ?_) ?_ (by as_aux_lemma => kernel_rfl) (by as_aux_lemma => kernel_rfl) (by as_aux_lemma => kernel_rfl) ?_ ?_ h0 ?_
        rotate_left 2
        · simp only [List.getElem?_toArray, List.getElem?_cons_zero, List.getElem?_cons_succ]; rfl
        · exact fun _ _ _ h => h
        · refine Or.inl ⟨by rfl, ?_⟩
          intro w hSw
          (try dsimp only at hSw)
          go_simp
          (try with_reducible rfl)
        (try simp only [Act.put, List.setIfInBounds_toArray, List.set_cons_zero, List.set_cons_succ])
        refine wpAnyH_take (i := 4) (oi := ?_) (v := ?_) ?_ (by as_aux_lemma => kernel_rfl) (by as_aux_lemma => kernel_rfl) (by as_aux_lemma => kernel_rfl) ?_ ?_ h0 ?_
        rotate_left 2
        · simp only [List.getElem?_toArray, List.getElem?_cons_zero, List.getElem?_cons_succ]; rfl
        · exact fun _ _ _ h => h
        · refine Or.inl ⟨by rfl, ?_⟩
          intro w hSw
          (try dsimp only at hSw)
          go_simp
          (try with_reducible rfl)
        (try simp only [Act.put, List.setIfInBounds_toArray, List.set_cons_zero, List.set_cons_succ])
        refine wpAnyH_take (i := 5) (oi := ?_) (v := ?_) ?_ (by as_aux_lemma => kernel_rfl) (by as_aux_lemma => kernel_rfl) (by as_aux_lemma => kernel_rfl) ?_ ?_ h0 ?_
        rotate_left 2
        · simp only [List.getElem?_toArray, List.getElem?_cons_zero, List.getElem?_cons_succ]; rfl
        · exact fun _ _ _ h => h
        · refine Or.inl ⟨by rfl, ?_⟩
          intro w hSw
          (try dsimp only at hSw)
          go_simp
          (try with_reducible rfl)
        (try simp only [Act.put, List.setIfInBounds_toArray, List.set_cons_zero, List.set_cons_succ])
        refine wpAnyH_ready (rs := [1, 7]) (by as_aux_lemma => kernel_rfl) (by simp) ?_
        refine AllReadyH.cons (o := ?_) ?_ (fun K hK => ?_) ?_
        rotate_left
        · simp only [List.getElem?_toArray, List.getElem?_cons_zero, List.getElem?_cons_succ]; rfl
        · skip
          go_simp
          refine (F6.out _ XD).mono ?_
          rintro e wk1 ⟨rfl, zk1⟩
          have xk1 := XD.trans zk1
          refine hK.out _ _ (xk1.at c2) (fun h1' => ?_)
          clear hK K
          (try simp only [Act.put, List.setIfInBounds_toArray, List.set_cons_zero, List.set_cons_succ])
          refine wpAnyH_ready (rs := [3, 7]) (by as_aux_lemma => kernel_rfl) (by simp) ?_
          refine AllReadyH.cons (o := ?_) ?_ (fun K hK => ?_) ?_
          rotate_left
          · simp only [List.getElem?_toArray, List.getElem?_cons_zero, List.getElem?_cons_succ]; rfl
          · skip
            go_simp
            refine (F7.out _ xk1).mono ?_
            rintro e wk2 ⟨rfl, zk2⟩
            have xk2 := xk1.trans zk2
            refine hK.out _ _ (xk2.at c2) (fun h2' => ?_)
            clear hK K
            (try simp only [Act.put, List.setIfInBounds_toArray, List.set_cons_zero, List.set_cons_succ])
            refine wpAnyH_take (i := 6) (oi := ?_) (v := ?_) ?_ (by as_aux_lemma => kernel_rfl) (by as_aux_lemma => kernel_rfl) (by as_aux_lemma => kernel_rfl) ?_ ?_ h2' ?_
            rotate_left 2
            · simp only [List.getElem?_toArray, List.getElem?_cons_zero, List.getElem?_cons_succ]; rfl
            · exact fun _ _ _ h => h
            · refine Or.inl ⟨by rfl, ?_⟩
              intro w hSw
              (try dsimp only at hSw)
              go_simp
              (try with_reducible rfl)
            (try simp only [Act.put, List.setIfInBounds_toArray, List.set_cons_zero, List.set_cons_succ])
            refine wpAnyH_ready (rs := [7]) (by as_aux_lemma => kernel_rfl) (by simp) ?_
            refine AllReadyH.cons (o := ?_) ?_ (fun K hK => ?_) AllReadyH.nil
            rotate_left
            · simp only [List.getElem?_toArray, List.getElem?_cons_zero, List.getElem?_cons_succ]; rfl
            go_simp
            refine hK.out _ _ ((xk2.alloc _).at c2) (fun h3' => ?_)
            clear hK K
            (try simp only [Act.put, List.setIfInBounds_toArray, List.set_cons_zero, List.set_cons_succ])
            have hF := xk2.size
            have xk3 := xk2.alloc (.cells #[.int .i64 0, .int .i64 0, .int .i64 0, .slice none 0 0, .slice none 0 0, .slice none 0 0, .slice none 0 0, .slice none 0 0, .slice none 0 0, .slice none 0 0, .slice none 0 0] 28)
            have kF3 : Blk (wk2.alloc (.cells #[.int .i64 0, .int .i64 0, .int .i64 0, .slice none 0 0, .slice none 0 0, .slice none 0 0, .slice none 0 0, .slice none 0 0, .slice none 0 0, .slice none 0 0, .slice none 0 0] 28)) wk2.heap.size 28 [.int .i64 0, .int .i64 0, .int .i64 0, .slice none 0 0, .slice none 0 0, .slice none 0 0, .slice none 0 0, .slice none 0 0, .slice none 0 0, .slice none 0 0, .slice none 0 0] := Blk.lit _ _ _ _ rfl
            generalize wk2.alloc (.cells #[.int .i64 0, .int .i64 0, .int .i64 0, .slice none 0 0, .slice none 0 0, .slice none 0 0, .slice none 0 0, .slice none 0 0, .slice none 0 0, .slice none 0 0, .slice none 0 0] 28) = wk3 at *
            generalize wk2.heap.size = F at *
            refine wpAnyH_ready (rs := [8]) (by as_aux_lemma => kernel_rfl) (by simp) ?_
            refine AllReadyH.cons (o := ?_) ?_ (fun K hK => ?_) AllReadyH.nil
            rotate_left
            · simp only [List.getElem?_toArray, List.getElem?_cons_zero, List.getElem?_cons_succ]; rfl
            refine step_store7 28 _ _ rfl F #[.int .i64 y6, .int .i64 y7, .int .i64 x2, .slice none 0 0, .slice none 0 0, .slice none 0 0, .slice none 0 0, .slice none 0 0, .slice none 0 0, .slice none 0 0, .slice none 0 0] rfl rfl kF3.there (by as_aux_lemma => kernel_rfl) (by simp [Value.oneCell']) (by as_aux_lemma => kernel_rfl) ?_
            refine hK.out _ _ ((ext_setCells hF _ _ _ xk3).at c2) (fun h9 => ?_)
            clear hK K
            (try simp only [Act.put])
            refine wpAnyH_done (by as_aux_lemma => kernel_rfl) ?_ _
            refine NoPanic.normal ?_
            go_wp2_with fail
            go_meet
            exact ⟨F, rfl, hF, Lib.hid (ext_setCells hF _ _ _ xk3), Lib.hid (blk_setCells kF3 _ rfl)⟩
          refine AllReadyH.cons (o := ?_) ?_ (fun K hK => ?_) AllReadyH.nil
          rotate_left
          · simp only [List.getElem?_toArray, List.getElem?_cons_zero, List.getElem?_cons_succ]; rfl
          go_simp
          refine hK.out _ _ ((xk1.alloc _).at c2) (fun h4' => ?_)
          clear hK K
          (try simp only [Act.put, List.setIfInBounds_toArray, List.set_cons_zero, List.set_cons_succ])
          have hF := xk1.size
          have xk4 := xk1.alloc (.cells #[.int .i64 0, .int .i64 0, .int .i64 0, .slice none 0 0, .slice none 0 0, .slice none 0 0, .slice none 0 0, .slice none 0 0, .slice none 0 0, .slice none 0 0, .slice none 0 0] 28)
          have kF4 : Blk (wk1.alloc (.cells #[.int .i64 0, .int .i64 0, .int .i64 0, .slice none 0 0, .slice none 0 0, .slice none 0 0, .slice none 0 0, .slice none 0 0, .slice none 0 0, .slice none 0 0, .slice none 0 0] 28)) wk1.heap.size 28 [.int .i64 0, .int .i64 0, .int .i64 0, .slice none 0 0, .slice none 0 0, .slice none 0 0, .slice none 0 0, .slice none 0 0, .slice none 0 0, .slice none 0 0, .slice none 0 0] := Blk.lit _ _ _ _ rfl
          generalize wk1.alloc (.cells #[.int .i64 0, .int .i64 0, .int .i64 0, .slice none 0 0, .slice none 0 0, .slice none 0 0, .slice none 0 0, .slice none 0 0, .slice none 0 0, .slice none 0 0, .slice none 0 0] 28) = wk4 at *
          generalize wk1.heap.size = F at *
          refine wpAnyH_ready (rs := [3]) (by as_aux_lemma => kernel_rfl) (by simp) ?_
          refine AllReadyH.cons (o := ?_) ?_ (fun K hK => ?_) AllReadyH.nil
          rotate_left
          · simp only [List.getElem?_toArray, List.getElem?_cons_zero, List.getElem?_cons_succ]; rfl
          go_simp
          refine (F7.out _ xk4).mono ?_
          rintro e wk5 ⟨rfl, zk5⟩
          have xk5 := xk4.trans zk5
          have kF5 := kF4.ext zk5
          refine hK.out _ _ (xk5.at c2) (fun h5' => ?_)
          clear hK K
          (try simp only [Act.put, List.setIfInBounds_toArray, List.set_cons_zero, List.set_cons_succ])
          refine wpAnyH_take (i := 6) (oi := ?_) (v := ?_) ?_ (by as_aux_lemma => kernel_rfl) (by as_aux_lemma => kernel_rfl) (by as_aux_lemma => kernel_rfl) ?_ ?_ h5' ?_
          rotate_left 2
          · simp only [List.getElem?_toArray, List.getElem?_cons_zero, List.getElem?_cons_succ]; rfl
          · exact fun _ _ _ h => h
          · refine Or.inl ⟨by rfl, ?_⟩
            intro w hSw
            (try dsimp only at hSw)
            go_simp
            (try with_reducible rfl)
          (try simp only [Act.put, List.setIfInBounds_toArray, List.set_cons_zero, List.set_cons_succ])
          refine wpAnyH_ready (rs := [8]) (by as_aux_lemma => kernel_rfl) (by simp) ?_
          refine AllReadyH.cons (o := ?_) ?_ (fun K hK => ?_) AllReadyH.nil
          rotate_left
          · simp only [List.getElem?_toArray, List.getElem?_cons_zero, List.getElem?_cons_succ]; rfl
          refine step_store7 28 _ _ rfl F #[.int .i64 y6, .int .i64 y7, .int .i64 x2, .slice none 0 0, .slice none 0 0, .slice none 0 0, .slice none 0 0, .slice none 0 0, .slice none 0 0, .slice none 0 0, .slice none 0 0] rfl rfl kF5.there (by as_aux_lemma => kernel_rfl) (by simp [Value.oneCell']) (by as_aux_lemma => kernel_rfl) ?_
          refine hK.out _ _ ((ext_setCells hF _ _ _ xk5).at c2) (fun h9 => ?_)
          clear hK K
          (try simp only [Act.put])
          refine wpAnyH_done (by as_aux_lemma => kernel_rfl) ?_ _
          refine NoPanic.normal ?_
          go_wp2_with fail
          go_meet
          exact ⟨F, rfl, hF, Lib.hid (ext_setCells hF _ _ _ xk5), Lib.hid (blk_setCells kF5 _ rfl)⟩
        refine AllReadyH.cons (o := ?_) ?_ (fun K hK => ?_) AllReadyH.nil
        rotate_left
        · simp only [List.getElem?_toArray, List.getElem?_cons_zero, List.getElem?_cons_succ]; rfl
        go_simp
        refine hK.out _ _ ((XD.alloc _).at c2) (fun h6' => ?_)
        clear hK K
        (try simp only [Act.put, List.setIfInBounds_toArray, List.set_cons_zero, List.set_cons_succ])
        have hF := XD.size
        have xk6 := XD.alloc (.cells #[.int .i64 0, .int .i64 0, .int .i64 0, .slice none 0 0, .slice none 0 0, .slice none 0 0, .slice none 0 0, .slice none 0 0, .slice none 0 0, .slice none 0 0, .slice none 0 0] 28)
        have kF6 : Blk (WD.alloc (.cells #[.int .i64 0, .int .i64 0, .int .i64 0, .slice none 0 0, .slice none 0 0, .slice none 0 0, .slice none 0 0, .slice none 0 0, .slice none 0 0, .slice none 0 0, .slice none 0 0] 28)) WD.heap.size 28 [.int .i64 0, .int .i64 0, .int .i64 0, .slice none 0 0, .slice none 0 0, .slice none 0 0, .slice none 0 0, .slice none 0 0, .slice none 0 0, .slice none 0 0, .slice none 0 0] := Blk.lit _ _ _ _ rfl
        generalize WD.alloc (.cells #[.int .i64 0, .int .i64 0, .int .i64 0, .slice none 0 0, .slice none 0 0, .slice none 0 0, .slice none 0 0, .slice none 0 0, .slice none 0 0, .slice none 0 0, .slice none 0 0] 28) = wk6 at *
        generalize WD.heap.size = F at *
        refine wpAnyH_ready (rs := [1]) (by as_aux_lemma => kernel_rfl) (by simp) ?_
        refine AllReadyH.cons (o := ?_) ?_ (fun K hK => ?_) AllReadyH.nil
        rotate_left
        · simp only [List.getElem?_toArray, List.getElem?_cons_zero, List.getElem?_cons_succ]; rfl
        go_simp
        refine (F6.out _ xk6).mono ?_
        rintro e wk7 ⟨rfl, zk7⟩
        have xk7 := xk6.trans zk7
        have kF7 := kF6.ext zk7
        refine hK.out _ _ (xk7.at c2) (fun h7' => ?_)
        clear hK K
        (try simp only [Act.put, List.setIfInBounds_toArray, List.set_cons_zero, List.set_cons_succ])
        refine wpAnyH_ready (rs := [3]) (by as_aux_lemma => kernel_rfl) (by simp) ?_
        refine AllReadyH.cons (o := ?_) ?_ (fun K hK => ?_) AllReadyH.nil
        rotate_left
        · simp only [List.getElem?_toArray, List.getElem?_cons_zero, List.getElem?_cons_succ]; rfl
        go_simp
        refine (F7.out _ xk7).mono ?_
        rintro e wk8 ⟨rfl, zk8⟩
        have xk8 := xk7.trans zk8
        have kF8 := kF7.ext zk8
        refine hK.out _ _ (xk8.at c2) (fun h8' => ?_)
        clear hK K
        (try simp only [Act.put, List.setIfInBounds_toArray, List.set_cons_zero, List.set_cons_succ])
        refine wpAnyH_take (i := 6) (oi := ?_) (v := ?_) ?_ (by as_aux_lemma => kernel_rfl) (by as_aux_lemma => kernel_rfl) (by as_aux_lemma => kernel_rfl) ?_ ?_ h8' ?_
        rotate_left 2
        · simp only [List.getElem?_toArray, List.getElem?_cons_zero, List.getElem?_cons_succ]; rfl
        · exact fun _ _ _ h => h
        · refine Or.inl ⟨by rfl, ?_⟩
          intro w hSw
          (try dsimp only at hSw)
          go_simp
          (try with_reducible rfl)
        (try simp only [Act.put, List.setIfInBounds_toArray, List.set_cons_zero, List.set_cons_succ])
        refine wpAnyH_ready (rs := [8]) (by as_aux_lemma => kernel_rfl) (by simp) ?_
        refine AllReadyH.cons (o := ?_) ?_ (fun K hK => ?_) AllReadyH.nil
        rotate_left
        · simp only [List.getElem?_toArray, List.getElem?_cons_zero, List.getElem?_cons_succ]; rfl
        refine step_store7 28 _ _ rfl F #[.int .i64 y6, .int .i64 y7, .int .i64 x2, .slice none 0 0, .slice none 0 0, .slice none 0 0, .slice none 0 0, .slice none 0 0, .slice none 0 0, .slice none 0 0, .slice none 0 0] rfl rfl kF8.there (by as_aux_lemma => kernel_rfl) (by simp [Value.oneCell']) (by as_aux_lemma => kernel_rfl) ?_
        refine hK.out _ _ ((ext_setCells hF _ _ _ xk8).at c2) (fun h9 => ?_)
        clear hK K
        (try simp only [Act.put])
        refine wpAnyH_done (by as_aux_lemma => kernel_rfl) ?_ _
        refine NoPanic.normal ?_
        go_wp2_with fail
        go_meet
        exact ⟨F, rfl, hF, Lib.hid (ext_setCells hF _ _ _ xk8), Lib.hid (blk_setCells kF8 _ rfl)⟩
      case rest =>
        obtain ⟨F, rfl, hF, hX1, hB1⟩ := hcut
        have KHc := Lib.hid (KH.out.ext hX1.out)
        have KRc := Lib.hid (hkr.out.ext hX1.out)
        have hFR : R + 1 < F := Nat.lt_of_lt_of_le KH.out.lt hF
        have q0 : wc.cell? ⟨F, 0, none⟩ = some (.int .i64 (fixA l 6)) := hB1.out.cell 0
        have XW := Lib.hid (hx.out.trans hX1.out)
        have hyb := fix_le l 6
        clear hX1 c2 c3 c4 c5 c6 c7 c8 c9 c11 hx hkr KH HX HKR HKH
        obtain ⟨wo, hwo⟩ : ∃ wo : World, wo = wc := ⟨_, rfl⟩
        rw [← hwo] at q0 KHc KRc XW hB1 ⊢
        clear hwo
        go_upto_if 99 with (fail)
        go_cut [] from 97 to 104 (fun wx => Hid (Ext w wx) ∧ Hid (Blk wx F 28 [.int .i64 (word4 l 6), .int .i64 (fixA l 7), .int .i64 x2, .slice none 0 0, .slice none 0 0, .slice none 0 0, .slice none 0 0, .slice none 0 0, .slice none 0 0, .slice none 0 0, .slice none 0 0]) ∧ Hid (Blk wx (R + 1) 41 (hV l 12)) ∧ Hid (Blk wx R 28 [.int .i64 0, .int .i64 0, .int .i64 0, .slice none 0 0, .slice none 0 0, .slice none 0 0, .slice none 0 0, .slice none 0 0, .slice none 0 0, .slice none 0 0, .slice none 0 0]))
        case first =>
          have fz := hB1.out.free 0
          by_cases hy : fixA l 6 < 0
          · have e6 : fixA l 6 + 4294967296 = word4 l 6 := by
              have := word_le l 6
              unfold fixA down32 at hy ⊢
              split at hy <;> omega
            have B2 := Lib.hid (hB1.out.set 0 (.int .i64 (word4 l 6)))
            have KH2 := Lib.hid (KHc.out.far (p := ⟨F, 0, none⟩) (by show F ≠ R + 1; omega) (.int .i64 (word4 l 6)))
            have KR2 := Lib.hid (KRc.out.far (p := ⟨F, 0, none⟩) (by show F ≠ R; omega) (.int .i64 (word4 l 6)))
            have X2 := Lib.hid (XW.out.setCell (p := ⟨F, 0, none⟩) (by show _ ≤ F; omega) (.int .i64 (word4 l 6)))
            clear hB1 KHc KRc XW
            go_wp2_with fail
            go_meet
            exact ⟨X2, B2, KH2, KR2⟩
          · have e6 : fixA l 6 = word4 l 6 := by
              unfold fixA down32 at hy ⊢
              have := word_le l 6
              split at hy <;> split <;> omega
            rw [e6] at hB1
            go_wp2_with fail
            go_meet
            exact ⟨XW, hB1, KHc, KRc⟩
        case rest =>
        obtain ⟨hX2, hB2, KH2, KR2⟩ := hcut
        clear KHc KRc XW hB1 q0 hyb
        obtain ⟨D, hD⟩ : ∃ D, D = decD down32 l := ⟨_, rfl⟩
        have HD := Lib.hid hD
        have FR0 := Lib.hid (show Fr w wc F [.int .i64 (word4 l 6), .int .i64 (fixA l 7), .int .i64 x2, .slice none 0 0, .slice none 0 0, .slice none 0 0, .slice none 0 0, .slice none 0 0, .slice none 0 0, .slice none 0 0, .slice none 0 0] from ⟨hX2.out, hB2.out, by omega⟩)
        clear hX2 hB2 hD
        have HCH := Lib.hid (fun k => show (#[.int .i64 (byteA l (8 + k) 0), .int .i64 (byteA l (8 + k) 1 / 16), .int .i64 (byteA l (8 + k) 1 % 16), .int .i64 (byteA l (8 + k) 2 / 4), .int .i64 (byteA l (8 + k) 2 % 4), .int .i64 (byteA l (8 + k) 3)] : Array Value).toList = (List.range 6).map (fun j => .int .i64 (D.chr k j)) by rw [HD.out]; rfl)
        have hFc : F < wc.heap.size := FR0.out.box.lt
        go_wp2_with fail
        go_loopw [9] (fun i wr => ∃ (k : Nat) (AC : Option Addr) (cC : Nat), i = .int .i64 k ∧ k ≤ nc ∧ Hid (Fr w wr F [.int .i64 (word4 l 6), .int .i64 (fixA l 7), .int .i64 x2, .slice AC k cC, .slice none 0 0, .slice none 0 0, .slice none 0 0, .slice none 0 0, .slice none 0 0, .slice none 0 0, .slice none 0 0]) ∧ Hid (Kp (some F) wc wr) ∧ Hid (wr.ownsRow wc.heap.size 35 6 (.slice AC k cC) k (flatN 6 D.chr k))) (fun i _ => nc - (intOf i).toNat)
        case atStart => exact ⟨0, none, 0, rfl, Nat.zero_le _, FR0, Lib.hid (Kp.of_ext (Ext.refl _)), Lib.hid (World.ownsRow_nil _ _ _ _)⟩
        case round =>
          obtain ⟨k, AC, cC, rfl, hk, hfr, hkp, how⟩ := hrel
          by_cases hlt : k < nc
          · have hk64 : (k : Int) < (nc : Int) := by omega
            have hmn : 4 * (8 + k) + 3 < l.length := by rw [← HN.out]; have := HSUM.out; have := HQ4.out; omega
            obtain ⟨a0, e', _, d0⟩ := (HB.out w (Ext.refl w)).get (k := 4 * (8 + k)) (by omega)
            cases e'
            obtain ⟨a0, e', _, d1⟩ := (HB.out w (Ext.refl w)).get (k := 4 * (8 + k) + 1) (by omega)
            cases e'
            obtain ⟨a0, e', _, d2⟩ := (HB.out w (Ext.refl w)).get (k := 4 * (8 + k) + 2) (by omega)
            cases e'
            obtain ⟨a0, e', _, d3⟩ := (HB.out w (Ext.refl w)).get (k := 4 * (8 + k) + 3) (by omega)
            cases e'
            have g0 := byte_get (l := l) (k := 8 + k) (i := 0) (m := 4 * (8 + k)) rfl (by omega) (by omega)
            obtain ⟨y0, hy0⟩ : ∃ y : Nat, y = (l[4 * (8 + k)]'(by omega)).toNat := ⟨_, rfl⟩
            have z0 : y0 < 256 := by rw [hy0]; exact UInt8.toNat_lt _
            rw [← hy0] at d0 g0
            have g1 := byte_get (l := l) (k := 8 + k) (i := 1) (m := 4 * (8 + k) + 1) rfl (by omega) (by omega)
            obtain ⟨y1, hy1⟩ : ∃ y : Nat, y = (l[4 * (8 + k) + 1]'(by omega)).toNat := ⟨_, rfl⟩
            have z1 : y1 < 256 := by rw [hy1]; exact UInt8.toNat_lt _
            rw [← hy1] at d1 g1
            have g2 := byte_get (l := l) (k := 8 + k) (i := 2) (m := 4 * (8 + k) + 2) rfl (by omega) (by omega)
            obtain ⟨y2, hy2⟩ : ∃ y : Nat, y = (l[4 * (8 + k) + 2]'(by omega)).toNat := ⟨_, rfl⟩
            have z2 : y2 < 256 := by rw [hy2]; exact UInt8.toNat_lt _
            rw [← hy2] at d2 g2
            have g3 := byte_get (l := l) (k := 8 + k) (i := 3) (m := 4 * (8 + k) + 3) rfl (by omega) (by omega)
            obtain ⟨y3, hy3⟩ : ∃ y : Nat, y = (l[4 * (8 + k) + 3]'(by omega)).toNat := ⟨_, rfl⟩
            have z3 : y3 < 256 := by rw [hy3]; exact UInt8.toNat_lt _
            rw [← hy3] at d3 g3
            have HY := Lib.hid (HCH.out k)
            rw [g0, g1, g2, g3] at HY
            obtain ⟨m, hm⟩ : ∃ m, m = 4 * (8 + k) := ⟨_, rfl⟩
            rw [← hm] at d0 d1 d2 d3
            have hmb : m + 4 ≤ n := by rw [HN.out]; omega
            have W0 := byte_wrap z0
            have W1 := byte_wrap z1
            have W2 := byte_wrap z2
            have W3 := byte_wrap z3
            obtain ⟨T1, U1, V1⟩ := byte_by z1 16 (.inl rfl)
            obtain ⟨T2, U2, V2⟩ := byte_by z2 4 (.inr rfl)
            have E1 : (4 : Int) * ((8 : Int) + (k : Int)) = (m : Int) := by omega
            have hne : ¬ c = m := by omega
            have m64 : (m : Int) + 4 ≤ (n : Int) := by omega
            have m100 : (m : Int) ≤ 100000 := by omega
            have k25 : (k : Int) ≤ 25000 := by omega
            have HM := Lib.hid hm
            clear hm
            obtain ⟨am, ham⟩ : ∃ am, am = ad0.add m := ⟨_, rfl⟩
            have add_m : ∀ i, ad0.add (m + i) = am.add i := fun i => by rw [ham]; exact (Addr.add_add _ _ _).symm
            rw [← ham] at d0
            rw [add_m] at d1 d2 d3
            have HAM := Lib.hid ham
            clear ham
            go_upto_region 19 with (fail)
            rw [← HAM.out]
            clear hy0 hy1 hy2 hy3 g0 g1 g2 g3
            rw [Nat.add_sub_cancel_left]
            have SB := Lib.hid (fun w' (x : Ext w w') => show w'.cell? am = some (.int .u8 (y0 : Int)) ∧ w'.cell? ⟨am.block, am.off + 1, none⟩ = some (.int .u8 (y1 : Int)) ∧ w'.cell? ⟨am.block, am.off + 2, none⟩ = some (.int .u8 (y2 : Int)) ∧ w'.cell? ⟨am.block, am.off + 3, none⟩ = some (.int .u8 (y3 : Int)) from ⟨x.at d0, x.at d1, x.at d2, x.at d3⟩)
            obtain ⟨WD, hWD⟩ : ∃ WD, WD = wr.drew := ⟨_, rfl⟩
            have XD : Ext wr WD := by rw [hWD]; exact (Ext.refl wr).drew
            have frD := hfr.out.kept XD
            have p3 : WD.cell? ⟨F, 3, none⟩ = some (.slice AC k cC) := frD.box.cell 3
            obtain ⟨A3, c3, w3, r3, b3, x3, fr3, kp3, ow3⟩ := frD.app (kp_trans hkp.out (Kp.of_ext XD)) hFc 24 35 _ 6 48 (by as_aux_lemma => kernel_rfl) char_info7 rfl (by omega) (by omega) (OwnsRow.ext how.out XD) #[.int .i64 (y0 : Int), .int .i64 ((y1 : Int) / 16), .int .i64 ((y1 : Int) % 16), .int .i64 ((y2 : Int) / 4), .int .i64 ((y2 : Int) % 4), .int .i64 (y3 : Int)] HY.out (by omega) 3
            have g3 : w3.cell? ⟨F, 3, none⟩ = some (.slice AC k cC) := b3.cell 3
            have z3 := b3.free 3
            have xa := frD.x.alloc (.cells #[.int .i64 (y0 : Int), .int .i64 ((y1 : Int) / 16), .int .i64 ((y1 : Int) % 16), .int .i64 ((y2 : Int) / 4), .int .i64 ((y2 : Int) % 4), .int .i64 (y3 : Int)] 35)
            have p3a : (WD.alloc (.cells #[.int .i64 (y0 : Int), .int .i64 ((y1 : Int) / 16), .int .i64 ((y1 : Int) % 16), .int .i64 ((y2 : Int) / 4), .int .i64 ((y2 : Int) % 4), .int .i64 (y3 : Int)] 35)).cell? ⟨F, 3, none⟩ = some (.slice AC k cC) := ((Ext.refl WD).alloc _).at p3
            have xD := frD.x
            have x9 := fr3.x
            have FIN := Lib.hid (And.intro fr3 (And.intro kp3 ow3))
            have S0 := SB.out WD xD
            clear frD b3 fr3 kp3 ow3 hfr hkp how XD HY
            refine wp_region_noPanic ?_
            refine wp_region_held_drew (S := (fun w' => w'.cell? am = some (.int .u8 (y0 : Int)) ∧ w'.cell? ⟨am.block, am.off + 1, none⟩ = some (.int .u8 (y1 : Int)) ∧ w'.cell? ⟨am.block, am.off + 2, none⟩ = some (.int .u8 (y2 : Int)) ∧ w'.cell? ⟨am.block, am.off + 3, none⟩ = some (.int .u8 (y3 : Int)))) (by as_aux_lemma => kernel_rfl) (by rw [← hWD]; exact S0) (fun h0 => ?_)
            rw [← hWD] at h0 ⊢
            clear hWD S0
            refine wpAnyH_take (i := 0) (oi := ?_) (v := ?_) ?_ (by as_aux_lemma => kernel_rfl) (by as_aux_lemma => kernel_rfl) (by as_aux_lemma => kernel_rfl) ?_ ?_ h0 ?_
            rotate_left 2
            · simp only [List.getElem?_toArray, List.getElem?_cons_zero]; rfl
            · exact fun _ _ _ h => h
            · refine Or.inl ⟨by rfl, ?_⟩
              intro w hSw
              (try dsimp only at hSw)
              go_simp
              (try with_reducible rfl)
            (try simp only [Act.put, List.setIfInBounds_toArray, List.set_cons_zero, List.set_cons_succ])
            refine wpAnyH_take (i := 2) (oi := ?_) (v := ?_) ?_ (by as_aux_lemma => kernel_rfl) (by as_aux_lemma => kernel_rfl) (by as_aux_lemma => kernel_rfl) ?_ ?_ h0 ?_
            rotate_left 2
            · simp only [List.getElem?_toArray, List.getElem?_cons_zero, List.getElem?_cons_succ]; rfl
            · exact fun _ _ _ h => h
            · refine Or.inl ⟨by rfl, ?_⟩
              intro w hSw
              (try dsimp only at hSw)
              go_simp
              (try with_reducible rfl)
            (try simp only [Act.put, List.setIfInBounds_toArray, List.set_cons_zero, List.set_cons_succ])
            refine wpAnyH_take (i := 3) (oi := ?_) (v := ?_) ?_ (by as_aux_lemma => kernel_rfl) (by as_aux_lemma => kernel_rfl) (by as_aux_lemma => kernel_rfl) ?_ ?_ h0 ?_
            rotate_left 2
            · simp only [List.getElem?_toArray, List.getElem?_cons_zero, List.getElem?_cons_succ]; rfl
            · exact fun _ _ _ h => h
            · refine Or.inl ⟨by rfl, ?_⟩
              intro w hSw
              (try dsimp only at hSw)
              go_simp
              (try with_reducible rfl)
            (try simp only [Act.put, List.setIfInBounds_toArray, List.set_cons_zero, List.set_cons_succ])
            refine wpAnyH_take (i := 4) (oi := ?_) (v := ?_) ?_ (by as_aux_lemma => kernel_rfl) (by as_aux_lemma => kernel_rfl) (by as_aux_lemma => kernel_rfl) ?_ ?_ h0 ?_
            rotate_left 2
            · simp only [List.getElem?_toArray, List.getElem?_cons_zero, List.getElem?_cons_succ]; rfl
            · exact fun _ _ _ h => h
            · refine Or.inl ⟨by rfl, ?_⟩
              intro w hSw
              (try dsimp only at hSw)
              go_simp
              (try with_reducible rfl)
            (try simp only [Act.put, List.setIfInBounds_toArray, List.set_cons_zero, List.set_cons_succ])
            refine wpAnyH_take (i := 5) (oi := ?_) (v := ?_) ?_ (by as_aux_lemma => kernel_rfl) (by as_aux_lemma => kernel_rfl) (by as_aux_lemma => kernel_rfl) ?_ ?_ h0 ?_
            rotate_left 2
            · simp only [List.getElem?_toArray, List.getElem?_cons_zero, List.getElem?_cons_succ]; rfl
            · exact fun _ _ _ h => h
            · refine Or.inl ⟨by rfl, ?_⟩
              intro w hSw
              (try dsimp only at hSw)
              go_simp
              (try with_reducible rfl)
            (try simp only [Act.put, List.setIfInBounds_toArray, List.set_cons_zero, List.set_cons_succ])
            refine wpAnyH_take (i := 6) (oi := ?_) (v := ?_) ?_ (by as_aux_lemma => kernel_rfl) (by as_aux_lemma => kernel_rfl) (by as_aux_lemma => kernel_rfl) ?_ ?_ h0 ?_
            rotate_left 2
            · simp only [List.getElem?_toArray, List.getElem?_cons_zero, List.getElem?_cons_succ]; rfl
            · exact fun _ _ _ h => h
            · refine Or.inl ⟨by rfl, ?_⟩
              intro w hSw
              (try dsimp only at hSw)
              go_simp
              (try with_reducible rfl)
            (try simp only [Act.put, List.setIfInBounds_toArray, List.set_cons_zero, List.set_cons_succ])
            refine wpAnyH_take (i := 7) (oi := ?_) (v := ?_) ?_ (by as_aux_lemma => kernel_rfl) (by as_aux_lemma => kernel_rfl) (by as_aux_lemma => kernel_rfl) ?_ ?_ h0 ?_
            rotate_left 2
            · simp only [List.getElem?_toArray, List.getElem?_cons_zero, List.getElem?_cons_succ]; rfl
            · exact fun _ _ _ h => h
            · refine Or.inl ⟨by rfl, ?_⟩
              intro w hSw
              (try dsimp only at hSw)
              go_simp
              (try with_reducible rfl)
            (try simp only [Act.put, List.setIfInBounds_toArray, List.set_cons_zero, List.set_cons_succ])
            refine wpAnyH_take (i := 8) (oi := ?_) (v := ?_) ?_ (by as_aux_lemma => kernel_rfl) (by as_aux_lemma => kernel_rfl) (by as_aux_lemma => kernel_rfl) ?_ ?_ h0 ?_
            rotate_left 2
            · simp only [List.getElem?_toArray, List.getElem?_cons_zero, List.getElem?_cons_succ]; rfl
            · exact fun _ _ _ h => h
            · refine Or.inl ⟨by rfl, ?_⟩
              intro w hSw
              (try dsimp only at hSw)
              go_simp
              (try with_reducible rfl)
            (try simp only [Act.put, List.setIfInBounds_toArray, List.set_cons_zero, List.set_cons_succ])
            refine wpAnyH_take (i := 9) (oi := ?_) (v := ?_) ?_ (by as_aux_lemma => kernel_rfl) (by as_aux_lemma => kernel_rfl) (by as_aux_lemma => kernel_rfl) ?_ ?_ h0 ?_
            rotate_left 2
            · simp only [List.getElem?_toArray, List.getElem?_cons_zero, List.getElem?_cons_succ]; rfl
            · exact fun _ _ _ h => h
            · refine Or.inl ⟨by rfl, ?_⟩
              intro w hSw
              (try dsimp only at hSw)
              go_simp
              (try with_reducible rfl)
            (try simp only [Act.put, List.setIfInBounds_toArray, List.set_cons_zero, List.set_cons_succ])
            refine wpAnyH_take (i := 10) (oi := ?_) (v := ?_) ?_ (by as_aux_lemma => kernel_rfl) (by as_aux_lemma => kernel_rfl) (by as_aux_lemma => kernel_rfl) ?_ ?_ h0 ?_
            rotate_left 2
            · simp only [List.getElem?_toArray, List.getElem?_cons_zero, List.getElem?_cons_succ]; rfl
            · exact fun _ _ _ h => h
            · refine Or.inl ⟨by rfl, ?_⟩
              intro w hSw
              (try dsimp only at hSw)
              go_simp
              (try with_reducible rfl)
            (try simp only [Act.put, List.setIfInBounds_toArray, List.set_cons_zero, List.set_cons_succ])
            refine wpAnyH_take (i := 11) (oi := ?_) (v := ?_) ?_ (by as_aux_lemma => kernel_rfl) (by as_aux_lemma => kernel_rfl) (by as_aux_lemma => kernel_rfl) ?_ ?_ h0 ?_
            rotate_left 2
            · simp only [List.getElem?_toArray, List.getElem?_cons_zero, List.getElem?_cons_succ]; rfl
            · exact fun _ _ _ h => h
            · refine Or.inl ⟨by rfl, ?_⟩
              intro w hSw
              (try dsimp only at hSw)
              go_simp
              (try with_reducible rfl)
            (try simp only [Act.put, List.setIfInBounds_toArray, List.set_cons_zero, List.set_cons_succ])
            refine wpAnyH_take (i := 12) (oi := ?_) (v := ?_) ?_ (by as_aux_lemma => kernel_rfl) (by as_aux_lemma => kernel_rfl) (by as_aux_lemma => kernel_rfl) ?_ ?_ h0 ?_
            rotate_left 2
            · simp only [List.getElem?_toArray, List.getElem?_cons_zero, List.getElem?_cons_succ]; rfl
            · exact fun _ _ _ h => h
            · refine Or.inl ⟨by rfl, ?_⟩
              intro w hSw
              (try dsimp only at hSw)
              go_simp
              (try with_reducible rfl)
            (try simp only [Act.put, List.setIfInBounds_toArray, List.set_cons_zero, List.set_cons_succ])
            refine wpAnyH_take (i := 13) (oi := ?_) (v := ?_) ?_ (by as_aux_lemma => kernel_rfl) (by as_aux_lemma => kernel_rfl) (by as_aux_lemma => kernel_rfl) ?_ ?_ h0 ?_
            rotate_left 2
            · simp only [List.getElem?_toArray, List.getElem?_cons_zero, List.getElem?_cons_succ]; rfl
            · exact fun _ _ _ h => h
            · refine Or.inl ⟨by rfl, ?_⟩
              intro w hSw
              (try dsimp only at hSw)
              go_simp
              (try with_reducible rfl)
            (try simp only [Act.put, List.setIfInBounds_toArray, List.set_cons_zero, List.set_cons_succ])
            refine wpAnyH_take (i := 14) (oi := ?_) (v := ?_) ?_ (by as_aux_lemma => kernel_rfl) (by as_aux_lemma => kernel_rfl) (by as_aux_lemma => kernel_rfl) ?_ ?_ h0 ?_
            rotate_left 2
            · simp only [List.getElem?_toArray, List.getElem?_cons_zero, List.getElem?_cons_succ]; rfl
            · exact fun _ _ _ h => h
            · refine Or.inl ⟨by rfl, ?_⟩
              intro w hSw
              (try dsimp only at hSw)
              go_simp
              (try with_reducible rfl)
            (try simp only [Act.put, List.setIfInBounds_toArray, List.set_cons_zero, List.set_cons_succ])
            refine wpAnyH_take (i := 15) (oi := ?_) (v := ?_) ?_ (by as_aux_lemma => kernel_rfl) (by as_aux_lemma => kernel_rfl) (by as_aux_lemma => kernel_rfl) ?_ ?_ h0 ?_
            rotate_left 2
            · simp only [List.getElem?_toArray, List.getElem?_cons_zero, List.getElem?_cons_succ]; rfl
            · exact fun _ _ _ h => h
            · refine Or.inl ⟨by rfl, ?_⟩
              intro w hSw
              (try dsimp only at hSw)
              go_simp
              (try with_reducible rfl)
            (try simp only [Act.put, List.setIfInBounds_toArray, List.set_cons_zero, List.set_cons_succ])
            refine wpAnyH_take (i := 16) (oi := ?_) (v := ?_) ?_ (by as_aux_lemma => kernel_rfl) (by as_aux_lemma => kernel_rfl) (by as_aux_lemma => kernel_rfl) ?_ ?_ h0 ?_
            rotate_left 2
            · simp only [List.getElem?_toArray, List.getElem?_cons_zero, List.getElem?_cons_succ]; rfl
            · exact fun _ _ _ h => h
            · refine Or.inl ⟨by rfl, ?_⟩
              intro w hSw
              (try dsimp only at hSw)
              go_simp
              (try with_reducible rfl)
            (try simp only [Act.put, List.setIfInBounds_toArray, List.set_cons_zero, List.set_cons_succ])
            refine wpAnyH_take (i := 17) (oi := ?_) (v := ?_) ?_ (by as_aux_lemma => kernel_rfl) (by as_aux_lemma => kernel_rfl) (by as_aux_lemma => kernel_rfl) ?_ ?_ h0 ?_
            rotate_left 2
            · simp only [List.getElem?_toArray, List.getElem?_cons_zero, List.getElem?_cons_succ]; rfl
            · exact fun _ _ _ h => h
            · refine Or.inl ⟨by rfl, ?_⟩
              intro w hSw
              (try dsimp only at hSw)
              go_simp
              (try with_reducible rfl)
            (try simp only [Act.put, List.setIfInBounds_toArray, List.set_cons_zero, List.set_cons_succ])
            refine wpAnyH_take (i := 18) (oi := ?_) (v := ?_) ?_ (by as_aux_lemma => kernel_rfl) (by as_aux_lemma => kernel_rfl) (by as_aux_lemma => kernel_rfl) ?_ ?_ h0 ?_
            rotate_left 2
            · simp only [List.getElem?_toArray, List.getElem?_cons_zero, List.getElem?_cons_succ]; rfl
            · exact fun _ _ _ h => h
            · refine Or.inl ⟨by rfl, ?_⟩
              intro w hSw
              (try dsimp only at hSw)
              go_simp
              (try with_reducible rfl)
            (try simp only [Act.put, List.setIfInBounds_toArray, List.set_cons_zero, List.set_cons_succ])
            refine wpAnyH_take (i := 19) (oi := ?_) (v := ?_) ?_ (by as_aux_lemma => kernel_rfl) (by as_aux_lemma => kernel_rfl) (by as_aux_lemma => kernel_rfl) ?_ ?_ h0 ?_
            rotate_left 2
            · simp only [List.getElem?_toArray, List.getElem?_cons_zero, List.getElem?_cons_succ]; rfl
            · exact fun _ _ _ h => h
            · refine Or.inl ⟨by rfl, ?_⟩
              intro w hSw
              (try dsimp only at hSw)
              go_simp
              (try with_reducible rfl)
            (try simp only [Act.put, List.setIfInBounds_toArray, List.set_cons_zero, List.set_cons_succ])
            refine wpAnyH_take (i := 20) (oi := ?_) (v := ?_) ?_ (by as_aux_lemma => kernel_rfl) (by as_aux_lemma => kernel_rfl) (by as_aux_lemma => kernel_rfl) ?_ ?_ h0 ?_
            rotate_left 2
            · simp only [List.getElem?_toArray, List.getElem?_cons_zero, List.getElem?_cons_succ]; rfl
            · exact fun _ _ _ h => h
            · refine Or.inl ⟨by rfl, ?_⟩
              intro w hSw
              (try dsimp only at hSw)
              go_simp
              (try with_reducible rfl)
            (try simp only [Act.put, List.setIfInBounds_toArray, List.set_cons_zero, List.set_cons_succ])
            refine wpAnyH_take (i := 21) (oi := ?_) (v := ?_) ?_ (by as_aux_lemma => kernel_rfl) (by as_aux_lemma => kernel_rfl) (by as_aux_lemma => kernel_rfl) ?_ ?_ h0 ?_
            rotate_left 2
            · simp only [List.getElem?_toArray, List.getElem?_cons_zero, List.getElem?_cons_succ]; rfl
            · exact fun _ _ _ h => h
            · refine Or.inl ⟨by rfl, ?_⟩
              intro w hSw
              (try dsimp only at hSw)
              go_simp
              (try with_reducible rfl)
            (try simp only [Act.put, List.setIfInBounds_toArray, List.set_cons_zero, List.set_cons_succ])
            refine wpAnyH_take (i := 22) (oi := ?_) (v := ?_) ?_ (by as_aux_lemma => kernel_rfl) (by as_aux_lemma => kernel_rfl) (by as_aux_lemma => kernel_rfl) ?_ ?_ h0 ?_
            rotate_left 2
            · simp only [List.getElem?_toArray, List.getElem?_cons_zero, List.getElem?_cons_succ]; rfl
            · exact fun _ _ _ h => h
            · refine Or.inl ⟨by rfl, ?_⟩
              intro w hSw
              (try dsimp only at hSw)
              go_simp
              (try with_reducible rfl)
            (try simp only [Act.put, List.setIfInBounds_toArray, List.set_cons_zero, List.set_cons_succ])
            refine wpAnyH_take (i := 23) (oi := ?_) (v := ?_) ?_ (by as_aux_lemma => kernel_rfl) (by as_aux_lemma => kernel_rfl) (by as_aux_lemma => kernel_rfl) ?_ ?_ h0 ?_
            rotate_left 2
            · simp only [List.getElem?_toArray, List.getElem?_cons_zero, List.getElem?_cons_succ]; rfl
            · exact fun _ _ _ h => h
            · refine Or.inl ⟨by rfl, ?_⟩
              intro w hSw
              (try dsimp only at hSw)
              go_simp
              (try with_reducible rfl)
            (try simp only [Act.put, List.setIfInBounds_toArray, List.set_cons_zero, List.set_cons_succ])
            refine wpAnyH_take (i := 24) (oi := ?_) (v := ?_) ?_ (by as_aux_lemma => kernel_rfl) (by as_aux_lemma => kernel_rfl) (by as_aux_lemma => kernel_rfl) ?_ ?_ h0 ?_
            rotate_left 2
            · simp only [List.getElem?_toArray, List.getElem?_cons_zero, List.getElem?_cons_succ]; rfl
            · exact fun _ _ _ h => h
            · refine Or.inl ⟨by rfl, ?_⟩
              intro w hSw
              (try dsimp only at hSw)
              go_simp
              (try with_reducible rfl)
            (try simp only [Act.put, List.setIfInBounds_toArray, List.set_cons_zero, List.set_cons_succ])
            refine wpAnyH_take (i := 25) (oi := ?_) (v := ?_) ?_ (by as_aux_lemma => kernel_rfl) (by as_aux_lemma => kernel_rfl) (by as_aux_lemma => kernel_rfl) ?_ ?_ h0 ?_
            rotate_left 2
            · simp only [List.getElem?_toArray, List.getElem?_cons_zero, List.getElem?_cons_succ]; rfl
            · exact fun _ _ _ h => h
            · refine Or.inl ⟨by rfl, ?_⟩
              intro w hSw
              (try dsimp only at hSw)
              go_simp
              (try with_reducible rfl)
            (try simp only [Act.put, List.setIfInBounds_toArray, List.set_cons_zero, List.set_cons_succ])
            refine wpAnyH_take (i := 26) (oi := ?_) (v := ?_) ?_ (by as_aux_lemma => kernel_rfl) (by as_aux_lemma => kernel_rfl) (by as_aux_lemma => kernel_rfl) ?_ ?_ h0 ?_
            rotate_left 2
            · simp only [List.getElem?_toArray, List.getElem?_cons_zero, List.getElem?_cons_succ]; rfl
            · exact fun _ _ _ h => h
            · refine Or.inl ⟨by rfl, ?_⟩
              intro w hSw
              (try dsimp only at hSw)
              go_simp
              (try with_reducible rfl)
            (try simp only [Act.put, List.setIfInBounds_toArray, List.set_cons_zero, List.set_cons_succ])
            refine wpAnyH_take (i := 27) (oi := ?_) (v := ?_) ?_ (by as_aux_lemma => kernel_rfl) (by as_aux_lemma => kernel_rfl) (by as_aux_lemma => kernel_rfl) ?_ ?_ h0 ?_
            rotate_left 2
            · simp only [List.getElem?_toArray, List.getElem?_cons_zero, List.getElem?_cons_succ]; rfl
            · exact fun _ _ _ h => h
            · refine Or.inl ⟨by rfl, ?_⟩
              intro w hSw
              (try dsimp only at hSw)
              go_simp
              (try with_reducible rfl)
            (try simp only [Act.put, List.setIfInBounds_toArray, List.set_cons_zero, List.set_cons_succ])
            refine wpAnyH_take (i := 28) (oi := ?_) (v := ?_) ?_ (by as_aux_lemma => kernel_rfl) (by as_aux_lemma => kernel_rfl) (by as_aux_lemma => kernel_rfl) ?_ ?_ h0 ?_
            rotate_left 2
            · simp only [List.getElem?_toArray, List.getElem?_cons_zero, List.getElem?_cons_succ]; rfl
            · exact fun _ _ _ h => h
            · refine Or.inl ⟨by rfl, ?_⟩
              intro w hSw
              (try dsimp only at hSw)
              go_simp
              (try with_reducible rfl)
            (try simp only [Act.put, List.setIfInBounds_toArray, List.set_cons_zero, List.set_cons_succ])
            refine wpAnyH_take (i := 29) (oi := ?_) (v := ?_) ?_ (by as_aux_lemma => kernel_rfl) (by as_aux_lemma => kernel_rfl) (by as_aux_lemma => kernel_rfl) ?_ ?_ h0 ?_
            rotate_left 2
            · simp only [List.getElem?_toArray, List.getElem?_cons_zero, List.getElem?_cons_succ]; rfl
            · exact fun _ _ _ h => h
            · refine Or.inl ⟨by rfl, ?_⟩
              intro w hSw
              (try dsimp only at hSw)
              go_simp
              (try with_reducible rfl)
            (try simp only [Act.put, List.setIfInBounds_toArray, List.set_cons_zero, List.set_cons_succ])
            refine wpAnyH_take (i := 30) (oi := ?_) (v := ?_) ?_ (by as_aux_lemma => kernel_rfl) (by as_aux_lemma => kernel_rfl) (by as_aux_lemma => kernel_rfl) ?_ ?_ h0 ?_
            rotate_left 2
            · simp only [List.getElem?_toArray, List.getElem?_cons_zero, List.getElem?_cons_succ]; rfl
            · exact fun _ _ _ h => h
            · refine Or.inl ⟨by rfl, ?_⟩
              intro w hSw
              (try dsimp only at hSw)
              go_simp
              (try with_reducible rfl)
            (try simp only [Act.put, List.setIfInBounds_toArray, List.set_cons_zero, List.set_cons_succ])
            refine wpAnyH_ready (rs := [1, 31]) (by as_aux_lemma => kernel_rfl) (by simp) ?_
            refine AllReadyH.cons (o := ?_) ?_ (fun K hK => ?_) ?_
            rotate_left
            · simp only [List.getElem?_toArray, List.getElem?_cons_zero, List.getElem?_cons_succ]; rfl
            · skip
              go_simp
              refine hK.out _ _ (SB.out _ xD) (fun h1 => ?_)
              clear hK K
              (try simp only [Act.put, List.setIfInBounds_toArray, List.set_cons_zero, List.set_cons_succ])
              refine wpAnyH_ready (rs := [31]) (by as_aux_lemma => kernel_rfl) (by simp) ?_
              refine AllReadyH.cons (o := ?_) ?_ (fun K hK => ?_) AllReadyH.nil
              rotate_left
              · simp only [List.getElem?_toArray, List.getElem?_cons_zero, List.getElem?_cons_succ]; rfl
              go_simp
              refine hK.out _ _ (SB.out _ xa) (fun h2 => ?_)
              clear hK K
              (try simp only [Act.put, List.setIfInBounds_toArray, List.set_cons_zero, List.set_cons_succ])
              refine wpAnyH_ready (rs := [32]) (by as_aux_lemma => kernel_rfl) (by simp) ?_
              refine AllReadyH.cons (o := ?_) ?_ (fun K hK => ?_) AllReadyH.nil
              rotate_left
              · simp only [List.getElem?_toArray, List.getElem?_cons_zero, List.getElem?_cons_succ]; rfl
              refine step_app7 (.tmp 121) (.tmp 151) rfl (by as_aux_lemma => kernel_rfl) r3 ?_
              refine hK.out _ _ (SB.out _ x3) (fun h3 => ?_)
              clear hK K
              (try simp only [Act.put, List.setIfInBounds_toArray, List.set_cons_zero, List.set_cons_succ])
              refine wpAnyH_take (i := 33) (oi := ?_) (v := ?_) ?_ (by as_aux_lemma => kernel_rfl) (by as_aux_lemma => kernel_rfl) (by as_aux_lemma => kernel_rfl) ?_ ?_ h3 ?_
              rotate_left 2
              · simp only [List.getElem?_toArray, List.getElem?_cons_zero, List.getElem?_cons_succ]; rfl
              · exact fun _ _ _ h => h
              · refine Or.inl ⟨by rfl, ?_⟩
                intro w hSw
                (try dsimp only at hSw)
                go_simp
                (try with_reducible rfl)
              (try simp only [Act.put, List.setIfInBounds_toArray, List.set_cons_zero, List.set_cons_succ])
              refine wpAnyH_ready (rs := [34]) (by as_aux_lemma => kernel_rfl) (by simp) ?_
              refine AllReadyH.cons (o := ?_) ?_ (fun K hK => ?_) AllReadyH.nil
              rotate_left
              · simp only [List.getElem?_toArray, List.getElem?_cons_zero, List.getElem?_cons_succ]; rfl
              go_simp
              refine hK.out _ _ (SB.out _ x9) (fun h4 => ?_)
              clear hK K
              (try simp only [Act.put, List.setIfInBounds_toArray, List.set_cons_zero, List.set_cons_succ])
              refine wpAnyH_done (by as_aux_lemma => kernel_rfl) ?_ _
              refine NoPanic.normal ?_
              go_wp2_with fail
              go_roundw
              case rel => exact ⟨k + 1, A3, c3, by go_num, by omega, Lib.hid FIN.out.1, Lib.hid FIN.out.2.1, Lib.hid FIN.out.2.2⟩
              case measure => simp [intOf]; omega
            refine AllReadyH.cons (o := ?_) ?_ (fun K hK => ?_) AllReadyH.nil
            rotate_left
            · simp only [List.getElem?_toArray, List.getElem?_cons_zero, List.getElem?_cons_succ]; rfl
            go_simp
            refine hK.out _ _ (SB.out _ xa) (fun h1 => ?_)
            clear hK K
            (try simp only [Act.put, List.setIfInBounds_toArray, List.set_cons_zero, List.set_cons_succ])
            refine wpAnyH_ready (rs := [1]) (by as_aux_lemma => kernel_rfl) (by simp) ?_
            refine AllReadyH.cons (o := ?_) ?_ (fun K hK => ?_) AllReadyH.nil
            rotate_left
            · simp only [List.getElem?_toArray, List.getElem?_cons_zero, List.getElem?_cons_succ]; rfl
            go_simp
            refine hK.out _ _ (SB.out _ xa) (fun h2 => ?_)
            clear hK K
            (try simp only [Act.put, List.setIfInBounds_toArray, List.set_cons_zero, List.set_cons_succ])
            refine wpAnyH_ready (rs := [32]) (by as_aux_lemma => kernel_rfl) (by simp) ?_
            refine AllReadyH.cons (o := ?_) ?_ (fun K hK => ?_) AllReadyH.nil
            rotate_left
            · simp only [List.getElem?_toArray, List.getElem?_cons_zero, List.getElem?_cons_succ]; rfl
            refine step_app7 (.tmp 121) (.tmp 151) rfl (by as_aux_lemma => kernel_rfl) r3 ?_
            refine hK.out _ _ (SB.out _ x3) (fun h3 => ?_)
            clear hK K
            (try simp only [Act.put, List.setIfInBounds_toArray, List.set_cons_zero, List.set_cons_succ])
            refine wpAnyH_take (i := 33) (oi := ?_) (v := ?_) ?_ (by as_aux_lemma => kernel_rfl) (by as_aux_lemma => kernel_rfl) (by as_aux_lemma => kernel_rfl) ?_ ?_ h3 ?_
            rotate_left 2
            · simp only [List.getElem?_toArray, List.getElem?_cons_zero, List.getElem?_cons_succ]; rfl
            · exact fun _ _ _ h => h
            · refine Or.inl ⟨by rfl, ?_⟩
              intro w hSw
              (try dsimp only at hSw)
              go_simp
              (try with_reducible rfl)
            (try simp only [Act.put, List.setIfInBounds_toArray, List.set_cons_zero, List.set_cons_succ])
            refine wpAnyH_ready (rs := [34]) (by as_aux_lemma => kernel_rfl) (by simp) ?_
            refine AllReadyH.cons (o := ?_) ?_ (fun K hK => ?_) AllReadyH.nil
            rotate_left
            · simp only [List.getElem?_toArray, List.getElem?_cons_zero, List.getElem?_cons_succ]; rfl
            go_simp
            refine hK.out _ _ (SB.out _ x9) (fun h4 => ?_)
            clear hK K
            (try simp only [Act.put, List.setIfInBounds_toArray, List.set_cons_zero, List.set_cons_succ])
            refine wpAnyH_done (by as_aux_lemma => kernel_rfl) ?_ _
            refine NoPanic.normal ?_
            go_wp2_with fail
            go_roundw
            case rel => exact ⟨k + 1, A3, c3, by go_num, by omega, Lib.hid FIN.out.1, Lib.hid FIN.out.2.1, Lib.hid FIN.out.2.2⟩
            case measure => simp [intOf]; omega
          · obtain rfl : nc = k := by omega
            obtain ⟨RC0, lc1, lc2⟩ := RowNK.own how.out hFc
            have RC := Lib.hid RC0
            have BC := Lib.hid (And.intro lc1 lc2)
            have KHv := Lib.hid (hkp.out.blk KH2.out (by simp; omega))
            have KRv := Lib.hid (hkp.out.blk KR2.out (by simp; omega))
            have FRv := hfr
            have N0 : (half l 3 - half l 2 + 1).toNat = nc := by rw [hx3, hx2, hnc]; rfl
            have N4 : (half l 4).toNat = nw := by rw [hx4]; rfl
            have N5 : (half l 5).toNat = nh := by rw [hx5]; rfl
            have N6 : (half l 6).toNat = nd := by rw [hx6]; rfl
            have N7 : (half l 7).toNat = ni := by rw [hx7]; rfl
            have N8 : (half l 8).toNat = ns := by rw [hx8]; rfl
            have N9 : (half l 9).toNat = nk := by rw [hx9]; rfl
            have N11 : (half l 11).toNat = np := by rw [hx11]; rfl
            obtain ⟨p1, p2, p3, p4, p5, p6, p7, hps, ⟨Ep1, Ep2, Ep3, Ep4, Ep5, Ep6, Ep7⟩, ⟨Lp1, Lp2, Lp3, Lp4, Lp5, Lp6, Lp7⟩, hle⟩ := offs HSUM.out hq25
            have HPS := Lib.hid hps
            have HLE := Lib.hid hle
            have hl' : l.length ≤ 100000 := by rw [← HN.out]; exact hl
            have HNS := Lib.hid (And.intro N0 (And.intro N4 (And.intro N5 (And.intro N6 (And.intro N7 (And.intro N8 (And.intro N9 N11)))))))
            clear hps hle N0 N4 N5 N6 N7 N8 N9 N11 RC0 lc1 lc2 how hkp hfr KH2 KR2 FR0 HCH hnc
            go_upto_region 21 with (fail)
            have c4 : wr.cell? ⟨R + 1, 4, none⟩ = some (.int .i64 nw) := by rw [KHv.out.cell 4, hV_get l 12 4 (by omega), if_pos (by omega), hx4]
            have SM := Lib.hid (rsome_any (some ad0) l c n p1 nw wr (HB.out _ FRv.out.x) HN.out hc hcm hl' (le4 HQ4.out HLE.out.1))
            have hFw : F < wr.heap.size := FRv.out.box.lt
            go_wp2_with fail
            refine SM.out.mono ?_
            rintro e wb4 ⟨A4, e4, rfl, ow, xb⟩
            obtain ⟨RW, r1, r2⟩ := RowK.own ow hFw
            have R4 := Lib.hid RW
            have B4 := Lib.hid (And.intro r1 r2)
            have FRb := FRv.out.kept xb
            have s0 : wb4.cell? ⟨F, 4, none⟩ = some (.slice none 0 0) := FRb.box.cell 4
            have s1 := FRb.box.free 4
            obtain ⟨wn4, hwn⟩ : ∃ W, W = wb4.setCell ⟨F, 4, none⟩ (.slice A4 nw e4) := ⟨_, rfl⟩
            have kps : Kp (some F) wr wn4 := by rw [hwn]; exact kp_trans (Kp.of_ext xb) (Kp.set wb4 ⟨F, 4, none⟩ _)
            have kpb : Kp (some F) wb4 wn4 := by rw [hwn]; exact Kp.set wb4 ⟨F, 4, none⟩ _
            have FRv := Lib.hid (show Fr w wn4 F [.int .i64 (word4 l 6), .int .i64 (fixA l 7), .int .i64 x2, .slice AC nc cC, .slice A4 nw e4, .slice none 0 0, .slice none 0 0, .slice none 0 0, .slice none 0 0, .slice none 0 0, .slice none 0 0] by rw [hwn]; exact FRb.set 4 _)
            have KHv := Lib.hid (kps.blk KHv.out (by simp; omega))
            have KRv := Lib.hid (kps.blk KRv.out (by simp; omega))
            have RC := Lib.hid (RC.out.kp kps)
            have R4 := Lib.hid (R4.out.kp kpb)
            clear kps kpb RW r1 r2 FRb SM xb ow hFw c4
            go_upto_region 22 with (fail)
            rw [← hwn]
            clear hwn s0 s1
            have c5 : wn4.cell? ⟨R + 1, 5, none⟩ = some (.int .i64 nh) := by rw [KHv.out.cell 5, hV_get l 12 5 (by omega), if_pos (by omega), hx5]
            have c4 : wn4.cell? ⟨R + 1, 4, none⟩ = some (.int .i64 nw) := by rw [KHv.out.cell 4, hV_get l 12 4 (by omega), if_pos (by omega), hx4]
            have SM := Lib.hid (rsome_any (some ad0) l c n p2 nh wn4 (HB.out _ FRv.out.x) HN.out hc hcm hl' (le4 HQ4.out HLE.out.2.1))
            have hFw : F < wn4.heap.size := FRv.out.box.lt
            go_wp2_with fail
            refine SM.out.mono ?_
            rintro e wb5 ⟨A5, e5, rfl, ow, xb⟩
            obtain ⟨RW, r1, r2⟩ := RowK.own ow hFw
            have R5 := Lib.hid RW
            have B5 := Lib.hid (And.intro r1 r2)
            have FRb := FRv.out.kept xb
            have s0 : wb5.cell? ⟨F, 5, none⟩ = some (.slice none 0 0) := FRb.box.cell 5
            have s1 := FRb.box.free 5
            obtain ⟨wn5, hwn⟩ : ∃ W, W = wb5.setCell ⟨F, 5, none⟩ (.slice A5 nh e5) := ⟨_, rfl⟩
            have kps : Kp (some F) wn4 wn5 := by rw [hwn]; exact kp_trans (Kp.of_ext xb) (Kp.set wb5 ⟨F, 5, none⟩ _)
            have kpb : Kp (some F) wb5 wn5 := by rw [hwn]; exact Kp.set wb5 ⟨F, 5, none⟩ _
            have FRv := Lib.hid (show Fr w wn5 F [.int .i64 (word4 l 6), .int .i64 (fixA l 7), .int .i64 x2, .slice AC nc cC, .slice A4 nw e4, .slice A5 nh e5, .slice none 0 0, .slice none 0 0, .slice none 0 0, .slice none 0 0, .slice none 0 0] by rw [hwn]; exact FRb.set 5 _)
            have KHv := Lib.hid (kps.blk KHv.out (by simp; omega))
            have KRv := Lib.hid (kps.blk KRv.out (by simp; omega))
            have RC := Lib.hid (RC.out.kp kps)
            have R4 := Lib.hid (R4.out.kp kps)
            have R5 := Lib.hid (R5.out.kp kpb)
            clear kps kpb RW r1 r2 FRb SM xb ow hFw c5 c4
            go_upto_region 24 with (fail)
            rw [← hwn]
            clear hwn s0 s1
            have c6 : wn5.cell? ⟨R + 1, 6, none⟩ = some (.int .i64 nd) := by rw [KHv.out.cell 6, hV_get l 12 6 (by omega), if_pos (by omega), hx6]
            have c5 : wn5.cell? ⟨R + 1, 5, none⟩ = some (.int .i64 nh) := by rw [KHv.out.cell 5, hV_get l 12 5 (by omega), if_pos (by omega), hx5]
            have SM := Lib.hid (rsome_any (some ad0) l c n p3 nd wn5 (HB.out _ FRv.out.x) HN.out hc hcm hl' (le4 HQ4.out HLE.out.2.2.1))
            have hFw : F < wn5.heap.size := FRv.out.box.lt
            go_wp2_with fail
            refine SM.out.mono ?_
            rintro e wb6 ⟨A6, e6, rfl, ow, xb⟩
            obtain ⟨RW, r1, r2⟩ := RowK.own ow hFw
            have R6 := Lib.hid RW
            have B6 := Lib.hid (And.intro r1 r2)
            have FRb := FRv.out.kept xb
            have s0 : wb6.cell? ⟨F, 6, none⟩ = some (.slice none 0 0) := FRb.box.cell 6
            have s1 := FRb.box.free 6
            obtain ⟨wn6, hwn⟩ : ∃ W, W = wb6.setCell ⟨F, 6, none⟩ (.slice A6 nd e6) := ⟨_, rfl⟩
            have kps : Kp (some F) wn5 wn6 := by rw [hwn]; exact kp_trans (Kp.of_ext xb) (Kp.set wb6 ⟨F, 6, none⟩ _)
            have kpb : Kp (some F) wb6 wn6 := by rw [hwn]; exact Kp.set wb6 ⟨F, 6, none⟩ _
            have FRv := Lib.hid (show Fr w wn6 F [.int .i64 (word4 l 6), .int .i64 (fixA l 7), .int .i64 x2, .slice AC nc cC, .slice A4 nw e4, .slice A5 nh e5, .slice A6 nd e6, .slice none 0 0, .slice none 0 0, .slice none 0 0, .slice none 0 0] by rw [hwn]; exact FRb.set 6 _)
            have KHv := Lib.hid (kps.blk KHv.out (by simp; omega))
            have KRv := Lib.hid (kps.blk KRv.out (by simp; omega))
            have RC := Lib.hid (RC.out.kp kps)
            have R4 := Lib.hid (R4.out.kp kps)
            have R5 := Lib.hid (R5.out.kp kps)
            have R6 := Lib.hid (R6.out.kp kpb)
            clear kps kpb RW r1 r2 FRb SM xb ow hFw c6 c5
            go_upto_region 26 with (fail)
            rw [← hwn]
            clear hwn s0 s1
            have c7 : wn6.cell? ⟨R + 1, 7, none⟩ = some (.int .i64 ni) := by rw [KHv.out.cell 7, hV_get l 12 7 (by omega), if_pos (by omega), hx7]
            have c6 : wn6.cell? ⟨R + 1, 6, none⟩ = some (.int .i64 nd) := by rw [KHv.out.cell 6, hV_get l 12 6 (by omega), if_pos (by omega), hx6]
            have SM := Lib.hid (rsome_any (some ad0) l c n p4 ni wn6 (HB.out _ FRv.out.x) HN.out hc hcm hl' (le4 HQ4.out HLE.out.2.2.2.1))
            have hFw : F < wn6.heap.size := FRv.out.box.lt
            go_wp2_with fail
            refine SM.out.mono ?_
            rintro e wb7 ⟨A7, e7, rfl, ow, xb⟩
            obtain ⟨RW, r1, r2⟩ := RowK.own ow hFw
            have R7 := Lib.hid RW
            have B7 := Lib.hid (And.intro r1 r2)
            have FRb := FRv.out.kept xb
            have s0 : wb7.cell? ⟨F, 7, none⟩ = some (.slice none 0 0) := FRb.box.cell 7
            have s1 := FRb.box.free 7
            obtain ⟨wn7, hwn⟩ : ∃ W, W = wb7.setCell ⟨F, 7, none⟩ (.slice A7 ni e7) := ⟨_, rfl⟩
            have kps : Kp (some F) wn6 wn7 := by rw [hwn]; exact kp_trans (Kp.of_ext xb) (Kp.set wb7 ⟨F, 7, none⟩ _)
            have kpb : Kp (some F) wb7 wn7 := by rw [hwn]; exact Kp.set wb7 ⟨F, 7, none⟩ _
            have FRv := Lib.hid (show Fr w wn7 F [.int .i64 (word4 l 6), .int .i64 (fixA l 7), .int .i64 x2, .slice AC nc cC, .slice A4 nw e4, .slice A5 nh e5, .slice A6 nd e6, .slice A7 ni e7, .slice none 0 0, .slice none 0 0, .slice none 0 0] by rw [hwn]; exact FRb.set 7 _)
            have KHv := Lib.hid (kps.blk KHv.out (by simp; omega))
            have KRv := Lib.hid (kps.blk KRv.out (by simp; omega))
            have RC := Lib.hid (RC.out.kp kps)
            have R4 := Lib.hid (R4.out.kp kps)
            have R5 := Lib.hid (R5.out.kp kps)
            have R6 := Lib.hid (R6.out.kp kps)
            have R7 := Lib.hid (R7.out.kp kpb)
            clear kps kpb RW r1 r2 FRb SM xb ow hFw c7 c6
            go_upto_region 28 with (fail)
            rw [← hwn]
            clear hwn s0 s1
            have c7 : wn7.cell? ⟨R + 1, 7, none⟩ = some (.int .i64 ni) := by rw [KHv.out.cell 7, hV_get l 12 7 (by omega), if_pos (by omega), hx7]
            have hFs : F < wn7.heap.size := FRv.out.box.lt
            have HST := Lib.hid (fun k => show (#[.int .i64 (byteA l (p5 + k) 0), .int .i64 (byteA l (p5 + k) 1), .int .i64 (byteA l (p5 + k) 2), .int .i64 (byteA l (p5 + k) 3)] : Array Value).toList = (List.range 4).map (fun j => .int .i64 (D.stp k j)) by
              obtain ⟨N0, N4, N5, N6, N7, _⟩ := HNS.out
              have e5 : 8 + (half l 3 - half l 2 + 1).toNat + (half l 4).toNat + (half l 5).toNat + (half l 6).toNat + (half l 7).toNat = p5 := by rw [N0, N4, N5, N6, N7]; have := HPS.out; omega
              rw [HD.out, ← e5]; rfl)
            go_wp2_with fail
            go_loopw [11] (fun i wr => ∃ (k : Nat) (AS : Option Addr) (cS : Nat), i = .int .i64 k ∧ k ≤ ns ∧ Hid (Fr w wr F [.int .i64 (word4 l 6), .int .i64 (fixA l 7), .int .i64 x2, .slice AC nc cC, .slice A4 nw e4, .slice A5 nh e5, .slice A6 nd e6, .slice A7 ni e7, .slice AS k cS, .slice none 0 0, .slice none 0 0]) ∧ Hid (Kp (some F) wn7 wr) ∧ Hid (wr.ownsRow wn7.heap.size 45 4 (.slice AS k cS) k (flatN 4 D.stp k))) (fun i _ => ns - (intOf i).toNat)
            case atStart => exact ⟨0, none, 0, rfl, Nat.zero_le _, FRv, Lib.hid (Kp.of_ext (Ext.refl _)), Lib.hid (World.ownsRow_nil _ _ _ _)⟩
            case round =>
              obtain ⟨k, AS, cS, rfl, hk, hfr, hkp, how⟩ := hrel
              have KHw := hkp.out.blk KHv.out (by simp; omega)
              have c8 : wr.cell? ⟨R + 1, 8, none⟩ = some (.int .i64 ns) := by rw [KHw.cell 8, hV_get l 12 8 (by omega), if_pos (by omega), hx8]
              clear KHw
              by_cases hlt : k < ns
              · have hk64 : (k : Int) < (ns : Int) := by omega
                have hmn : 4 * (p5 + k) + 3 < l.length := by rw [← HN.out]; have y1 := HLE.out.2.2.2.2.1; have y2 := HQ4.out; omega
                obtain ⟨a0, e', _, d0⟩ := (HB.out w (Ext.refl w)).get (k := 4 * (p5 + k)) (by omega)
                cases e'
                obtain ⟨a0, e', _, d1⟩ := (HB.out w (Ext.refl w)).get (k := 4 * (p5 + k) + 1) (by omega)
                cases e'
                obtain ⟨a0, e', _, d2⟩ := (HB.out w (Ext.refl w)).get (k := 4 * (p5 + k) + 2) (by omega)
                cases e'
                obtain ⟨a0, e', _, d3⟩ := (HB.out w (Ext.refl w)).get (k := 4 * (p5 + k) + 3) (by omega)
                cases e'
                have g0 := byte_get (l := l) (k := p5 + k) (i := 0) (m := 4 * (p5 + k)) rfl (by omega) (by omega)
                obtain ⟨y0, hy0⟩ : ∃ y : Nat, y = (l[4 * (p5 + k)]'(by omega)).toNat := ⟨_, rfl⟩
                have z0 : y0 < 256 := by rw [hy0]; exact UInt8.toNat_lt _
                rw [← hy0] at d0 g0
                have g1 := byte_get (l := l) (k := p5 + k) (i := 1) (m := 4 * (p5 + k) + 1) rfl (by omega) (by omega)
                obtain ⟨y1, hy1⟩ : ∃ y : Nat, y = (l[4 * (p5 + k) + 1]'(by omega)).toNat := ⟨_, rfl⟩
                have z1 : y1 < 256 := by rw [hy1]; exact UInt8.toNat_lt _
                rw [← hy1] at d1 g1
                have g2 := byte_get (l := l) (k := p5 + k) (i := 2) (m := 4 * (p5 + k) + 2) rfl (by omega) (by omega)
                obtain ⟨y2, hy2⟩ : ∃ y : Nat, y = (l[4 * (p5 + k) + 2]'(by omega)).toNat := ⟨_, rfl⟩
                have z2 : y2 < 256 := by rw [hy2]; exact UInt8.toNat_lt _
                rw [← hy2] at d2 g2
                have g3 := byte_get (l := l) (k := p5 + k) (i := 3) (m := 4 * (p5 + k) + 3) rfl (by omega) (by omega)
                obtain ⟨y3, hy3⟩ : ∃ y : Nat, y = (l[4 * (p5 + k) + 3]'(by omega)).toNat := ⟨_, rfl⟩
                have z3 : y3 < 256 := by rw [hy3]; exact UInt8.toNat_lt _
                rw [← hy3] at d3 g3
                have HY := Lib.hid (HST.out k)
                rw [g0, g1, g2, g3] at HY
                obtain ⟨m, hm⟩ : ∃ m, m = 4 * (p5 + k) := ⟨_, rfl⟩
                rw [← hm] at d0 d1 d2 d3
                have hmb : m + 4 ≤ n := by rw [HN.out]; omega
                have W0 := byte_wrap z0
                have W1 := byte_wrap z1
                have W2 := byte_wrap z2
                have W3 := byte_wrap z3
                have E1 : (4 : Int) * ((p5 : Int) + (k : Int)) = (m : Int) := by omega
                have hne : ¬ c = m := by omega
                have m64 : (m : Int) + 4 ≤ (n : Int) := by omega
                have m100 : (m : Int) ≤ 100000 := by omega
                have k25 : (k : Int) ≤ 25000 := by omega
                have HM := Lib.hid hm
                clear hm
                obtain ⟨am, ham⟩ : ∃ am, am = ad0.add m := ⟨_, rfl⟩
                have add_m : ∀ i, ad0.add (m + i) = am.add i := fun i => by rw [ham]; exact (Addr.add_add _ _ _).symm
                rw [← ham] at d0
                rw [add_m] at d1 d2 d3
                have HAM := Lib.hid ham
                clear ham
                go_upto_region 33 with (fail)
                rw [← HAM.out]
                clear hy0 hy1 hy2 hy3 g0 g1 g2 g3
                rw [Nat.add_sub_cancel_left]
                have SB := Lib.hid (fun w' (x : Ext w w') => show w'.cell? am = some (.int .u8 (y0 : Int)) ∧ w'.cell? ⟨am.block, am.off + 1, none⟩ = some (.int .u8 (y1 : Int)) ∧ w'.cell? ⟨am.block, am.off + 2, none⟩ = some (.int .u8 (y2 : Int)) ∧ w'.cell? ⟨am.block, am.off + 3, none⟩ = some (.int .u8 (y3 : Int)) from ⟨x.at d0, x.at d1, x.at d2, x.at d3⟩)
                obtain ⟨WD, hWD⟩ : ∃ WD, WD = wr.drew := ⟨_, rfl⟩
                have XD : Ext wr WD := by rw [hWD]; exact (Ext.refl wr).drew
                have frD := hfr.out.kept XD
                have p3 : WD.cell? ⟨F, 8, none⟩ = some (.slice AS k cS) := frD.box.cell 8
                obtain ⟨A3, c3, w3, r3, b3, x3, fr3, kp3, ow3⟩ := frD.app (kp_trans hkp.out (Kp.of_ext XD)) hFs 26 45 _ 4 32 (by as_aux_lemma => kernel_rfl) step_info7 rfl (by omega) (by omega) (OwnsRow.ext how.out XD) #[.int .i64 (y0 : Int), .int .i64 (y1 : Int), .int .i64 (y2 : Int), .int .i64 (y3 : Int)] HY.out (by omega) 8
                have g3 : w3.cell? ⟨F, 8, none⟩ = some (.slice AS k cS) := b3.cell 8
                have z3 := b3.free 8
                have xa := frD.x.alloc (.cells #[.int .i64 (y0 : Int), .int .i64 (y1 : Int), .int .i64 (y2 : Int), .int .i64 (y3 : Int)] 45)
                have p3a : (WD.alloc (.cells #[.int .i64 (y0 : Int), .int .i64 (y1 : Int), .int .i64 (y2 : Int), .int .i64 (y3 : Int)] 45)).cell? ⟨F, 8, none⟩ = some (.slice AS k cS) := ((Ext.refl WD).alloc _).at p3
                have xD := frD.x
                have x9 := fr3.x
                have FIN := Lib.hid (And.intro fr3 (And.intro kp3 ow3))
                have S0 := SB.out WD xD
                clear frD b3 fr3 kp3 ow3 hfr hkp how XD HY
                refine wp_region_noPanic ?_
                refine wp_region_held_drew (S := (fun w' => w'.cell? am = some (.int .u8 (y0 : Int)) ∧ w'.cell? ⟨am.block, am.off + 1, none⟩ = some (.int .u8 (y1 : Int)) ∧ w'.cell? ⟨am.block, am.off + 2, none⟩ = some (.int .u8 (y2 : Int)) ∧ w'.cell? ⟨am.block, am.off + 3, none⟩ = some (.int .u8 (y3 : Int)))) (by as_aux_lemma => kernel_rfl) (by rw [← hWD]; exact S0) (fun h0 => ?_)
                rw [← hWD] at h0 ⊢
                clear hWD S0
                refine wpAnyH_take (i := 0) (oi := ?_) (v := ?_) ?_ (by as_aux_lemma => kernel_rfl) (by as_aux_lemma => kernel_rfl) (by as_aux_lemma => kernel_rfl) ?_ ?_ h0 ?_
                rotate_left 2
                · simp only [List.getElem?_toArray, List.getElem?_cons_zero]; rfl
                · exact fun _ _ _ h => h
                · refine Or.inl ⟨by rfl, ?_⟩
                  intro w hSw
                  (try dsimp only at hSw)
                  go_simp
                  (try with_reducible rfl)
                (try simp only [Act.put, List.setIfInBounds_toArray, List.set_cons_zero, List.set_cons_succ])
                refine wpAnyH_take (i := 2) (oi := ?_) (v := ?_) ?_ (by as_aux_lemma => kernel_rfl) (by as_aux_lemma => kernel_rfl) (by as_aux_lemma => kernel_rfl) ?_ ?_ h0 ?_
                rotate_left 2
                · simp only [List.getElem?_toArray, List.getElem?_cons_zero, List.getElem?_cons_succ]; rfl
                · exact fun _ _ _ h => h
                · refine Or.inl ⟨by rfl, ?_⟩
                  intro w hSw
                  (try dsimp only at hSw)
                  go_simp
                  (try with_reducible rfl)
                (try simp only [Act.put, List.setIfInBounds_toArray, List.set_cons_zero, List.set_cons_succ])
                refine wpAnyH_take (i := 3) (oi := ?_) (v := ?_) ?_ (by as_aux_lemma => kernel_rfl) (by as_aux_lemma => kernel_rfl) (by as_aux_lemma => kernel_rfl) ?_ ?_ h0 ?_
                rotate_left 2
                · simp only [List.getElem?_toArray, List.getElem?_cons_zero, List.getElem?_cons_succ]; rfl
                · exact fun _ _ _ h => h
                · refine Or.inl ⟨by rfl, ?_⟩
                  intro w hSw
                  (try dsimp only at hSw)
                  go_simp
                  (try with_reducible rfl)
                (try simp only [Act.put, List.setIfInBounds_toArray, List.set_cons_zero, List.set_cons_succ])
                refine wpAnyH_take (i := 4) (oi := ?_) (v := ?_) ?_ (by as_aux_lemma => kernel_rfl) (by as_aux_lemma => kernel_rfl) (by as_aux_lemma => kernel_rfl) ?_ ?_ h0 ?_
                rotate_left 2
                · simp only [List.getElem?_toArray, List.getElem?_cons_zero, List.getElem?_cons_succ]; rfl
                · exact fun _ _ _ h => h
                · refine Or.inl ⟨by rfl, ?_⟩
                  intro w hSw
                  (try dsimp only at hSw)
                  go_simp
                  (try with_reducible rfl)
                (try simp only [Act.put, List.setIfInBounds_toArray, List.set_cons_zero, List.set_cons_succ])
                refine wpAnyH_take (i := 5) (oi := ?_) (v := ?_) ?_ (by as_aux_lemma => kernel_rfl) (by as_aux_lemma => kernel_rfl) (by as_aux_lemma => kernel_rfl) ?_ ?_ h0 ?_
                rotate_left 2
                · simp only [List.getElem?_toArray, List.getElem?_cons_zero, List.getElem?_cons_succ]; rfl
                · exact fun _ _ _ h => h
                · refine Or.inl ⟨by rfl, ?_⟩
                  intro w hSw
                  (try dsimp only at hSw)
                  go_simp
                  (try with_reducible rfl)
                (try simp only [Act.put, List.setIfInBounds_toArray, List.set_cons_zero, List.set_cons_succ])
                refine wpAnyH_take (i := 6) (oi := ?_) (v := ?_) ?_ (by as_aux_lemma => kernel_rfl) (by as_aux_lemma => kernel_rfl) (by as_aux_lemma => kernel_rfl) ?_ ?_ h0 ?_
                rotate_left 2
                · simp only [List.getElem?_toArray, List.getElem?_cons_zero, List.getElem?_cons_succ]; rfl
                · exact fun _ _ _ h => h
                · refine Or.inl ⟨by rfl, ?_⟩
                  intro w hSw
                  (try dsimp only at hSw)
                  go_simp
                  (try with_reducible rfl)
                (try simp only [Act.put, List.setIfInBounds_toArray, List.set_cons_zero, List.set_cons_succ])
                refine wpAnyH_take (i := 7) (oi := ?_) (v := ?_) ?_ (by as_aux_lemma => kernel_rfl) (by as_aux_lemma => kernel_rfl) (by as_aux_lemma => kernel_rfl) ?_ ?_ h0 ?_
                rotate_left 2
                · simp only [List.getElem?_toArray, List.getElem?_cons_zero, List.getElem?_cons_succ]; rfl
                · exact fun _ _ _ h => h
                · refine Or.inl ⟨by rfl, ?_⟩
                  intro w hSw
                  (try dsimp only at hSw)
                  go_simp
                  (try with_reducible rfl)
                (try simp only [Act.put, List.setIfInBounds_toArray, List.set_cons_zero, List.set_cons_succ])
                refine wpAnyH_take (i := 8) (oi := ?_) (v := ?_) ?_ (by as_aux_lemma => kernel_rfl) (by as_aux_lemma => kernel_rfl) (by as_aux_lemma => kernel_rfl) ?_ ?_ h0 ?_
                rotate_left 2
                · simp only [List.getElem?_toArray, List.getElem?_cons_zero, List.getElem?_cons_succ]; rfl
                · exact fun _ _ _ h => h
                · refine Or.inl ⟨by rfl, ?_⟩
                  intro w hSw
                  (try dsimp only at hSw)
                  go_simp
                  (try with_reducible rfl)
                (try simp only [Act.put, List.setIfInBounds_toArray, List.set_cons_zero, List.set_cons_succ])
                refine wpAnyH_take (i := 9) (oi := ?_) (v := ?_) ?_ (by as_aux_lemma => kernel_rfl) (by as_aux_lemma => kernel_rfl) (by as_aux_lemma => kernel_rfl) ?_ ?_ h0 ?_
                rotate_left 2
                · simp only [List.getElem?_toArray, List.getElem?_cons_zero, List.getElem?_cons_succ]; rfl
                · exact fun _ _ _ h => h
                · refine Or.inl ⟨by rfl, ?_⟩
                  intro w hSw
                  (try dsimp only at hSw)
                  go_simp
                  (try with_reducible rfl)
                (try simp only [Act.put, List.setIfInBounds_toArray, List.set_cons_zero, List.set_cons_succ])
                refine wpAnyH_take (i := 10) (oi := ?_) (v := ?_) ?_ (by as_aux_lemma => kernel_rfl) (by as_aux_lemma => kernel_rfl) (by as_aux_lemma => kernel_rfl) ?_ ?_ h0 ?_
                rotate_left 2
                · simp only [List.getElem?_toArray, List.getElem?_cons_zero, List.getElem?_cons_succ]; rfl
                · exact fun _ _ _ h => h
                · refine Or.inl ⟨by rfl, ?_⟩
                  intro w hSw
                  (try dsimp only at hSw)
                  go_simp
                  (try with_reducible rfl)
                (try simp only [Act.put, List.setIfInBounds_toArray, List.set_cons_zero, List.set_cons_succ])
                refine wpAnyH_take (i := 11) (oi := ?_) (v := ?_) ?_ (by as_aux_lemma => kernel_rfl) (by as_aux_lemma => kernel_rfl) (by as_aux_lemma => kernel_rfl) ?_ ?_ h0 ?_
                rotate_left 2
                · simp only [List.getElem?_toArray, List.getElem?_cons_zero, List.getElem?_cons_succ]; rfl
                · exact fun _ _ _ h => h
                · refine Or.inl ⟨by rfl, ?_⟩
                  intro w hSw
                  (try dsimp only at hSw)
                  go_simp
                  (try with_reducible rfl)
                (try simp only [Act.put, List.setIfInBounds_toArray, List.set_cons_zero, List.set_cons_succ])
                refine wpAnyH_take (i := 12) (oi := ?_) (v := ?_) ?_ (by as_aux_lemma => kernel_rfl) (by as_aux_lemma => kernel_rfl) (by as_aux_lemma => kernel_rfl) ?_ ?_ h0 ?_
                rotate_left 2
                · simp only [List.getElem?_toArray, List.getElem?_cons_zero, List.getElem?_cons_succ]; rfl
                · exact fun _ _ _ h => h
                · refine Or.inl ⟨by rfl, ?_⟩
                  intro w hSw
                  (try dsimp only at hSw)
                  go_simp
                  (try with_reducible rfl)
                (try simp only [Act.put, List.setIfInBounds_toArray, List.set_cons_zero, List.set_cons_succ])
                refine wpAnyH_take (i := 13) (oi := ?_) (v := ?_) ?_ (by as_aux_lemma => kernel_rfl) (by as_aux_lemma => kernel_rfl) (by as_aux_lemma => kernel_rfl) ?_ ?_ h0 ?_
                rotate_left 2
                · simp only [List.getElem?_toArray, List.getElem?_cons_zero, List.getElem?_cons_succ]; rfl
                · exact fun _ _ _ h => h
                · refine Or.inl ⟨by rfl, ?_⟩
                  intro w hSw
                  (try dsimp only at hSw)
                  go_simp
                  (try with_reducible rfl)
                (try simp only [Act.put, List.setIfInBounds_toArray, List.set_cons_zero, List.set_cons_succ])
                refine wpAnyH_take (i := 14) (oi := ?_) (v := ?_) ?_ (by as_aux_lemma => kernel_rfl) (by as_aux_lemma => kernel_rfl) (by as_aux_lemma => kernel_rfl) ?_ ?_ h0 ?_
                rotate_left 2
                · simp only [List.getElem?_toArray, List.getElem?_cons_zero, List.getElem?_cons_succ]; rfl
                · exact fun _ _ _ h => h
                · refine Or.inl ⟨by rfl, ?_⟩
                  intro w hSw
                  (try dsimp only at hSw)
                  go_simp
                  (try with_reducible rfl)
                (try simp only [Act.put, List.setIfInBounds_toArray, List.set_cons_zero, List.set_cons_succ])
                refine wpAnyH_take (i := 15) (oi := ?_) (v := ?_) ?_ (by as_aux_lemma => kernel_rfl) (by as_aux_lemma => kernel_rfl) (by as_aux_lemma => kernel_rfl) ?_ ?_ h0 ?_
                rotate_left 2
                · simp only [List.getElem?_toArray, List.getElem?_cons_zero, List.getElem?_cons_succ]; rfl
                · exact fun _ _ _ h => h
                · refine Or.inl ⟨by rfl, ?_⟩
                  intro w hSw
                  (try dsimp only at hSw)
                  go_simp
                  (try with_reducible rfl)
                (try simp only [Act.put, List.setIfInBounds_toArray, List.set_cons_zero, List.set_cons_succ])
                refine wpAnyH_take (i := 16) (oi := ?_) (v := ?_) ?_ (by as_aux_lemma => kernel_rfl) (by as_aux_lemma => kernel_rfl) (by as_aux_lemma => kernel_rfl) ?_ ?_ h0 ?_
                rotate_left 2
                · simp only [List.getElem?_toArray, List.getElem?_cons_zero, List.getElem?_cons_succ]; rfl
                · exact fun _ _ _ h => h
                · refine Or.inl ⟨by rfl, ?_⟩
                  intro w hSw
                  (try dsimp only at hSw)
                  go_simp
                  (try with_reducible rfl)
                (try simp only [Act.put, List.setIfInBounds_toArray, List.set_cons_zero, List.set_cons_succ])
                refine wpAnyH_take (i := 17) (oi := ?_) (v := ?_) ?_ (by as_aux_lemma => kernel_rfl) (by as_aux_lemma => kernel_rfl) (by as_aux_lemma => kernel_rfl) ?_ ?_ h0 ?_
                rotate_left 2
                · simp only [List.getElem?_toArray, List.getElem?_cons_zero, List.getElem?_cons_succ]; rfl
                · exact fun _ _ _ h => h
                · refine Or.inl ⟨by rfl, ?_⟩
                  intro w hSw
                  (try dsimp only at hSw)
                  go_simp
                  (try with_reducible rfl)
                (try simp only [Act.put, List.setIfInBounds_toArray, List.set_cons_zero, List.set_cons_succ])
                refine wpAnyH_take (i := 18) (oi := ?_) (v := ?_) ?_ (by as_aux_lemma => kernel_rfl) (by as_aux_lemma => kernel_rfl) (by as_aux_lemma => kernel_rfl) ?_ ?_ h0 ?_
                rotate_left 2
                · simp only [List.getElem?_toArray, List.getElem?_cons_zero, List.getElem?_cons_succ]; rfl
                · exact fun _ _ _ h => h
                · refine Or.inl ⟨by rfl, ?_⟩
                  intro w hSw
                  (try dsimp only at hSw)
                  go_simp
                  (try with_reducible rfl)
                (try simp only [Act.put, List.setIfInBounds_toArray, List.set_cons_zero, List.set_cons_succ])
                refine wpAnyH_ready (rs := [1, 19]) (by as_aux_lemma => kernel_rfl) (by simp) ?_
                refine AllReadyH.cons (o := ?_) ?_ (fun K hK => ?_) ?_
                rotate_left
                · simp only [List.getElem?_toArray, List.getElem?_cons_zero, List.getElem?_cons_succ]; rfl
                · skip
                  go_simp
                  refine hK.out _ _ (SB.out _ xD) (fun h1 => ?_)
                  clear hK K
                  (try simp only [Act.put, List.setIfInBounds_toArray, List.set_cons_zero, List.set_cons_succ])
                  refine wpAnyH_ready (rs := [19]) (by as_aux_lemma => kernel_rfl) (by simp) ?_
                  refine AllReadyH.cons (o := ?_) ?_ (fun K hK => ?_) AllReadyH.nil
                  rotate_left
                  · simp only [List.getElem?_toArray, List.getElem?_cons_zero, List.getElem?_cons_succ]; rfl
                  go_simp
                  refine hK.out _ _ (SB.out _ xa) (fun h2 => ?_)
                  clear hK K
                  (try simp only [Act.put, List.setIfInBounds_toArray, List.set_cons_zero, List.set_cons_succ])
                  refine wpAnyH_ready (rs := [20]) (by as_aux_lemma => kernel_rfl) (by simp) ?_
                  refine AllReadyH.cons (o := ?_) ?_ (fun K hK => ?_) AllReadyH.nil
                  rotate_left
                  · simp only [List.getElem?_toArray, List.getElem?_cons_zero, List.getElem?_cons_succ]; rfl
                  refine step_app7 (.tmp 215) (.tmp 233) rfl (by as_aux_lemma => kernel_rfl) r3 ?_
                  refine hK.out _ _ (SB.out _ x3) (fun h3 => ?_)
                  clear hK K
                  (try simp only [Act.put, List.setIfInBounds_toArray, List.set_cons_zero, List.set_cons_succ])
                  refine wpAnyH_take (i := 21) (oi := ?_) (v := ?_) ?_ (by as_aux_lemma => kernel_rfl) (by as_aux_lemma => kernel_rfl) (by as_aux_lemma => kernel_rfl) ?_ ?_ h3 ?_
                  rotate_left 2
                  · simp only [List.getElem?_toArray, List.getElem?_cons_zero, List.getElem?_cons_succ]; rfl
                  · exact fun _ _ _ h => h
                  · refine Or.inl ⟨by rfl, ?_⟩
                    intro w hSw
                    (try dsimp only at hSw)
                    go_simp
                    (try with_reducible rfl)
                  (try simp only [Act.put, List.setIfInBounds_toArray, List.set_cons_zero, List.set_cons_succ])
                  refine wpAnyH_ready (rs := [22]) (by as_aux_lemma => kernel_rfl) (by simp) ?_
                  refine AllReadyH.cons (o := ?_) ?_ (fun K hK => ?_) AllReadyH.nil
                  rotate_left
                  · simp only [List.getElem?_toArray, List.getElem?_cons_zero, List.getElem?_cons_succ]; rfl
                  go_simp
                  refine hK.out _ _ (SB.out _ x9) (fun h4 => ?_)
                  clear hK K
                  (try simp only [Act.put, List.setIfInBounds_toArray, List.set_cons_zero, List.set_cons_succ])
                  refine wpAnyH_done (by as_aux_lemma => kernel_rfl) ?_ _
                  refine NoPanic.normal ?_
                  go_wp2_with fail
                  go_roundw
                  case rel => exact ⟨k + 1, A3, c3, by go_num, by omega, Lib.hid FIN.out.1, Lib.hid FIN.out.2.1, Lib.hid FIN.out.2.2⟩
                  case measure => simp [intOf]; omega
                refine AllReadyH.cons (o := ?_) ?_ (fun K hK => ?_) AllReadyH.nil
                rotate_left
                · simp only [List.getElem?_toArray, List.getElem?_cons_zero, List.getElem?_cons_succ]; rfl
                go_simp
                refine hK.out _ _ (SB.out _ xa) (fun h1 => ?_)
                clear hK K
                (try simp only [Act.put, List.setIfInBounds_toArray, List.set_cons_zero, List.set_cons_succ])
                refine wpAnyH_ready (rs := [1]) (by as_aux_lemma => kernel_rfl) (by simp) ?_
                refine AllReadyH.cons (o := ?_) ?_ (fun K hK => ?_) AllReadyH.nil
                rotate_left
                · simp only [List.getElem?_toArray, List.getElem?_cons_zero, List.getElem?_cons_succ]; rfl
                go_simp
                refine hK.out _ _ (SB.out _ xa) (fun h2 => ?_)
                clear hK K
                (try simp only [Act.put, List.setIfInBounds_toArray, List.set_cons_zero, List.set_cons_succ])
                refine wpAnyH_ready (rs := [20]) (by as_aux_lemma => kernel_rfl) (by simp) ?_
                refine AllReadyH.cons (o := ?_) ?_ (fun K hK => ?_) AllReadyH.nil
                rotate_left
                · simp only [List.getElem?_toArray, List.getElem?_cons_zero, List.getElem?_cons_succ]; rfl
                refine step_app7 (.tmp 215) (.tmp 233) rfl (by as_aux_lemma => kernel_rfl) r3 ?_
                refine hK.out _ _ (SB.out _ x3) (fun h3 => ?_)
                clear hK K
                (try simp only [Act.put, List.setIfInBounds_toArray, List.set_cons_zero, List.set_cons_succ])
                refine wpAnyH_take (i := 21) (oi := ?_) (v := ?_) ?_ (by as_aux_lemma => kernel_rfl) (by as_aux_lemma => kernel_rfl) (by as_aux_lemma => kernel_rfl) ?_ ?_ h3 ?_
                rotate_left 2
                · simp only [List.getElem?_toArray, List.getElem?_cons_zero, List.getElem?_cons_succ]; rfl
                · exact fun _ _ _ h => h
                · refine Or.inl ⟨by rfl, ?_⟩
                  intro w hSw
                  (try dsimp only at hSw)
                  go_simp
                  (try with_reducible rfl)
                (try simp only [Act.put, List.setIfInBounds_toArray, List.set_cons_zero, List.set_cons_succ])
                refine wpAnyH_ready (rs := [22]) (by as_aux_lemma => kernel_rfl) (by simp) ?_
                refine AllReadyH.cons (o := ?_) ?_ (fun K hK => ?_) AllReadyH.nil
                rotate_left
                · simp only [List.getElem?_toArray, List.getElem?_cons_zero, List.getElem?_cons_succ]; rfl
                go_simp
                refine hK.out _ _ (SB.out _ x9) (fun h4 => ?_)
                clear hK K
                (try simp only [Act.put, List.setIfInBounds_toArray, List.set_cons_zero, List.set_cons_succ])
                refine wpAnyH_done (by as_aux_lemma => kernel_rfl) ?_ _
                refine NoPanic.normal ?_
                go_wp2_with fail
                go_roundw
                case rel => exact ⟨k + 1, A3, c3, by go_num, by omega, Lib.hid FIN.out.1, Lib.hid FIN.out.2.1, Lib.hid FIN.out.2.2⟩
                case measure => simp [intOf]; omega
              · obtain rfl : ns = k := by omega
                obtain ⟨RS0, ls1, ls2⟩ := RowNK.own how.out hFs
                have RS := Lib.hid RS0
                have BS := Lib.hid (And.intro ls1 ls2)
                have KHv := Lib.hid (hkp.out.blk KHv.out (by simp; omega))
                have KRv := Lib.hid (hkp.out.blk KRv.out (by simp; omega))
                have FRv := hfr
                have RC := Lib.hid (RC.out.kp hkp.out)
                have R4 := Lib.hid (R4.out.kp hkp.out)
                have R5 := Lib.hid (R5.out.kp hkp.out)
                have R6 := Lib.hid (R6.out.kp hkp.out)
                have R7 := Lib.hid (R7.out.kp hkp.out)
                clear hkp hfr how RS0 ls1 ls2 HST hFs
                go_upto_region 35 with (fail)
                have c9 : wr.cell? ⟨R + 1, 9, none⟩ = some (.int .i64 nk) := by rw [KHv.out.cell 9, hV_get l 12 9 (by omega), if_pos (by omega), hx9]
                have c8 : wr.cell? ⟨R + 1, 8, none⟩ = some (.int .i64 ns) := by rw [KHv.out.cell 8, hV_get l 12 8 (by omega), if_pos (by omega), hx8]
                have SM := Lib.hid (rsome_any (some ad0) l c n p6 nk wr (HB.out _ FRv.out.x) HN.out hc hcm hl' (le4 HQ4.out HLE.out.2.2.2.2.2.1))
                have hFw : F < wr.heap.size := FRv.out.box.lt
                go_wp2_with fail
                refine SM.out.mono ?_
                rintro e wb9 ⟨A9, e9, rfl, ow, xb⟩
                obtain ⟨RW, r1, r2⟩ := RowK.own ow hFw
                have R9 := Lib.hid RW
                have B9 := Lib.hid (And.intro r1 r2)
                have FRb := FRv.out.kept xb
                have s0 : wb9.cell? ⟨F, 9, none⟩ = some (.slice none 0 0) := FRb.box.cell 9
                have s1 := FRb.box.free 9
                obtain ⟨wn9, hwn⟩ : ∃ W, W = wb9.setCell ⟨F, 9, none⟩ (.slice A9 nk e9) := ⟨_, rfl⟩
                have kps : Kp (some F) wr wn9 := by rw [hwn]; exact kp_trans (Kp.of_ext xb) (Kp.set wb9 ⟨F, 9, none⟩ _)
                have kpb : Kp (some F) wb9 wn9 := by rw [hwn]; exact Kp.set wb9 ⟨F, 9, none⟩ _
                have FRv := Lib.hid (show Fr w wn9 F [.int .i64 (word4 l 6), .int .i64 (fixA l 7), .int .i64 x2, .slice AC nc cC, .slice A4 nw e4, .slice A5 nh e5, .slice A6 nd e6, .slice A7 ni e7, .slice AS ns cS, .slice A9 nk e9, .slice none 0 0] by rw [hwn]; exact FRb.set 9 _)
                have KHv := Lib.hid (kps.blk KHv.out (by simp; omega))
                have KRv := Lib.hid (kps.blk KRv.out (by simp; omega))
                have RC := Lib.hid (RC.out.kp kps)
                have R4 := Lib.hid (R4.out.kp kps)
                have R5 := Lib.hid (R5.out.kp kps)
                have R6 := Lib.hid (R6.out.kp kps)
                have R7 := Lib.hid (R7.out.kp kps)
                have RS := Lib.hid (RS.out.kp kps)
                have R9 := Lib.hid (R9.out.kp kpb)
                clear kps kpb RW r1 r2 FRb SM xb ow hFw c9 c8
                go_upto_region 36 with (fail)
                rw [← hwn]
                clear hwn s0 s1
                have c11 : wn9.cell? ⟨R + 1, 11, none⟩ = some (.int .i64 np) := by rw [KHv.out.cell 11, hV_get l 12 11 (by omega), if_pos (by omega), hx11]
                have c9 : wn9.cell? ⟨R + 1, 9, none⟩ = some (.int .i64 nk) := by rw [KHv.out.cell 9, hV_get l 12 9 (by omega), if_pos (by omega), hx9]
                have SM := Lib.hid (rsome_any (some ad0) l c n p7 np wn9 (HB.out _ FRv.out.x) HN.out hc hcm hl' (le4 HQ4.out (Nat.le_of_eq HLE.out.2.2.2.2.2.2)))
                have hFw : F < wn9.heap.size := FRv.out.box.lt
                go_wp2_with fail
                refine SM.out.mono ?_
                rintro e wb10 ⟨A10, e10, rfl, ow, xb⟩
                obtain ⟨RW, r1, r2⟩ := RowK.own ow hFw
                have R10 := Lib.hid RW
                have B10 := Lib.hid (And.intro r1 r2)
                have FRb := FRv.out.kept xb
                have s0 : wb10.cell? ⟨F, 10, none⟩ = some (.slice none 0 0) := FRb.box.cell 10
                have s1 := FRb.box.free 10
                obtain ⟨wn10, hwn⟩ : ∃ W, W = wb10.setCell ⟨F, 10, none⟩ (.slice A10 np e10) := ⟨_, rfl⟩
                have kps : Kp (some F) wn9 wn10 := by rw [hwn]; exact kp_trans (Kp.of_ext xb) (Kp.set wb10 ⟨F, 10, none⟩ _)
                have kpb : Kp (some F) wb10 wn10 := by rw [hwn]; exact Kp.set wb10 ⟨F, 10, none⟩ _
                have FRv := Lib.hid (show Fr w wn10 F [.int .i64 (word4 l 6), .int .i64 (fixA l 7), .int .i64 x2, .slice AC nc cC, .slice A4 nw e4, .slice A5 nh e5, .slice A6 nd e6, .slice A7 ni e7, .slice AS ns cS, .slice A9 nk e9, .slice A10 np e10] by rw [hwn]; exact FRb.set 10 _)
                have KHv := Lib.hid (kps.blk KHv.out (by simp; omega))
                have KRv := Lib.hid (kps.blk KRv.out (by simp; omega))
                have RC := Lib.hid (RC.out.kp kps)
                have R4 := Lib.hid (R4.out.kp kps)
                have R5 := Lib.hid (R5.out.kp kps)
                have R6 := Lib.hid (R6.out.kp kps)
                have R7 := Lib.hid (R7.out.kp kps)
                have RS := Lib.hid (RS.out.kp kps)
                have R9 := Lib.hid (R9.out.kp kps)
                have R10 := Lib.hid (R10.out.kp kpb)
                clear kps kpb RW r1 r2 FRb SM xb ow hFw c11 c9
                go_upto_region 37 with (fail)
                rw [← hwn]
                clear hwn s0 s1
                obtain ⟨P, hP⟩ : ∃ P : FontP, P = { xc := AC, zc := cC, xw := A4, zw := e4, xh := A5, zh := e5, xd := A6, zd := e6, xi := A7, zi := e7, xs := AS, zs := cS, xk := A9, zk := e9, xp := A10, zp := e10 } := ⟨_, rfl⟩
                have DV : D.sum = word4 l 6 ∧ D.design = fixA l 7 ∧ D.first = x2 ∧ D.nc = nc ∧ D.nw = nw ∧ D.nh = nh ∧ D.nd = nd ∧ D.ni = ni ∧ D.ns = ns ∧ D.nk = nk ∧ D.np = np := by
                  obtain ⟨N0, N4, N5, N6, N7, N8, N9, N11⟩ := HNS.out
                  rw [HD.out]
                  exact ⟨rfl, rfl, hx2, N0, N4, N5, N6, N7, N8, N9, N11⟩
                have DF : D.wd = (fun j => fixA l (p1 + j)) ∧ D.hd = (fun j => fixA l (p2 + j)) ∧ D.dd = (fun j => fixA l (p3 + j)) ∧ D.id = (fun j => fixA l (p4 + j)) ∧ D.kd = (fun j => fixA l (p6 + j)) ∧ D.pd = (fun j => fixA l (p7 + j)) := by
                  obtain ⟨N0, N4, N5, N6, N7, N8, N9, N11⟩ := HNS.out
                  obtain ⟨q1, q2, q3, q4, q5, q6, q7⟩ := HPS.out
                  rw [HD.out]
                  simp only [decD, N0, N4, N5, N6, N7, N8, N9]
                  rw [← q1, ← q2, ← q3, ← q4, ← q5, ← q6, ← q7]
                  exact ⟨rfl, rfl, rfl, rfl, rfl, rfl⟩
                obtain ⟨v0, v1, v2, v3, v4, v5, v6, v7, v8, v9, v10⟩ := DV
                obtain ⟨f1, f2, f3, f4, f5, f6⟩ := DF
                have rc : RowNK F 6 wn10 P.xc D.nc D.chr := by rw [hP, v3]; exact RC.out
                have rw' : RowK F wn10 P.xw D.nw D.wd := by rw [hP, v4, f1]; exact R4.out
                have rh : RowK F wn10 P.xh D.nh D.hd := by rw [hP, v5, f2]; exact R5.out
                have rd : RowK F wn10 P.xd D.nd D.dd := by rw [hP, v6, f3]; exact R6.out
                have ri : RowK F wn10 P.xi D.ni D.id := by rw [hP, v7, f4]; exact R7.out
                have rs : RowNK F 4 wn10 P.xs D.ns D.stp := by rw [hP, v8]; exact RS.out
                have rk : RowK F wn10 P.xk D.nk D.kd := by rw [hP, v9, f5]; exact R9.out
                have rp : RowK F wn10 P.xp D.np D.pd := by rw [hP, v10, f6]; exact R10.out
                have FO := Lib.hid (fun (wx : World) a1 a2 a3 a4 a5 a6 a7 a8 => font_of (F := F) (wx := wx) (P := P) HD.out (by rw [hP, v3]; exact BC.out) (by rw [hP, v4]; exact B4.out) (by rw [hP, v5]; exact B5.out) (by rw [hP, v6]; exact B6.out) (by rw [hP, v7]; exact B7.out) (by rw [hP, v8]; exact BS.out) (by rw [hP, v9]; exact B9.out) (by rw [hP, v10]; exact B10.out) a1 a2 a3 a4 a5 a6 a7 a8)
                have OKS := FO.out wn10 rc rw' rh rd ri rs rk rp
                have eV : fontV D P = .agg #[.int .i64 (word4 l 6), .int .i64 (fixA l 7), .int .i64 x2, .slice AC nc cC, .slice A4 nw e4, .slice A5 nh e5, .slice A6 nd e6, .slice A7 ni e7, .slice AS ns cS, .slice A9 nk e9, .slice A10 np e10] := by rw [hP]; simp only [fontV, v0, v1, v2, v3, v4, v5, v6, v7, v8, v9, v10]
                have WNO := fun h => rwrite_no D P wn10 OKS.1 OKS.2 h
                have WYE := fun h => rwrite_yes D P wn10 OKS.1 OKS.2 h
                simp only [eV] at WNO WYE
                have EV := Lib.hid eV
                have ROWS := Lib.hid (And.intro rc (And.intro rw' (And.intro rh (And.intro rd (And.intro ri (And.intro rs (And.intro rk rp)))))))
                have HNO := Lib.hid WNO
                have HYE := Lib.hid WYE
                have q0 : wn10.cell? ⟨F, 0, none⟩ = some (.int .i64 (word4 l 6)) := FRv.out.box.cell 0
                have q1 : wn10.cell? ⟨F, 1, none⟩ = some (.int .i64 (fixA l 7)) := FRv.out.box.cell 1
                have q2 : wn10.cell? ⟨F, 2, none⟩ = some (.int .i64 x2) := FRv.out.box.cell 2
                have q3 : wn10.cell? ⟨F, 3, none⟩ = some (.slice AC nc cC) := FRv.out.box.cell 3
                have q4 : wn10.cell? ⟨F, 4, none⟩ = some (.slice A4 nw e4) := FRv.out.box.cell 4
                have q5 : wn10.cell? ⟨F, 5, none⟩ = some (.slice A5 nh e5) := FRv.out.box.cell 5
                have q6 : wn10.cell? ⟨F, 6, none⟩ = some (.slice A6 nd e6) := FRv.out.box.cell 6
                have q7 : wn10.cell? ⟨F, 7, none⟩ = some (.slice A7 ni e7) := FRv.out.box.cell 7
                have q8 : wn10.cell? ⟨F, 8, none⟩ = some (.slice AS ns cS) := FRv.out.box.cell 8
                have q9 : wn10.cell? ⟨F, 9, none⟩ = some (.slice A9 nk e9) := FRv.out.box.cell 9
                have q10 : wn10.cell? ⟨F, 10, none⟩ = some (.slice A10 np e10) := FRv.out.box.cell 10
                have FX := Lib.hid FRv.out.x
                have FB := FRv
                clear v0 v1 v2 v3 v4 v5 v6 v7 v8 v9 v10 f1 f2 f3 f4 f5 f6 rc rw' rh rd ri rs rk rp OKS eV WNO WYE hP FRv KHv RC R4 R5 R6 R7 RS R9 R10 BC B4 B5 B6 B7 BS B9 B10 HPS HLE HNS
                go_wp2_with fail
                cases hck : checkB D with
                | false =>
                  have NF : ¬ FontOf l := no_font (.inl (by rw [← HD.out]; exact hck))
                  refine (HNO.out hck).mono ?_; rintro e w3 ⟨rfl, x3⟩
                  have X3 := FX.out.trans x3
                  have kR3 := KRv.out.ext x3
                  have r0 : w3.cell? ⟨R, 0, none⟩ = some (.int .i64 0) := kR3.cell 0
                  have z0 := kR3.free 0
                  have r1 : w3.cell? ⟨R, 1, none⟩ = some (.int .i64 0) := kR3.cell 1
                  have z1 := kR3.free 1
                  have r2 : w3.cell? ⟨R, 2, none⟩ = some (.int .i64 0) := kR3.cell 2
                  have z2 := kR3.free 2
                  have r3 : w3.cell? ⟨R, 3, none⟩ = some (.slice none 0 0) := kR3.cell 3
                  have z3 := kR3.free 3
                  have r4 : w3.cell? ⟨R, 4, none⟩ = some (.slice none 0 0) := kR3.cell 4
                  have z4 := kR3.free 4
                  have r5 : w3.cell? ⟨R, 5, none⟩ = some (.slice none 0 0) := kR3.cell 5
                  have z5 := kR3.free 5
                  have r6 : w3.cell? ⟨R, 6, none⟩ = some (.slice none 0 0) := kR3.cell 6
                  have z6 := kR3.free 6
                  have r7 : w3.cell? ⟨R, 7, none⟩ = some (.slice none 0 0) := kR3.cell 7
                  have z7 := kR3.free 7
                  have r8 : w3.cell? ⟨R, 8, none⟩ = some (.slice none 0 0) := kR3.cell 8
                  have z8 := kR3.free 8
                  have r9 : w3.cell? ⟨R, 9, none⟩ = some (.slice none 0 0) := kR3.cell 9
                  have z9 := kR3.free 9
                  have r10 : w3.cell? ⟨R, 10, none⟩ = some (.slice none 0 0) := kR3.cell 10
                  have z10 := kR3.free 10
                  clear HNO HYE ROWS FB x3 hck
                  go_wp2_with fail
                  refine bodyPost_ret (results_font rfl _ _ R 28 (.int .i64 70) (.int .i64 0) (.int .i64 0) (.int .i64 0) (.slice none 0 0) (.slice none 0 0) (.slice none 0 0) (.slice none 0 0) (.slice none 0 0) (.slice none 0 0) (.slice none 0 0) (.slice none 0 0) rfl rfl (((((((((((kR3.set 0 (.int .i64 0)).set 1 (.int .i64 0)).set 2 (.int .i64 0)).set 3 (.slice none 0 0)).set 4 (.slice none 0 0)).set 5 (.slice none 0 0)).set 6 (.slice none 0 0)).set 7 (.slice none 0 0)).set 8 (.slice none 0 0)).set 9 (.slice none 0 0)).set 10 (.slice none 0 0))) rfl ?_
                  exact .inr ⟨rfl, NF, (((((((((((X3.setCell (by show _ ≤ R; omega) _).setCell (by show _ ≤ R; omega) _).setCell (by show _ ≤ R; omega) _).setCell (by show _ ≤ R; omega) _).setCell (by show _ ≤ R; omega) _).setCell (by show _ ≤ R; omega) _).setCell (by show _ ≤ R; omega) _).setCell (by show _ ≤ R; omega) _).setCell (by show _ ≤ R; omega) _).setCell (by show _ ≤ R; omega) _).setCell (by show _ ≤ R; omega) _)⟩
                | true =>
                  refine (HYE.out hck).mono ?_; rintro e w3 ⟨A3, c3, rfl, hc3, s3, x3⟩
                  have X3 := FX.out.trans x3
                  have kR3 := KRv.out.ext x3
                  have kF3 := FB.out.box.ext x3
                  have cv1 := SeenB.str (P := Try.prog) s3 22 9 5 c3 (writeB D).length Try.underlying22 Try.underlying5 Try.underlying9 rfl
                  have cv2 := SeenB.str (P := Try.prog) (HB.out w3 X3) 22 9 5 c n Try.underlying22 Try.underlying5 Try.underlying9 HN.out
                  by_cases heq : writeB D = l
                  · skip
                    obtain ⟨c1, c2, c3', c4, c5, c6, c7, c8⟩ := ROWS.out
                    have FIN := Lib.hid (fun (vs : List Value) => show ReadC w l (.returned (.tuple #[.agg #[.int .i64 (word4 l 6), .int .i64 (fixA l 7), .int .i64 x2, .slice AC nc cC, .slice A4 nw e4, .slice A5 nh e5, .slice A6 nd e6, .slice A7 ni e7, .slice AS ns cS, .slice A9 nk e9, .slice A10 np e10], .int .i64 0])) (w3.setCells R 0 vs) from by
                      have kx := Kp.of_ext (r := some F) x3
                      obtain ⟨ok, sn⟩ := FO.out (w3.setCells R 0 vs) (RowNK.setsR (by omega) vs 0 w3 (c1.kp kx)) (RowK.setsR (by omega) vs 0 w3 (c2.kp kx)) (RowK.setsR (by omega) vs 0 w3 (c3'.kp kx)) (RowK.setsR (by omega) vs 0 w3 (c4.kp kx)) (RowK.setsR (by omega) vs 0 w3 (c5.kp kx)) (RowNK.setsR (by omega) vs 0 w3 (c6.kp kx)) (RowK.setsR (by omega) vs 0 w3 (c7.kp kx)) (RowK.setsR (by omega) vs 0 w3 (c8.kp kx))
                      rw [← EV.out]
                      exact .inl ⟨D, P, rfl, ok, sn, ext_setCells (by omega) _ _ _ X3, hck, heq⟩)
                    generalize (writeB D).length = nw' at *
                    rw [heq] at cv1
                    generalize (⟨l.toArray⟩ : ByteArray) = S1 at *
                    clear c1 c2 c3' c4 c5 c6 c7 c8
                    have q0 : w3.cell? ⟨F, 0, none⟩ = some (.int .i64 (word4 l 6)) := kF3.cell 0
                    have r0 : w3.cell? ⟨R, 0, none⟩ = some (.int .i64 0) := kR3.cell 0
                    have z0 := kR3.free 0
                    have q1 : w3.cell? ⟨F, 1, none⟩ = some (.int .i64 (fixA l 7)) := kF3.cell 1
                    have r1 : w3.cell? ⟨R, 1, none⟩ = some (.int .i64 0) := kR3.cell 1
                    have z1 := kR3.free 1
                    have q2 : w3.cell? ⟨F, 2, none⟩ = some (.int .i64 x2) := kF3.cell 2
                    have r2 : w3.cell? ⟨R, 2, none⟩ = some (.int .i64 0) := kR3.cell 2
                    have z2 := kR3.free 2
                    have q3 : w3.cell? ⟨F, 3, none⟩ = some (.slice AC nc cC) := kF3.cell 3
                    have r3 : w3.cell? ⟨R, 3, none⟩ = some (.slice none 0 0) := kR3.cell 3
                    have z3 := kR3.free 3
                    have q4 : w3.cell? ⟨F, 4, none⟩ = some (.slice A4 nw e4) := kF3.cell 4
                    have r4 : w3.cell? ⟨R, 4, none⟩ = some (.slice none 0 0) := kR3.cell 4
                    have z4 := kR3.free 4
                    have q5 : w3.cell? ⟨F, 5, none⟩ = some (.slice A5 nh e5) := kF3.cell 5
                    have r5 : w3.cell? ⟨R, 5, none⟩ = some (.slice none 0 0) := kR3.cell 5
                    have z5 := kR3.free 5
                    have q6 : w3.cell? ⟨F, 6, none⟩ = some (.slice A6 nd e6) := kF3.cell 6
                    have r6 : w3.cell? ⟨R, 6, none⟩ = some (.slice none 0 0) := kR3.cell 6
                    have z6 := kR3.free 6
                    have q7 : w3.cell? ⟨F, 7, none⟩ = some (.slice A7 ni e7) := kF3.cell 7
                    have r7 : w3.cell? ⟨R, 7, none⟩ = some (.slice none 0 0) := kR3.cell 7
                    have z7 := kR3.free 7
                    have q8 : w3.cell? ⟨F, 8, none⟩ = some (.slice AS ns cS) := kF3.cell 8
                    have r8 : w3.cell? ⟨R, 8, none⟩ = some (.slice none 0 0) := kR3.cell 8
                    have z8 := kR3.free 8
                    have q9 : w3.cell? ⟨F, 9, none⟩ = some (.slice A9 nk e9) := kF3.cell 9
                    have r9 : w3.cell? ⟨R, 9, none⟩ = some (.slice none 0 0) := kR3.cell 9
                    have z9 := kR3.free 9
                    have q10 : w3.cell? ⟨F, 10, none⟩ = some (.slice A10 np e10) := kF3.cell 10
                    have r10 : w3.cell? ⟨R, 10, none⟩ = some (.slice none 0 0) := kR3.cell 10
                    have z10 := kR3.free 10
                    clear HNO HYE ROWS FB x3 s3 kF3 hck heq hc3
                    have n2 : (S1.toList == S1.toList) = true := by simp
                    have n3 : (S1.toList != S1.toList) = false := by simp
                    go_wp2_with fail
                    refine bodyPost_ret (results_font rfl _ _ R 28 (.int .i64 0) (.int .i64 (word4 l 6)) (.int .i64 (fixA l 7)) (.int .i64 x2) (.slice AC nc cC) (.slice A4 nw e4) (.slice A5 nh e5) (.slice A6 nd e6) (.slice A7 ni e7) (.slice AS ns cS) (.slice A9 nk e9) (.slice A10 np e10) rfl rfl (((((((((((kR3.set 0 (.int .i64 (word4 l 6))).set 1 (.int .i64 (fixA l 7))).set 2 (.int .i64 x2)).set 3 (.slice AC nc cC)).set 4 (.slice A4 nw e4)).set 5 (.slice A5 nh e5)).set 6 (.slice A6 nd e6)).set 7 (.slice A7 ni e7)).set 8 (.slice AS ns cS)).set 9 (.slice A9 nk e9)).set 10 (.slice A10 np e10))) rfl ?_
                    exact FIN.out [.int .i64 (word4 l 6), .int .i64 (fixA l 7), .int .i64 x2, .slice AC nc cC, .slice A4 nw e4, .slice A5 nh e5, .slice A6 nd e6, .slice A7 ni e7, .slice AS ns cS, .slice A9 nk e9, .slice A10 np e10]
                  · have NF : ¬ FontOf l := no_font (.inr (by rw [← HD.out]; exact heq))
                    obtain ⟨n1, n2, n3⟩ := strs_ne heq
                    generalize (writeB D).length = nw' at *
                    generalize (⟨l.toArray⟩ : ByteArray) = S1 at *
                    generalize (⟨(writeB D).toArray⟩ : ByteArray) = S2 at *
                    have r0 : w3.cell? ⟨R, 0, none⟩ = some (.int .i64 0) := kR3.cell 0
                    have z0 := kR3.free 0
                    have r1 : w3.cell? ⟨R, 1, none⟩ = some (.int .i64 0) := kR3.cell 1
                    have z1 := kR3.free 1
                    have r2 : w3.cell? ⟨R, 2, none⟩ = some (.int .i64 0) := kR3.cell 2
                    have z2 := kR3.free 2
                    have r3 : w3.cell? ⟨R, 3, none⟩ = some (.slice none 0 0) := kR3.cell 3
                    have z3 := kR3.free 3
                    have r4 : w3.cell? ⟨R, 4, none⟩ = some (.slice none 0 0) := kR3.cell 4
                    have z4 := kR3.free 4
                    have r5 : w3.cell? ⟨R, 5, none⟩ = some (.slice none 0 0) := kR3.cell 5
                    have z5 := kR3.free 5
                    have r6 : w3.cell? ⟨R, 6, none⟩ = some (.slice none 0 0) := kR3.cell 6
                    have z6 := kR3.free 6
                    have r7 : w3.cell? ⟨R, 7, none⟩ = some (.slice none 0 0) := kR3.cell 7
                    have z7 := kR3.free 7
                    have r8 : w3.cell? ⟨R, 8, none⟩ = some (.slice none 0 0) := kR3.cell 8
                    have z8 := kR3.free 8
                    have r9 : w3.cell? ⟨R, 9, none⟩ = some (.slice none 0 0) := kR3.cell 9
                    have z9 := kR3.free 9
                    have r10 : w3.cell? ⟨R, 10, none⟩ = some (.slice none 0 0) := kR3.cell 10
                    have z10 := kR3.free 10
                    clear HNO HYE ROWS FB x3 s3 kF3 hck heq hc3
                    go_wp2_with fail
                    refine bodyPost_ret (results_font rfl _ _ R 28 (.int .i64 70) (.int .i64 0) (.int .i64 0) (.int .i64 0) (.slice none 0 0) (.slice none 0 0) (.slice none 0 0) (.slice none 0 0) (.slice none 0 0) (.slice none 0 0) (.slice none 0 0) (.slice none 0 0) rfl rfl (((((((((((kR3.set 0 (.int .i64 0)).set 1 (.int .i64 0)).set 2 (.int .i64 0)).set 3 (.slice none 0 0)).set 4 (.slice none 0 0)).set 5 (.slice none 0 0)).set 6 (.slice none 0 0)).set 7 (.slice none 0 0)).set 8 (.slice none 0 0)).set 9 (.slice none 0 0)).set 10 (.slice none 0 0))) rfl ?_
                    exact .inr ⟨rfl, NF, (((((((((((X3.setCell (by show _ ≤ R; omega) _).setCell (by show _ ≤ R; omega) _).setCell (by show _ ≤ R; omega) _).setCell (by show _ ≤ R; omega) _).setCell (by show _ ≤ R; omega) _).setCell (by show _ ≤ R; omega) _).setCell (by show _ ≤ R; omega) _).setCell (by show _ ≤ R; omega) _).setCell (by show _ ≤ R; omega) _).setCell (by show _ ≤ R; omega) _).setCell (by show _ ≤ R; omega) _)⟩
end L07
end Go.Proofs.Ytggedodfkjdegaa

