/- The landed Read of layer 7: the font that bytes tell of. -/
import Derived.Test.YtggedodfkjdegaaTakenC07
import Derived.Shelf.Abstract
namespace Go.Proofs.Ytggedodfkjdegaa
open Go.RowKit Go.Deep
namespace L07
open L06

attribute [local go_sem] Oper.semAt_some

set_option maxRecDepth 100000 in
set_option maxHeartbeats 40000000 in
theorem taken_any (A : Option Addr) (l : List UInt8) (c : Nat) (w : World) (hb : SeenB w A l) (hc : l.length ≤ c) (hl : l.length ≤ 100000) :
    Calls Try.prog 11 #[.slice A l.length c] w (TakenF w l) := by
  have HB := Lib.hid hb
  have HC := Lib.hid hc
  have HLL := Lib.hid hl
  obtain ⟨n, hn⟩ : ∃ n, n = l.length := ⟨_, rfl⟩
  rw [← hn]
  have HN := Lib.hid hn
  clear hb hc hl hn
  refine (callsIn_wide (n := 9)).1 (callsIn_of_wp_marks Try.func11 rfl trivial ?_ rfl)
  refine wpIn_wide.2 ?_
  simp only [Try.ntmps11, List.size_toArray, List.length_cons, List.length_nil, Nat.reduceAdd, Nat.reduceSub, Array.replicate_succ, Array.replicate_zero, List.push_toArray, List.append_toArray, List.nil_append, List.cons_append]
  go_wp2_with fail
  obtain ⟨WA, hWA⟩ : ∃ WA, WA = (((((((w.alloc (.cells #[.int .i64 0, .int .i64 0, .int .i64 0, .slice none 0 0, .slice none 0 0, .slice none 0 0, .slice none 0 0, .slice none 0 0, .slice none 0 0, .slice none 0 0, .slice none 0 0] 28)).alloc (.cells #[.slice A n c] 57)).alloc (.cells #[.slice none 0 0] 25)).alloc (.cells #[.slice none 0 0] 25)).alloc (.cells #[.slice none 0 0] 25)).alloc (.cells #[.slice none 0 0] 25)).alloc (.cells #[.int .i64 12, .func (.func 26) #[.pointer (some ⟨w.heap.size + 1, 0, none⟩)] #[], .pointer (some ⟨w.heap.size + 1 + 1, 0, none⟩)] 62)) := ⟨_, rfl⟩
  rw [← hWA]
  have kR : Blk WA (w.heap.size) 28 [.int .i64 0, .int .i64 0, .int .i64 0, .slice none 0 0, .slice none 0 0, .slice none 0 0, .slice none 0 0, .slice none 0 0, .slice none 0 0, .slice none 0 0, .slice none 0 0] := by rw [hWA]; exact (Blk.lit _ _ _ _ (by simp)).ext (((((((Ext.refl _).alloc _).alloc _).alloc _).alloc _).alloc _).alloc _)
  have kT : Blk WA (w.heap.size + 1) 57 [.slice A n c] := by rw [hWA]; exact (Blk.lit _ _ _ _ (by simp)).ext ((((((Ext.refl _).alloc _).alloc _).alloc _).alloc _).alloc _)
  have kH : Blk WA (w.heap.size + 1 + 1) 25 [.slice none 0 0] := by rw [hWA]; exact (Blk.lit _ _ _ _ (by simp)).ext (((((Ext.refl _).alloc _).alloc _).alloc _).alloc _)
  have kS : Blk WA (w.heap.size + 1 + 1 + 1) 25 [.slice none 0 0] := by rw [hWA]; exact (Blk.lit _ _ _ _ (by simp)).ext ((((Ext.refl _).alloc _).alloc _).alloc _)
  have kC : Blk WA (w.heap.size + 1 + 1 + 1 + 1) 25 [.slice none 0 0] := by rw [hWA]; exact (Blk.lit _ _ _ _ (by simp)).ext (((Ext.refl _).alloc _).alloc _)
  have kP : Blk WA (w.heap.size + 1 + 1 + 1 + 1 + 1) 25 [.slice none 0 0] := by rw [hWA]; exact (Blk.lit _ _ _ _ (by simp)).ext ((Ext.refl _).alloc _)
  have kQ : Blk WA (w.heap.size + 1 + 1 + 1 + 1 + 1 + 1) 62 [.int .i64 12, .func (.func 26) #[.pointer (some ⟨w.heap.size + 1, 0, none⟩)] #[], .pointer (some ⟨w.heap.size + 1 + 1, 0, none⟩)] := by rw [hWA]; exact (Blk.lit _ _ _ _ (by simp)).ext (Ext.refl _)
  have hX : Ext w WA := by rw [hWA]; exact ((((((((Ext.refl _).alloc _).alloc _).alloc _).alloc _).alloc _).alloc _).alloc _)
  have hz : WA.heap.size = w.heap.size + 1 + 1 + 1 + 1 + 1 + 1 + 1 := by rw [hWA]; simp
  clear hWA
  generalize hg : w.heap.size + 1 = g at *
  generalize hbh : g + 1 = bh at *
  generalize hbs : bh + 1 = bs at *
  generalize hbc : bs + 1 = bc at *
  generalize hbt : bc + 1 = bt at *
  generalize hpb : bt + 1 = pb at *
  have L1 := laid1 w WA g bh pb (by omega) (by omega) (by omega) (by omega) kQ ⟨kH.cell 0, kH.free 0⟩
  have hbT : BoxT w WA g l := ⟨A, c, by rw [← HN.out]; exact kT.cell 0, kT.free 0, HC.out, HB.out⟩
  have TT := Lib.hid (ttake_any w WA g pb 1 (ps1 bh) l L1 hbT hX HLL.out (by omega))
  clear hbT L1 kQ kT
  refine TT.out.mono ?_
  rintro e w2 ⟨C1, (⟨rfl, F1, BT1, D1⟩ | ⟨rfl, NF⟩)⟩
  · have hl24 := fits1.1 F1
    have X2 := C1.old w (Nat.le_refl _) hX
    have hz2 := C1.size
    obtain ⟨A1, c1, qh, _, _, rd⟩ := D1 0 (by omega)
    have e12 : (ps1 bh 0).n.toNat = 12 := rfl
    rw [e12] at qh rd
    have qh : w2.cell? ⟨bh, 0, none⟩ = some (.slice A1 12 c1) := qh
    obtain ⟨r1, rfl, hr1, _⟩ := rd 0 (by omega)
    have ra : ∀ i, i < 12 → w2.cell? ⟨r1, i, none⟩ = some (.int .i64 (half l i)) := fun i hi => by
      obtain ⟨r, e, _, hc⟩ := rd i hi
      have e : (⟨r1, 0, none⟩ : Addr) = ⟨r, 0, none⟩ := Option.some.inj e
      have e : r1 = r := congrArg Addr.block e
      rw [← row1 l bh i, e]
      exact hc
    have hr1' := World.block_lt_of_cell? w2 _ (ra 0 (by omega))
    have hr1' : r1 < w2.heap.size := hr1'
    have OB : ∀ b, b ≠ g → b ≠ bh → ∀ j, ¬ OnP g (ps1 bh) 1 ⟨b, j, none⟩ := by
      rintro b hb1 hb2 j (h | ⟨i, _, h⟩)
      · exact hb1 (congrArg Addr.block h)
      · exact hb2 (congrArg Addr.block h)
    have kR2 : Blk w2 w.heap.size 28 [.int .i64 0, .int .i64 0, .int .i64 0, .slice none 0 0, .slice none 0 0, .slice none 0 0, .slice none 0 0, .slice none 0 0, .slice none 0 0, .slice none 0 0, .slice none 0 0] := C1.blk _ _ _ _ (OB w.heap.size (by omega) (by omega)) kR
    have kS2 : Blk w2 bs 25 [.slice none 0 0] := C1.blk _ _ _ _ (OB bs (by omega) (by omega)) kS
    have kC2 : Blk w2 bc 25 [.slice none 0 0] := C1.blk _ _ _ _ (OB bc (by omega) (by omega)) kC
    have kP2 : Blk w2 bt 25 [.slice none 0 0] := C1.blk _ _ _ _ (OB bt (by omega) (by omega)) kP
    have hbh2 : bh < w2.heap.size := by omega
    have hbtF : bt < w2.heap.size := by omega
    have a2 := ra 2 (by omega)
    obtain ⟨u2, v2⟩ := half_le l 2
    have a3 := ra 3 (by omega)
    obtain ⟨u3, v3⟩ := half_le l 3
    have a4 := ra 4 (by omega)
    obtain ⟨u4, v4⟩ := half_le l 4
    have a5 := ra 5 (by omega)
    obtain ⟨u5, v5⟩ := half_le l 5
    have a6 := ra 6 (by omega)
    obtain ⟨u6, v6⟩ := half_le l 6
    have a7 := ra 7 (by omega)
    obtain ⟨u7, v7⟩ := half_le l 7
    have a8 := ra 8 (by omega)
    obtain ⟨u8, v8⟩ := half_le l 8
    have a9 := ra 9 (by omega)
    obtain ⟨u9, v9⟩ := half_le l 9
    have a11 := ra 11 (by omega)
    obtain ⟨u11, v11⟩ := half_le l 11
    clear ra rd D1 OB kR kS kC kP kH TT C1 F1 hX hz
    go_wp2_with fail
    obtain ⟨wf, hwf⟩ : ∃ wf, wf = w2.alloc (.cells #[.int .i64 0, .int .i64 0, .int .i64 (half l 2), .slice none 0 0, .slice none 0 0, .slice none 0 0, .slice none 0 0, .slice none 0 0, .slice none 0 0, .slice none 0 0, .slice none 0 0] 28) := ⟨_, rfl⟩
    rw [← hwf]
    have kF : Blk wf w2.heap.size 28 [.int .i64 0, .int .i64 0, .int .i64 (half l 2), .slice none 0 0, .slice none 0 0, .slice none 0 0, .slice none 0 0, .slice none 0 0, .slice none 0 0, .slice none 0 0, .slice none 0 0] := by rw [hwf]; exact Blk.lit _ _ _ _ rfl
    have xf : Ext w2 wf := by rw [hwf]; exact (Ext.refl _).alloc _
    have hzf : wf.heap.size = w2.heap.size + 1 := by rw [hwf]; simp
    clear hwf
    have kR2 := kR2.ext xf
    have kS2 := kS2.ext xf
    have kC2 := kC2.ext xf
    have kP2 := kP2.ext xf
    have BT1 := BT1.ext xf
    have X2 := X2.trans xf
    have qh := xf.at qh
    have a2 := xf.at a2
    have a3 := xf.at a3
    have a4 := xf.at a4
    have a5 := xf.at a5
    have a6 := xf.at a6
    have a7 := xf.at a7
    have a8 := xf.at a8
    have a9 := xf.at a9
    have a11 := xf.at a11
    generalize w2.heap.size = F at *
    clear xf
    have wA : IntKind.i64.wrap (half l 3 - half l 2) = half l 3 - half l 2 := IntWalk.i64_in _ (by omega)
    have wB : IntKind.i64.wrap (half l 3 - half l 2 + 1) = half l 3 - half l 2 + 1 := IntWalk.i64_in _ (by omega)
    have wC : IntKind.i64.wrap (4 * (half l 3 - half l 2 + 1)) = 4 * (half l 3 - half l 2 + 1) := IntWalk.i64_in _ (by omega)
    have wD : IntKind.i64.wrap (4 * half l 8) = 4 * half l 8 := IntWalk.i64_in _ (by omega)
    have hL2 := HLL.out
    simp only [List.append_eq, List.cons_append, List.nil_append]
    go_still_tail 64, (by kernel_rfl)
    change wpList _ _ _ _ _ wf.drew
    go_wp2_with fail
    obtain ⟨WB, hWB⟩ : ∃ WB, WB = (wf.alloc (.cells (parts2 l g bs bc bt F).toArray 62)).drew := ⟨_, rfl⟩
    change Calls _ _ _ (wf.alloc (.cells (parts2 l g bs bc bt F).toArray 62)).drew _
    rw [← hWB]
    have xb : Ext wf WB := by rw [hWB]; exact ((Ext.refl _).alloc _).drew
    have kB : Blk WB (F + 1) 62 (parts2 l g bs bc bt F) := by rw [hWB]; exact (Blk.lit wf (F + 1) _ _ hzf.symm).ext ((Ext.refl _).drew)
    have hzB : WB.heap.size = wf.heap.size + 1 := by rw [hWB]; simp
    clear hWB
    have kR3 : Blk WB w.heap.size 28 [.int .i64 0, .int .i64 0, .int .i64 0, .slice none 0 0, .slice none 0 0, .slice none 0 0, .slice none 0 0, .slice none 0 0, .slice none 0 0, .slice none 0 0, .slice none 0 0] := Blk.ext kR2 xb
    have kS3 : Blk WB bs 25 [.slice none 0 0] := Blk.ext kS2 xb
    have kC3 : Blk WB bc 25 [.slice none 0 0] := Blk.ext kC2 xb
    have kP3 : Blk WB bt 25 [.slice none 0 0] := Blk.ext kP2 xb
    have kF3 : Blk WB F 28 [.int .i64 0, .int .i64 0, .int .i64 (half l 2), .slice none 0 0, .slice none 0 0, .slice none 0 0, .slice none 0 0, .slice none 0 0, .slice none 0 0, .slice none 0 0, .slice none 0 0] := Blk.ext kF xb
    have BT3 : BoxT w WB g (l.drop 24) := BoxT.ext BT1 xb
    have X3 := X2.trans xb
    have L2 := laid2 w WB l g bs bc bt F (F + 1) (by omega) (by omega) (by omega) (by omega) (by omega) (by omega) (by omega) kB ⟨kS3.cell 0, kS3.free 0⟩ ⟨kC3.cell 0, kC3.free 0⟩ ⟨kP3.cell 0, kP3.free 0⟩ _ kF3
    have TT := Lib.hid (ttake_any w WB g (F + 1) 9 (ps2 l bs bc bt F) (l.drop 24) L2 BT3 X3 (by rw [List.length_drop]; omega) (by omega))
    have OR : ∀ j, ¬ OnP g (ps2 l bs bc bt F) 9 ⟨w.heap.size, j, none⟩ := by
      rintro j (h | ⟨i, hi, h⟩)
      · exact absurd (congrArg Addr.block h) (by show w.heap.size ≠ g; omega)
      · have := L2.lo i hi; have k2 := key2 l bs bc bt F i hi
        exact absurd (congrArg Addr.block h) (by show w.heap.size ≠ (ps2 l bs bc bt F i).b; omega)
    clear kR2 kS2 kC2 kP2 kF BT1 X2 qh BT3 kB wA wB wC wD a2 a3 a4 a5 a6 a7 a8 a9 a11 kS3 kC3 kP3
    refine TT.out.mono ?_
    rintro e w3 ⟨C3, (⟨rfl, _, _, D3⟩ | ⟨rfl, NF⟩)⟩
    · have X4 := C3.old w (Nat.le_refl _) X3
      have hz3 := C3.size
      have OF : ∀ o, o ≠ 4 → o ≠ 5 → o ≠ 6 → o ≠ 7 → o ≠ 9 → o ≠ 10 → ¬ OnP g (ps2 l bs bc bt F) 9 ⟨F, o, none⟩ := by
        rintro o h4 h5 h6 h7 h9 h10 (h | ⟨i, hi, h⟩)
        · exact absurd (congrArg Addr.block h) (by show F ≠ g; omega)
        · have k2 := key2 l bs bc bt F i hi
          have e1 : F = (ps2 l bs bc bt F i).b := congrArg Addr.block h
          have e2 : o = (ps2 l bs bc bt F i).o := congrArg Addr.off h
          omega
      have kR4 : Blk w3 w.heap.size 28 [.int .i64 0, .int .i64 0, .int .i64 0, .slice none 0 0, .slice none 0 0, .slice none 0 0, .slice none 0 0, .slice none 0 0, .slice none 0 0, .slice none 0 0, .slice none 0 0] := C3.blk _ _ _ _ OR kR3
      have f0 : w3.cell? ⟨F, 0, none⟩ = some (.int .i64 0) := C3.cell _ _ (OF 0 (by omega) (by omega) (by omega) (by omega) (by omega) (by omega)) (kF3.cell 0)
      have z0 : w3.frozen? ⟨F, 0, none⟩ = false := C3.fz _ _ (OF 0 (by omega) (by omega) (by omega) (by omega) (by omega) (by omega)) (kF3.cell 0) (kF3.free 0)
      have f1 : w3.cell? ⟨F, 1, none⟩ = some (.int .i64 0) := C3.cell _ _ (OF 1 (by omega) (by omega) (by omega) (by omega) (by omega) (by omega)) (kF3.cell 1)
      have z1 : w3.frozen? ⟨F, 1, none⟩ = false := C3.fz _ _ (OF 1 (by omega) (by omega) (by omega) (by omega) (by omega) (by omega)) (kF3.cell 1) (kF3.free 1)
      have f2 : w3.cell? ⟨F, 2, none⟩ = some (.int .i64 (half l 2)) := C3.cell _ _ (OF 2 (by omega) (by omega) (by omega) (by omega) (by omega) (by omega)) (kF3.cell 2)
      have z2 : w3.frozen? ⟨F, 2, none⟩ = false := C3.fz _ _ (OF 2 (by omega) (by omega) (by omega) (by omega) (by omega) (by omega)) (kF3.cell 2) (kF3.free 2)
      have f3 : w3.cell? ⟨F, 3, none⟩ = some (.slice none 0 0) := C3.cell _ _ (OF 3 (by omega) (by omega) (by omega) (by omega) (by omega) (by omega)) (kF3.cell 3)
      have z3 : w3.frozen? ⟨F, 3, none⟩ = false := C3.fz _ _ (OF 3 (by omega) (by omega) (by omega) (by omega) (by omega) (by omega)) (kF3.cell 3) (kF3.free 3)
      have f8 : w3.cell? ⟨F, 8, none⟩ = some (.slice none 0 0) := C3.cell _ _ (OF 8 (by omega) (by omega) (by omega) (by omega) (by omega) (by omega)) (kF3.cell 8)
      have z8 : w3.frozen? ⟨F, 8, none⟩ = false := C3.fz _ _ (OF 8 (by omega) (by omega) (by omega) (by omega) (by omega) (by omega)) (kF3.cell 8) (kF3.free 8)
      obtain ⟨AS, cS, qS, _, _, rS⟩ := D3 0 (by omega)
      obtain ⟨r0, rfl, hr0, _⟩ := rS 0 (by show 0 < 2; omega)
      have sa : ∀ i, i < 2 → w3.cell? ⟨r0, i, none⟩ = some (.int .i64 (word4 l (6 + i))) := fun i hi => by
        obtain ⟨r, e, _, hc⟩ := rS i hi
        have e : (⟨r0, 0, none⟩ : Addr) = ⟨r, 0, none⟩ := Option.some.inj e
        have e : r0 = r := congrArg Addr.block e
        rw [← row2_w l bs bc bt F i, e]
        exact hc
      have s0 : w3.cell? ⟨r0, 0, none⟩ = some (.int .i64 (word4 l 6)) := sa 0 (by omega)
      have s1 : w3.cell? ⟨r0, 1, none⟩ = some (.int .i64 (word4 l 7)) := sa 1 (by omega)
      have qS : w3.cell? ⟨bs, 0, none⟩ = some (.slice (some ⟨r0, 0, none⟩) 2 cS) := qS
      have hr0F : r0 ≠ F := by omega
      have hbsF : bs ≠ F := by omega
      obtain ⟨AC, cC, qC, hcC, hmC, rC⟩ := D3 1 (by omega)
      obtain ⟨AW, cW, qW, hcW, hmW, rW⟩ := D3 2 (by omega)
      obtain ⟨AH, cH, qH, hcH, hmH, rH⟩ := D3 3 (by omega)
      obtain ⟨AD, cD, qD, hcD, hmD, rD⟩ := D3 4 (by omega)
      obtain ⟨AI, cI, qI, hcI, hmI, rI⟩ := D3 5 (by omega)
      obtain ⟨AT, cT, qT, hcT, hmT, rT⟩ := D3 6 (by omega)
      obtain ⟨AK, cK, qK, hcK, hmK, rK⟩ := D3 7 (by omega)
      obtain ⟨AP, cP, qP, hcP, hmP, rP⟩ := D3 8 (by omega)
      obtain ⟨NC, hNC⟩ : ∃ NC, NC = (half l 3 - half l 2 + 1).toNat := ⟨_, rfl⟩
      obtain ⟨NS, hNS⟩ : ∃ NS, NS = (half l 8).toNat := ⟨_, rfl⟩
      have eC : (ps2 l bs bc bt F 1).n.toNat = 4 * NC := by show (4 * (half l 3 - half l 2 + 1)).toNat = _; omega
      have eT : (ps2 l bs bc bt F 6).n.toNat = 4 * NS := by show (4 * half l 8).toNat = _; omega
      rw [eC] at qC hcC rC
      rw [eT] at qT hcT rT
      have qC : w3.cell? ⟨bc, 0, none⟩ = some (.slice AC (4 * NC) cC) := qC
      have qT : w3.cell? ⟨bt, 0, none⟩ = some (.slice AT (4 * NS) cT) := qT
      have qW : w3.cell? ⟨F, 4, none⟩ = some (.slice AW (half l 4).toNat cW) := qW
      have qH : w3.cell? ⟨F, 5, none⟩ = some (.slice AH (half l 5).toNat cH) := qH
      have qD : w3.cell? ⟨F, 6, none⟩ = some (.slice AD (half l 6).toNat cD) := qD
      have qI : w3.cell? ⟨F, 7, none⟩ = some (.slice AI (half l 7).toNat cI) := qI
      have qK : w3.cell? ⟨F, 9, none⟩ = some (.slice AK (half l 9).toNat cK) := qK
      have qP : w3.cell? ⟨F, 10, none⟩ = some (.slice AP (half l 11).toNat cP) := qP
      obtain ⟨rc, hrc, hAC, ca⟩ := rowD_four rC rfl
      obtain ⟨rt, hrt, hAT, ta⟩ := rowD_four rT rfl
      have hNCb : NC ≤ 65536 := by omega
      have hNSb : NS ≤ 65536 := by omega
      have HNC := Lib.hid hNC
      have HNS := Lib.hid hNS
      have RW := Lib.hid rW; have RH := Lib.hid rH; have RD := Lib.hid rD; have RI := Lib.hid rI; have RK := Lib.hid rK; have RP := Lib.hid rP
      have CA := Lib.hid ca; have TA := Lib.hid ta
      have HB5 := Lib.hid hrc; have HB6 := Lib.hid hrt
      have hzF : F < w3.heap.size := by omega
      have hzR : w.heap.size < F := by omega
      have hz3' : WB.heap.size ≤ w3.heap.size := by omega
      have hWBF : F < WB.heap.size := by omega
      clear hNC hNS eC eT rC rT rW rH rD rI rK rP ca ta
      clear kF3 OF OR C3 TT L2 rS sa D3
      go_wp2_with fail
      refine wp_region_noPanic ?_
      refine wp_region_held_drew (S := (fun w' => w'.cell? ⟨bs, 0, none⟩ = some (.slice (some ⟨r0, 0, none⟩) 2 cS) ∧ w'.cell? ⟨r0, 0, none⟩ = some (.int .i64 (word4 l 6)) ∧ w'.cell? ⟨r0, 1, none⟩ = some (.int .i64 (word4 l 7)))) (by kernel_rfl) ⟨qS, s0, s1⟩ (fun h0 => ?_)
      refine wpAnyH_take (i := 0) (oi := ?_) (v := ?_) ?_ (by kernel_rfl) (by kernel_rfl) (by kernel_rfl) ?_ ?_ h0 ?_
      rotate_left 2
      · simp only [List.getElem?_toArray, List.getElem?_cons_zero]; rfl
      · exact fun _ _ _ h => h
      · refine Or.inl ⟨by rfl, ?_⟩
        intro w hSw
        (try dsimp only at hSw)
        go_simp
        (try with_reducible rfl)
      (try simp only [Act.put, List.setIfInBounds_toArray, List.set_cons_zero, List.set_cons_succ])
      refine wpAnyH_take (i := 1) (oi := ?_) (v := ?_) ?_ (by kernel_rfl) (by kernel_rfl) (by kernel_rfl) ?_ ?_ h0 ?_
      rotate_left 2
      · simp only [List.getElem?_toArray, List.getElem?_cons_zero, List.getElem?_cons_succ]; rfl
      · exact fun _ _ _ h => h
      · refine Or.inl ⟨by rfl, ?_⟩
        intro w hSw
        (try dsimp only at hSw)
        go_simp
        (try with_reducible rfl)
      (try simp only [Act.put, List.setIfInBounds_toArray, List.set_cons_zero, List.set_cons_succ])
      refine wpAnyH_take (i := 2) (oi := ?_) (v := ?_) ?_ (by kernel_rfl) (by kernel_rfl) (by kernel_rfl) ?_ ?_ h0 ?_
      rotate_left 2
      · simp only [List.getElem?_toArray, List.getElem?_cons_zero, List.getElem?_cons_succ]; rfl
      · exact fun _ _ _ h => h
      · refine Or.inl ⟨by rfl, ?_⟩
        intro w hSw
        (try dsimp only at hSw)
        go_simp
        (try with_reducible rfl)
      (try simp only [Act.put, List.setIfInBounds_toArray, List.set_cons_zero, List.set_cons_succ])
      refine wpAnyH_take (i := 3) (oi := ?_) (v := ?_) ?_ (by kernel_rfl) (by kernel_rfl) (by kernel_rfl) ?_ ?_ h0 ?_
      rotate_left 2
      · simp only [List.getElem?_toArray, List.getElem?_cons_zero, List.getElem?_cons_succ]; rfl
      · exact fun _ _ _ h => h
      · refine Or.inl ⟨by rfl, ?_⟩
        intro w hSw
        (try dsimp only at hSw)
        go_simp
        (try with_reducible rfl)
      (try simp only [Act.put, List.setIfInBounds_toArray, List.set_cons_zero, List.set_cons_succ])
      refine wpAnyH_take (i := 4) (oi := ?_) (v := ?_) ?_ (by kernel_rfl) (by kernel_rfl) (by kernel_rfl) ?_ ?_ h0 ?_
      rotate_left 2
      · simp only [List.getElem?_toArray, List.getElem?_cons_zero, List.getElem?_cons_succ]; rfl
      · exact fun _ _ _ h => h
      · refine Or.inl ⟨by rfl, ?_⟩
        intro w hSw
        (try dsimp only at hSw)
        go_simp
        (try with_reducible rfl)
      (try simp only [Act.put, List.setIfInBounds_toArray, List.set_cons_zero, List.set_cons_succ])
      refine wpAnyH_take (i := 5) (oi := ?_) (v := ?_) ?_ (by kernel_rfl) (by kernel_rfl) (by kernel_rfl) ?_ ?_ h0 ?_
      rotate_left 2
      · simp only [List.getElem?_toArray, List.getElem?_cons_zero, List.getElem?_cons_succ]; rfl
      · exact fun _ _ _ h => h
      · refine Or.inl ⟨by rfl, ?_⟩
        intro w hSw
        (try dsimp only at hSw)
        go_simp
        (try with_reducible rfl)
      (try simp only [Act.put, List.setIfInBounds_toArray, List.set_cons_zero, List.set_cons_succ])
      refine wpAnyH_take (i := 6) (oi := ?_) (v := ?_) ?_ (by kernel_rfl) (by kernel_rfl) (by kernel_rfl) ?_ ?_ h0 ?_
      rotate_left 2
      · simp only [List.getElem?_toArray, List.getElem?_cons_zero, List.getElem?_cons_succ]; rfl
      · exact fun _ _ _ h => h
      · refine Or.inl ⟨by rfl, ?_⟩
        intro w hSw
        (try dsimp only at hSw)
        go_simp
        (try with_reducible rfl)
      (try simp only [Act.put, List.setIfInBounds_toArray, List.set_cons_zero, List.set_cons_succ])
      refine wpAnyH_ready (rs := [7]) (by kernel_rfl) (by simp) ?_
      refine AllReadyH.cons (o := ?_) ?_ (fun K hK => ?_) AllReadyH.nil
      rotate_left
      · simp only [List.getElem?_toArray, List.getElem?_cons_zero, List.getElem?_cons_succ]; rfl
      go_simp
      refine hK.out _ _ ⟨?_, ?_, ?_⟩ (fun h1 => ?_)
      · show (w3.setCell ⟨F, 0, none⟩ (.int .i64 (word4 l 6))).cell? _ = _; rw [World.cell?_setCell_far _ _ _ _ (by show F ≠ bs; omega)]; exact qS
      · show (w3.setCell ⟨F, 0, none⟩ (.int .i64 (word4 l 6))).cell? _ = _; rw [World.cell?_setCell_far _ _ _ _ (by show F ≠ r0; omega)]; exact s0
      · show (w3.setCell ⟨F, 0, none⟩ (.int .i64 (word4 l 6))).cell? _ = _; rw [World.cell?_setCell_far _ _ _ _ (by show F ≠ r0; omega)]; exact s1
      clear hK K
      (try simp only [Act.put, List.setIfInBounds_toArray, List.set_cons_zero, List.set_cons_succ])
      refine wpAnyH_take (i := 8) (oi := ?_) (v := ?_) ?_ (by kernel_rfl) (by kernel_rfl) (by kernel_rfl) ?_ ?_ h1 ?_
      rotate_left 2
      · simp only [List.getElem?_toArray, List.getElem?_cons_zero, List.getElem?_cons_succ]; rfl
      · exact fun _ _ _ h => h
      · refine Or.inl ⟨by rfl, ?_⟩
        intro w hSw
        (try dsimp only at hSw)
        go_simp
        (try with_reducible rfl)
      (try simp only [Act.put, List.setIfInBounds_toArray, List.set_cons_zero, List.set_cons_succ])
      refine wpAnyH_ready (rs := [9]) (by kernel_rfl) (by simp) ?_
      refine AllReadyH.cons (o := ?_) ?_ (fun K hK => ?_) AllReadyH.nil
      rotate_left
      · simp only [List.getElem?_toArray, List.getElem?_cons_zero, List.getElem?_cons_succ]; rfl
      go_simp
      refine hK.out _ _ ⟨?_, ?_, ?_⟩ (fun h2 => ?_)
      · show ((w3.setCell ⟨F, 0, none⟩ (.int .i64 (word4 l 6))).setCell ⟨F, 1, none⟩ (.int .i64 (word4 l 7))).cell? _ = _; rw [World.cell?_setCell_far _ _ _ _ (by show F ≠ bs; omega), World.cell?_setCell_far _ _ _ _ (by show F ≠ bs; omega)]; exact qS
      · show ((w3.setCell ⟨F, 0, none⟩ (.int .i64 (word4 l 6))).setCell ⟨F, 1, none⟩ (.int .i64 (word4 l 7))).cell? _ = _; rw [World.cell?_setCell_far _ _ _ _ (by show F ≠ r0; omega), World.cell?_setCell_far _ _ _ _ (by show F ≠ r0; omega)]; exact s0
      · show ((w3.setCell ⟨F, 0, none⟩ (.int .i64 (word4 l 6))).setCell ⟨F, 1, none⟩ (.int .i64 (word4 l 7))).cell? _ = _; rw [World.cell?_setCell_far _ _ _ _ (by show F ≠ r0; omega), World.cell?_setCell_far _ _ _ _ (by show F ≠ r0; omega)]; exact s1
      clear hK K
      (try simp only [Act.put, List.setIfInBounds_toArray, List.set_cons_zero, List.set_cons_succ])
      refine wpAnyH_done (by kernel_rfl) ?_ _
      refine NoPanic.normal ?_
      clear h0 h1 h2
      obtain ⟨w4, hw4⟩ : ∃ w4, w4 = ((w3.setCell ⟨F, 0, none⟩ (.int .i64 (word4 l 6))).setCell ⟨F, 1, none⟩ (.int .i64 (word4 l 7))).drew := ⟨_, rfl⟩
      rw [← hw4]
      have CF4 : Chg (fun p => p.block = F) w.heap.size w3 w4 := by
        rw [hw4]
        exact ((Chg.set (T := fun p => p.block = F) w3 F 0 _ rfl (by omega)).trans (Chg.set (T := fun p => p.block = F) _ F 1 _ rfl (by omega))).trans (Chg.of_ext ((Ext.refl _).drew))
      have g0 : w4.cell? ⟨F, 0, none⟩ = some (.int .i64 (word4 l 6)) := by
        rw [hw4]; show ((w3.setCell ⟨F, 0, none⟩ (.int .i64 (word4 l 6))).setCell ⟨F, 1, none⟩ (.int .i64 (word4 l 7))).cell? _ = _
        rw [World.cell?_setCell_other _ _ _ _ (by simp)]
        exact World.cell?_setCell_same _ _ _ f0
      have g1 : w4.cell? ⟨F, 1, none⟩ = some (.int .i64 (word4 l 7)) := by
        rw [hw4]; show ((w3.setCell ⟨F, 0, none⟩ (.int .i64 (word4 l 6))).setCell ⟨F, 1, none⟩ (.int .i64 (word4 l 7))).cell? _ = _
        exact World.cell?_setCell_same _ _ _ ((World.cell?_setCell_other _ _ _ _ (by simp)).trans f1)
      have gO : ∀ o v, o ≠ 0 → o ≠ 1 → w3.cell? ⟨F, o, none⟩ = some v → w4.cell? ⟨F, o, none⟩ = some v := fun o v h0 h1 h => by
        rw [hw4]; show ((w3.setCell ⟨F, 0, none⟩ (.int .i64 (word4 l 6))).setCell ⟨F, 1, none⟩ (.int .i64 (word4 l 7))).cell? _ = _
        rw [World.cell?_setCell_other _ _ _ _ (fun e => h1 (congrArg Addr.off e).symm), World.cell?_setCell_other _ _ _ _ (fun e => h0 (congrArg Addr.off e).symm)]
        exact h
      have gZ : ∀ o, w3.frozen? ⟨F, o, none⟩ = false → w4.frozen? ⟨F, o, none⟩ = false := fun o h => by
        rw [hw4]; show ((w3.setCell ⟨F, 0, none⟩ (.int .i64 (word4 l 6))).setCell ⟨F, 1, none⟩ (.int .i64 (word4 l 7))).frozen? _ = _
        rw [World.frozen?_setCell, World.frozen?_setCell]; exact h
      have qC4 := CF4.cell _ _ (by show bc ≠ F; omega) qC
      have qT4 := CF4.cell _ _ (by show bt ≠ F; omega) qT
      clear hw4
      have g2 := gO 2 _ (by omega) (by omega) f2
      have g3 := gO 3 _ (by omega) (by omega) f3
      have g4 := gO 4 _ (by omega) (by omega) qW
      have g5 := gO 5 _ (by omega) (by omega) qH
      have g6 := gO 6 _ (by omega) (by omega) qD
      have g7 := gO 7 _ (by omega) (by omega) qI
      have g8 := gO 8 _ (by omega) (by omega) f8
      have g9 := gO 9 _ (by omega) (by omega) qK
      have g10 := gO 10 _ (by omega) (by omega) qP
      have y3 := gZ 3 z3
      have y8 := gZ 8 z8
      have hz4 := CF4.size
      clear gO gZ f0 f1 f2 f3 f8 z0 z1 z2 z3 z8 qW qH qD qI qK qP qC qT qS s0 s1
      go_wp2_with fail
      refine (chunk_any _ _ _ _).mono ?_
      rintro e w5 ⟨rfl, hw5⟩
      have x5 : Ext w4 w5 := by rw [hw5]; exact ((Ext.refl _).alloc _).alloc _
      have hz5 : w5.heap.size = w4.heap.size + 1 + 1 := by rw [hw5]; simp
      have k5 : Blk w5 w4.heap.size 25 [.slice AC (4 * NC) cC] := by rw [hw5]; exact (Blk.lit _ _ _ _ rfl).ext ((Ext.refl _).alloc _)
      have k5' : Blk w5 (w4.heap.size + 1) 3 [.int .i64 4] := by rw [hw5]; exact Blk.lit _ _ _ _ (by simp)
      clear hw5
      have CF5 := CF4.trans (Chg.of_ext x5)
      have CA5 : ∀ i, i < 4 * NC → w5.cell? ⟨rc, i, none⟩ = some (.int .i64 (rowP (ps2 l bs bc bt F) (l.drop 24) 1 i)) := fun i hi => CF5.cell _ _ (by show rc ≠ F; have := HB5.out; omega) (CA.out i hi)
      have g0 := x5.at g0; have g1 := x5.at g1; have g2 := x5.at g2; have y3 := x5.fz g3 y3; have y8 := x5.fz g8 y8; have g3 := x5.at g3; have g4 := x5.at g4; have g5 := x5.at g5; have g6 := x5.at g6; have g7 := x5.at g7; have g8 := x5.at g8; have g9 := x5.at g9; have g10 := x5.at g10
      have qT5 := x5.at qT4
      clear x5 qC4 qT4 CF4
      generalize w4.heap.size = b5 at *
      go_wp2_with fail
      refine wpIn_wide.1 (wpIn_rangeFunc_ownF (n := 9) (F := Fence.wide) rfl (by omega) (gf := 43) (lb := #[.pointer (some ⟨b5, 0, none⟩), .pointer (some ⟨b5 + 1, 0, none⟩)]) rfl trivial (enters_of Try.func43 (by kernel_rfl) rfl)
        (chunk_stops _ b5 NC cC (4 * NC) AC ⟨rc, 0, none⟩ w5 rfl hAC hcC (by unfold maxLen at hmC; omega) (by omega) k5 k5') (fun h k => KpC.trans h k) (fun W l' o o' hl _ _ _ => kpC_put (by omega)) (Below.refl _ _) (fun _ => rfl)
        (LoopI w.heap.size ⟨F, 3, none⟩ 35 6 [] (chrRow l) w5) (fun _ _ _ => False) (loopI_own (by omega) (by simp)) (fun _ _ _ _ _ hs _ _ => hs) ⟨⟨⟨none, 0, g3, y3, World.ownsRow_nil _ _ _ _⟩, Chg.refl _ _ _⟩, by simp⟩ ?a1 ?assign ?body ?done ?stop)
      case stop =>
        rintro D c pre W _ _ h _
        exact h.elim
      case assign =>
        intro l' x W K hK
        gi_wp2
        exact hK
      case body =>
        rintro l' pre x W ⟨⟨⟨A', c', q, fz, ow⟩, ch⟩, hd⟩ hlen
        have hx := x.isLt
        have hcW : ∀ i, i < 4 * NC → W.cell? ⟨rc, i, none⟩ = some (.int .i64 (rowP (ps2 l bs bc bt F) (l.drop 24) 1 i)) := fun i hi => ch.cell _ _ (fun h => absurd (congrArg Addr.block h) (by show rc ≠ F; have := HB5.out; omega)) (CA5 i hi)
        have e0 : W.cell? ⟨rc, 4 * x.val, none⟩ = some (.int .i64 (byteA l (8 + x.val) 0)) := by rw [hcW _ (by omega), row2_b l bs bc bt F 1 x.val 0 _ (by omega) (by omega) (by omega)]; try rfl
        obtain ⟨m0, n0⟩ := byte_le l (8 + x.val) 0
        have e1 : W.cell? ⟨rc, 4 * x.val + 1, none⟩ = some (.int .i64 (byteA l (8 + x.val) 1)) := by rw [hcW _ (by omega), row2_b l bs bc bt F 1 x.val 1 _ (by omega) (by omega) (by omega)]; try rfl
        obtain ⟨m1, n1⟩ := byte_le l (8 + x.val) 1
        have e2 : W.cell? ⟨rc, 4 * x.val + 2, none⟩ = some (.int .i64 (byteA l (8 + x.val) 2)) := by rw [hcW _ (by omega), row2_b l bs bc bt F 1 x.val 2 _ (by omega) (by omega) (by omega)]; try rfl
        obtain ⟨m2, n2⟩ := byte_le l (8 + x.val) 2
        have e3 : W.cell? ⟨rc, 4 * x.val + 3, none⟩ = some (.int .i64 (byteA l (8 + x.val) 3)) := by rw [hcW _ (by omega), row2_b l bs bc bt F 1 x.val 3 _ (by omega) (by omega) (by omega)]; try rfl
        obtain ⟨m3, n3⟩ := byte_le l (8 + x.val) 3
        have hrow := chrRow_is l x
        generalize byteA l (8 + x.val) 0 = v0 at *
        generalize byteA l (8 + x.val) 1 = v1 at *
        generalize byteA l (8 + x.val) 2 = v2 at *
        generalize byteA l (8 + x.val) 3 = v3 at *
        have wq1 : IntKind.i64.wrap (v1.tdiv 16) = v1 / 16 := by rw [Int.tdiv_eq_ediv_of_nonneg (by omega)]; exact IntWalk.i64_in _ (by omega)
        have rq1 : v1.tmod 16 = v1 % 16 := Int.tmod_eq_emod_of_nonneg (by omega)
        have wq2 : IntKind.i64.wrap (v2.tdiv 4) = v2 / 4 := by rw [Int.tdiv_eq_ediv_of_nonneg (by omega)]; exact IntWalk.i64_in _ (by omega)
        have rq2 : v2.tmod 4 = v2 % 4 := Int.tmod_eq_emod_of_nonneg (by omega)
        obtain ⟨A2, c2, wq, r3, t3, u3, keep3, hblk3, fin3, C3', KO⟩ := put_struct (N := w.heap.size) (t := ⟨F, 3, none⟩) (ys := chrRow l x) 24 35 _ 6 48 Try.underlying24 char_info rfl (by omega) (by omega) q fz ow (by simp [chrRow]) (fun u hu => by simp only [chrRow, List.mem_map] at hu; obtain ⟨_, _, rfl⟩ := hu; rfl) (by show F < w5.heap.size; omega) (by show w.heap.size ≤ F; omega) ch (by omega) rfl
        rw [hrow] at r3
        have hKp : KpC b5 W (wq.setCell ⟨F, 3, none⟩ (.slice A2 (pre.length + 1) c2)) := ⟨by show (wq.heap.modify F _)[b5]? = _; rw [Array.getElem?_modify, if_neg (by omega)]; exact hblk3 _ (by omega), by show (wq.heap.modify F _)[b5 + 1]? = _; rw [Array.getElem?_modify, if_neg (by omega)]; exact hblk3 _ (by omega)⟩
        have HI : LoopI w.heap.size ⟨F, 3, none⟩ 35 6 [] (chrRow l) w5 (pre ++ [x]) (wq.setCell ⟨F, 3, none⟩ (.slice A2 (pre.length + 1) c2)) := ⟨⟨⟨A2, c2, by rw [List.length_append]; exact fin3.1, fin3.2.1, by rw [List.length_append, List.flatMap_append]; simpa using fin3.2.2⟩, C3'⟩, by simp⟩
        have R1 : ((W.drew.alloc (.cells #[.int .i64 v0, .int .i64 (v1 / 16), .int .i64 (v1 % 16), .int .i64 (v2 / 4), .int .i64 (v2 % 4), .int .i64 v3] 35)).cell? ⟨rc, 4 * x.val, none⟩ = some (.int .i64 v0) ∧ (W.drew.alloc (.cells #[.int .i64 v0, .int .i64 (v1 / 16), .int .i64 (v1 % 16), .int .i64 (v2 / 4), .int .i64 (v2 % 4), .int .i64 v3] 35)).cell? ⟨rc, 4 * x.val + 1, none⟩ = some (.int .i64 v1) ∧ (W.drew.alloc (.cells #[.int .i64 v0, .int .i64 (v1 / 16), .int .i64 (v1 % 16), .int .i64 (v2 / 4), .int .i64 (v2 % 4), .int .i64 v3] 35)).cell? ⟨rc, 4 * x.val + 2, none⟩ = some (.int .i64 v2) ∧ (W.drew.alloc (.cells #[.int .i64 v0, .int .i64 (v1 / 16), .int .i64 (v1 % 16), .int .i64 (v2 / 4), .int .i64 (v2 % 4), .int .i64 v3] 35)).cell? ⟨rc, 4 * x.val + 3, none⟩ = some (.int .i64 v3)) := ⟨((Ext.refl _).drew.alloc _).at e0, ((Ext.refl _).drew.alloc _).at e1, ((Ext.refl _).drew.alloc _).at e2, ((Ext.refl _).drew.alloc _).at e3⟩
        have R2 : (wq.cell? ⟨rc, 4 * x.val, none⟩ = some (.int .i64 v0) ∧ wq.cell? ⟨rc, 4 * x.val + 1, none⟩ = some (.int .i64 v1) ∧ wq.cell? ⟨rc, 4 * x.val + 2, none⟩ = some (.int .i64 v2) ∧ wq.cell? ⟨rc, 4 * x.val + 3, none⟩ = some (.int .i64 v3)) := ⟨keep3 _ _ (World.block_lt_of_cell? w5 _ (CA5 (4 * x.val) (by omega)) : _ < _) e0, keep3 _ _ (World.block_lt_of_cell? w5 _ (CA5 (4 * x.val) (by omega)) : _ < _) e1, keep3 _ _ (World.block_lt_of_cell? w5 _ (CA5 (4 * x.val) (by omega)) : _ < _) e2, keep3 _ _ (World.block_lt_of_cell? w5 _ (CA5 (4 * x.val) (by omega)) : _ < _) e3⟩
        have Q2 : (W.alloc (.cells #[.int .i64 v0, .int .i64 (v1 / 16), .int .i64 (v1 % 16), .int .i64 (v2 / 4), .int .i64 (v2 % 4), .int .i64 v3] 35)).cell? ⟨F, 3, none⟩ = some (.slice A' pre.length c') := ((Ext.refl W).alloc _).at q
        have hrF : F ≠ rc := by have := HB5.out; omega
        clear fin3 C3' hrow hcW hblk3 keep3 ow ch
        gi_wp2
        refine wpIn_region_plain (S := (fun w' => w'.cell? ⟨rc, 4 * x.val, none⟩ = some (.int .i64 v0) ∧ w'.cell? ⟨rc, 4 * x.val + 1, none⟩ = some (.int .i64 v1) ∧ w'.cell? ⟨rc, 4 * x.val + 2, none⟩ = some (.int .i64 v2) ∧ w'.cell? ⟨rc, 4 * x.val + 3, none⟩ = some (.int .i64 v3))) (by kernel_rfl) (by kernel_rfl) ⟨e0, e1, e2, e3⟩ (fun h0 => ?_)
        refine wpAnyH_take (i := 0) (oi := ?_) (v := ?_) ?_ (by kernel_rfl) (by kernel_rfl) (by kernel_rfl) ?_ ?_ h0 ?_
        rotate_left 2
        · simp only [List.getElem?_toArray, List.getElem?_cons_zero]; rfl
        · exact fun _ _ _ h => h
        · refine Or.inl ⟨by rfl, ?_⟩
          intro w hSw
          (try dsimp only at hSw)
          go_simp
          (try with_reducible rfl)
        (try simp only [Act.put, List.setIfInBounds_toArray, List.set_cons_zero, List.set_cons_succ])
        refine wpAnyH_take (i := 2) (oi := ?_) (v := ?_) ?_ (by kernel_rfl) (by kernel_rfl) (by kernel_rfl) ?_ ?_ h0 ?_
        rotate_left 2
        · simp only [List.getElem?_toArray, List.getElem?_cons_zero, List.getElem?_cons_succ]; rfl
        · exact fun _ _ _ h => h
        · refine Or.inl ⟨by rfl, ?_⟩
          intro w hSw
          (try dsimp only at hSw)
          go_simp
          (try with_reducible rfl)
        (try simp only [Act.put, List.setIfInBounds_toArray, List.set_cons_zero, List.set_cons_succ])
        refine wpAnyH_take (i := 3) (oi := ?_) (v := ?_) ?_ (by kernel_rfl) (by kernel_rfl) (by kernel_rfl) ?_ ?_ h0 ?_
        rotate_left 2
        · simp only [List.getElem?_toArray, List.getElem?_cons_zero, List.getElem?_cons_succ]; rfl
        · exact fun _ _ _ h => h
        · refine Or.inl ⟨by rfl, ?_⟩
          intro w hSw
          (try dsimp only at hSw)
          go_simp
          (try with_reducible rfl)
        (try simp only [Act.put, List.setIfInBounds_toArray, List.set_cons_zero, List.set_cons_succ])
        refine wpAnyH_take (i := 4) (oi := ?_) (v := ?_) ?_ (by kernel_rfl) (by kernel_rfl) (by kernel_rfl) ?_ ?_ h0 ?_
        rotate_left 2
        · simp only [List.getElem?_toArray, List.getElem?_cons_zero, List.getElem?_cons_succ]; rfl
        · exact fun _ _ _ h => h
        · refine Or.inl ⟨by rfl, ?_⟩
          intro w hSw
          (try dsimp only at hSw)
          go_simp
          (try with_reducible rfl)
        (try simp only [Act.put, List.setIfInBounds_toArray, List.set_cons_zero, List.set_cons_succ])
        refine wpAnyH_take (i := 5) (oi := ?_) (v := ?_) ?_ (by kernel_rfl) (by kernel_rfl) (by kernel_rfl) ?_ ?_ h0 ?_
        rotate_left 2
        · simp only [List.getElem?_toArray, List.getElem?_cons_zero, List.getElem?_cons_succ]; rfl
        · exact fun _ _ _ h => h
        · refine Or.inl ⟨by rfl, ?_⟩
          intro w hSw
          (try dsimp only at hSw)
          go_simp
          (try with_reducible rfl)
        (try simp only [Act.put, List.setIfInBounds_toArray, List.set_cons_zero, List.set_cons_succ])
        refine wpAnyH_take (i := 6) (oi := ?_) (v := ?_) ?_ (by kernel_rfl) (by kernel_rfl) (by kernel_rfl) ?_ ?_ h0 ?_
        rotate_left 2
        · simp only [List.getElem?_toArray, List.getElem?_cons_zero, List.getElem?_cons_succ]; rfl
        · exact fun _ _ _ h => h
        · refine Or.inl ⟨by rfl, ?_⟩
          intro w hSw
          (try dsimp only at hSw)
          go_simp
          (try with_reducible rfl)
        (try simp only [Act.put, List.setIfInBounds_toArray, List.set_cons_zero, List.set_cons_succ])
        refine wpAnyH_take (i := 7) (oi := ?_) (v := ?_) ?_ (by kernel_rfl) (by kernel_rfl) (by kernel_rfl) ?_ ?_ h0 ?_
        rotate_left 2
        · simp only [List.getElem?_toArray, List.getElem?_cons_zero, List.getElem?_cons_succ]; rfl
        · exact fun _ _ _ h => h
        · refine Or.inl ⟨by rfl, ?_⟩
          intro w hSw
          (try dsimp only at hSw)
          go_simp
          (try with_reducible rfl)
        (try simp only [Act.put, List.setIfInBounds_toArray, List.set_cons_zero, List.set_cons_succ])
        refine wpAnyH_take (i := 8) (oi := ?_) (v := ?_) ?_ (by kernel_rfl) (by kernel_rfl) (by kernel_rfl) ?_ ?_ h0 ?_
        rotate_left 2
        · simp only [List.getElem?_toArray, List.getElem?_cons_zero, List.getElem?_cons_succ]; rfl
        · exact fun _ _ _ h => h
        · refine Or.inl ⟨by rfl, ?_⟩
          intro w hSw
          (try dsimp only at hSw)
          go_simp
          (try with_reducible rfl)
        (try simp only [Act.put, List.setIfInBounds_toArray, List.set_cons_zero, List.set_cons_succ])
        refine wpAnyH_take (i := 9) (oi := ?_) (v := ?_) ?_ (by kernel_rfl) (by kernel_rfl) (by kernel_rfl) ?_ ?_ h0 ?_
        rotate_left 2
        · simp only [List.getElem?_toArray, List.getElem?_cons_zero, List.getElem?_cons_succ]; rfl
        · exact fun _ _ _ h => h
        · refine Or.inl ⟨by rfl, ?_⟩
          intro w hSw
          (try dsimp only at hSw)
          go_simp
          (try with_reducible rfl)
        (try simp only [Act.put, List.setIfInBounds_toArray, List.set_cons_zero, List.set_cons_succ])
        refine wpAnyH_take (i := 10) (oi := ?_) (v := ?_) ?_ (by kernel_rfl) (by kernel_rfl) (by kernel_rfl) ?_ ?_ h0 ?_
        rotate_left 2
        · simp only [List.getElem?_toArray, List.getElem?_cons_zero, List.getElem?_cons_succ]; rfl
        · exact fun _ _ _ h => h
        · refine Or.inl ⟨by rfl, ?_⟩
          intro w hSw
          (try dsimp only at hSw)
          go_simp
          (try with_reducible rfl)
        (try simp only [Act.put, List.setIfInBounds_toArray, List.set_cons_zero, List.set_cons_succ])
        refine wpAnyH_take (i := 11) (oi := ?_) (v := ?_) ?_ (by kernel_rfl) (by kernel_rfl) (by kernel_rfl) ?_ ?_ h0 ?_
        rotate_left 2
        · simp only [List.getElem?_toArray, List.getElem?_cons_zero, List.getElem?_cons_succ]; rfl
        · exact fun _ _ _ h => h
        · refine Or.inl ⟨by rfl, ?_⟩
          intro w hSw
          (try dsimp only at hSw)
          go_simp
          (try with_reducible rfl)
        (try simp only [Act.put, List.setIfInBounds_toArray, List.set_cons_zero, List.set_cons_succ])
        refine wpAnyH_take (i := 12) (oi := ?_) (v := ?_) ?_ (by kernel_rfl) (by kernel_rfl) (by kernel_rfl) ?_ ?_ h0 ?_
        rotate_left 2
        · simp only [List.getElem?_toArray, List.getElem?_cons_zero, List.getElem?_cons_succ]; rfl
        · exact fun _ _ _ h => h
        · refine Or.inl ⟨by rfl, ?_⟩
          intro w hSw
          (try dsimp only at hSw)
          go_simp
          (try with_reducible rfl)
        (try simp only [Act.put, List.setIfInBounds_toArray, List.set_cons_zero, List.set_cons_succ])
        refine wpAnyH_take (i := 13) (oi := ?_) (v := ?_) ?_ (by kernel_rfl) (by kernel_rfl) (by kernel_rfl) ?_ ?_ h0 ?_
        rotate_left 2
        · simp only [List.getElem?_toArray, List.getElem?_cons_zero, List.getElem?_cons_succ]; rfl
        · exact fun _ _ _ h => h
        · refine Or.inl ⟨by rfl, ?_⟩
          intro w hSw
          (try dsimp only at hSw)
          go_simp
          (try with_reducible rfl)
        (try simp only [Act.put, List.setIfInBounds_toArray, List.set_cons_zero, List.set_cons_succ])
        refine wpAnyH_take (i := 14) (oi := ?_) (v := ?_) ?_ (by kernel_rfl) (by kernel_rfl) (by kernel_rfl) ?_ ?_ h0 ?_
        rotate_left 2
        · simp only [List.getElem?_toArray, List.getElem?_cons_zero, List.getElem?_cons_succ]; rfl
        · exact fun _ _ _ h => h
        · refine Or.inl ⟨by rfl, ?_⟩
          intro w hSw
          (try dsimp only at hSw)
          go_simp
          (try with_reducible rfl)
        (try simp only [Act.put, List.setIfInBounds_toArray, List.set_cons_zero, List.set_cons_succ])
        refine wpAnyH_take (i := 15) (oi := ?_) (v := ?_) ?_ (by kernel_rfl) (by kernel_rfl) (by kernel_rfl) ?_ ?_ h0 ?_
        rotate_left 2
        · simp only [List.getElem?_toArray, List.getElem?_cons_zero, List.getElem?_cons_succ]; rfl
        · exact fun _ _ _ h => h
        · refine Or.inl ⟨by rfl, ?_⟩
          intro w hSw
          (try dsimp only at hSw)
          go_simp
          (try with_reducible rfl)
        (try simp only [Act.put, List.setIfInBounds_toArray, List.set_cons_zero, List.set_cons_succ])
        refine wpAnyH_take (i := 16) (oi := ?_) (v := ?_) ?_ (by kernel_rfl) (by kernel_rfl) (by kernel_rfl) ?_ ?_ h0 ?_
        rotate_left 2
        · simp only [List.getElem?_toArray, List.getElem?_cons_zero, List.getElem?_cons_succ]; rfl
        · exact fun _ _ _ h => h
        · refine Or.inl ⟨by rfl, ?_⟩
          intro w hSw
          (try dsimp only at hSw)
          go_simp
          (try with_reducible rfl)
        (try simp only [Act.put, List.setIfInBounds_toArray, List.set_cons_zero, List.set_cons_succ])
        refine wpAnyH_take (i := 17) (oi := ?_) (v := ?_) ?_ (by kernel_rfl) (by kernel_rfl) (by kernel_rfl) ?_ ?_ h0 ?_
        rotate_left 2
        · simp only [List.getElem?_toArray, List.getElem?_cons_zero, List.getElem?_cons_succ]; rfl
        · exact fun _ _ _ h => h
        · refine Or.inl ⟨by rfl, ?_⟩
          intro w hSw
          (try dsimp only at hSw)
          go_simp
          (try with_reducible rfl)
        (try simp only [Act.put, List.setIfInBounds_toArray, List.set_cons_zero, List.set_cons_succ])
        refine wpAnyH_take (i := 18) (oi := ?_) (v := ?_) ?_ (by kernel_rfl) (by kernel_rfl) (by kernel_rfl) ?_ ?_ h0 ?_
        rotate_left 2
        · simp only [List.getElem?_toArray, List.getElem?_cons_zero, List.getElem?_cons_succ]; rfl
        · exact fun _ _ _ h => h
        · refine Or.inl ⟨by rfl, ?_⟩
          intro w hSw
          (try dsimp only at hSw)
          go_simp
          (try with_reducible rfl)
        (try simp only [Act.put, List.setIfInBounds_toArray, List.set_cons_zero, List.set_cons_succ])
        refine wpAnyH_take (i := 19) (oi := ?_) (v := ?_) ?_ (by kernel_rfl) (by kernel_rfl) (by kernel_rfl) ?_ ?_ h0 ?_
        rotate_left 2
        · simp only [List.getElem?_toArray, List.getElem?_cons_zero, List.getElem?_cons_succ]; rfl
        · exact fun _ _ _ h => h
        · refine Or.inl ⟨by rfl, ?_⟩
          intro w hSw
          (try dsimp only at hSw)
          go_simp
          (try with_reducible rfl)
        (try simp only [Act.put, List.setIfInBounds_toArray, List.set_cons_zero, List.set_cons_succ])
        refine wpAnyH_take (i := 20) (oi := ?_) (v := ?_) ?_ (by kernel_rfl) (by kernel_rfl) (by kernel_rfl) ?_ ?_ h0 ?_
        rotate_left 2
        · simp only [List.getElem?_toArray, List.getElem?_cons_zero, List.getElem?_cons_succ]; rfl
        · exact fun _ _ _ h => h
        · refine Or.inl ⟨by rfl, ?_⟩
          intro w hSw
          (try dsimp only at hSw)
          go_simp
          (try with_reducible rfl)
        (try simp only [Act.put, List.setIfInBounds_toArray, List.set_cons_zero, List.set_cons_succ])
        refine wpAnyH_take (i := 21) (oi := ?_) (v := ?_) ?_ (by kernel_rfl) (by kernel_rfl) (by kernel_rfl) ?_ ?_ h0 ?_
        rotate_left 2
        · simp only [List.getElem?_toArray, List.getElem?_cons_zero, List.getElem?_cons_succ]; rfl
        · exact fun _ _ _ h => h
        · refine Or.inl ⟨by rfl, ?_⟩
          intro w hSw
          (try dsimp only at hSw)
          go_simp
          (try with_reducible rfl)
        (try simp only [Act.put, List.setIfInBounds_toArray, List.set_cons_zero, List.set_cons_succ])
        refine wpAnyH_take (i := 22) (oi := ?_) (v := ?_) ?_ (by kernel_rfl) (by kernel_rfl) (by kernel_rfl) ?_ ?_ h0 ?_
        rotate_left 2
        · simp only [List.getElem?_toArray, List.getElem?_cons_zero, List.getElem?_cons_succ]; rfl
        · exact fun _ _ _ h => h
        · refine Or.inl ⟨by rfl, ?_⟩
          intro w hSw
          (try dsimp only at hSw)
          go_simp
          (try with_reducible rfl)
        (try simp only [Act.put, List.setIfInBounds_toArray, List.set_cons_zero, List.set_cons_succ])
        refine wpAnyH_take (i := 23) (oi := ?_) (v := ?_) ?_ (by kernel_rfl) (by kernel_rfl) (by kernel_rfl) ?_ ?_ h0 ?_
        rotate_left 2
        · simp only [List.getElem?_toArray, List.getElem?_cons_zero, List.getElem?_cons_succ]; rfl
        · exact fun _ _ _ h => h
        · refine Or.inl ⟨by rfl, ?_⟩
          intro w hSw
          (try dsimp only at hSw)
          go_simp
          (try with_reducible rfl)
        (try simp only [Act.put, List.setIfInBounds_toArray, List.set_cons_zero, List.set_cons_succ])
        refine wpAnyH_take (i := 24) (oi := ?_) (v := ?_) ?_ (by kernel_rfl) (by kernel_rfl) (by kernel_rfl) ?_ ?_ h0 ?_
        rotate_left 2
        · simp only [List.getElem?_toArray, List.getElem?_cons_zero, List.getElem?_cons_succ]; rfl
        · exact fun _ _ _ h => h
        · refine Or.inl ⟨by rfl, ?_⟩
          intro w hSw
          (try dsimp only at hSw)
          go_simp
          (try with_reducible rfl)
        (try simp only [Act.put, List.setIfInBounds_toArray, List.set_cons_zero, List.set_cons_succ])
        refine wpAnyH_ready (rs := [1, 25]) (by kernel_rfl) (by simp) ?_
        refine AllReadyH.cons (o := ?_) ?_ (fun K hK => ?_) ?_
        rotate_left
        · simp only [List.getElem?_toArray, List.getElem?_cons_zero, List.getElem?_cons_succ]; rfl
        · go_simp
          refine hK.out _ _ h0 (fun h1 => ?_)
          clear hK K
          (try simp only [Act.put, List.setIfInBounds_toArray, List.set_cons_zero, List.set_cons_succ])
          refine wpAnyH_ready (rs := [25]) (by kernel_rfl) (by simp) ?_
          refine AllReadyH.cons (o := ?_) ?_ (fun K hK => ?_) AllReadyH.nil
          rotate_left
          · simp only [List.getElem?_toArray, List.getElem?_cons_zero, List.getElem?_cons_succ]; rfl
          go_simp
          refine hK.out _ _ R1 (fun h5 => ?_)
          clear hK K
          (try simp only [Act.put, List.setIfInBounds_toArray, List.set_cons_zero, List.set_cons_succ])
          refine wpAnyH_ready (rs := [26]) (by kernel_rfl) (by simp) ?_
          refine AllReadyH.cons (o := ?_) ?_ (fun K hK => ?_) AllReadyH.nil
          rotate_left
          · simp only [List.getElem?_toArray, List.getElem?_cons_zero, List.getElem?_cons_succ]; rfl
          refine step_run (.tmp 112) (.tmp 136) rfl (by kernel_rfl) r3 ?_
          refine hK.out _ _ R2 (fun h2 => ?_)
          clear hK K
          (try simp only [Act.put, List.setIfInBounds_toArray, List.set_cons_zero, List.set_cons_succ])
          refine wpAnyH_take (i := 27) (oi := ?_) (v := ?_) ?_ (by kernel_rfl) (by kernel_rfl) (by kernel_rfl) ?_ ?_ h2 ?_
          rotate_left 2
          · simp only [List.getElem?_toArray, List.getElem?_cons_zero, List.getElem?_cons_succ]; rfl
          · exact fun _ _ _ h => h
          · refine Or.inl ⟨by rfl, ?_⟩
            intro w hSw
            (try dsimp only at hSw)
            go_simp
            (try with_reducible rfl)
          (try simp only [Act.put, List.setIfInBounds_toArray, List.set_cons_zero, List.set_cons_succ])
          refine wpAnyH_ready (rs := [28]) (by kernel_rfl) (by simp) ?_
          refine AllReadyH.cons (o := ?_) ?_ (fun K hK => ?_) AllReadyH.nil
          rotate_left
          · simp only [List.getElem?_toArray, List.getElem?_cons_zero, List.getElem?_cons_succ]; rfl
          go_simp
          refine hK.out _ _ ?_ (fun h4 => ?_)
          · refine ⟨?_, ?_, ?_, ?_⟩
            · rw [World.cell?_setCell_far _ _ _ _ hrF]; exact R2.1
            · rw [World.cell?_setCell_far _ _ _ _ hrF]; exact R2.2.1
            · rw [World.cell?_setCell_far _ _ _ _ hrF]; exact R2.2.2.1
            · rw [World.cell?_setCell_far _ _ _ _ hrF]; exact R2.2.2.2
          clear hK K
          (try simp only [Act.put, List.setIfInBounds_toArray, List.set_cons_zero, List.set_cons_succ])
          refine wpAnyH_done (by kernel_rfl) ?_ _
          refine OnlyN.normal ?_
          clear h2 h4 r3
          gi_wp2
          exact ⟨KO, hKp, HI⟩
        · refine AllReadyH.cons (o := ?_) ?_ (fun K hK => ?_) AllReadyH.nil
          rotate_left
          · simp only [List.getElem?_toArray, List.getElem?_cons_zero, List.getElem?_cons_succ]; rfl
          go_simp
          refine hK.out _ _ R1 (fun h1 => ?_)
          clear hK K
          (try simp only [Act.put, List.setIfInBounds_toArray, List.set_cons_zero, List.set_cons_succ])
          refine wpAnyH_ready (rs := [1]) (by kernel_rfl) (by simp) ?_
          refine AllReadyH.cons (o := ?_) ?_ (fun K hK => ?_) AllReadyH.nil
          rotate_left
          · simp only [List.getElem?_toArray, List.getElem?_cons_zero, List.getElem?_cons_succ]; rfl
          go_simp
          refine hK.out _ _ R1 (fun h5 => ?_)
          clear hK K
          (try simp only [Act.put, List.setIfInBounds_toArray, List.set_cons_zero, List.set_cons_succ])
          refine wpAnyH_ready (rs := [26]) (by kernel_rfl) (by simp) ?_
          refine AllReadyH.cons (o := ?_) ?_ (fun K hK => ?_) AllReadyH.nil
          rotate_left
          · simp only [List.getElem?_toArray, List.getElem?_cons_zero, List.getElem?_cons_succ]; rfl
          refine step_run (.tmp 112) (.tmp 136) rfl (by kernel_rfl) r3 ?_
          refine hK.out _ _ R2 (fun h2 => ?_)
          clear hK K
          (try simp only [Act.put, List.setIfInBounds_toArray, List.set_cons_zero, List.set_cons_succ])
          refine wpAnyH_take (i := 27) (oi := ?_) (v := ?_) ?_ (by kernel_rfl) (by kernel_rfl) (by kernel_rfl) ?_ ?_ h2 ?_
          rotate_left 2
          · simp only [List.getElem?_toArray, List.getElem?_cons_zero, List.getElem?_cons_succ]; rfl
          · exact fun _ _ _ h => h
          · refine Or.inl ⟨by rfl, ?_⟩
            intro w hSw
            (try dsimp only at hSw)
            go_simp
            (try with_reducible rfl)
          (try simp only [Act.put, List.setIfInBounds_toArray, List.set_cons_zero, List.set_cons_succ])
          refine wpAnyH_ready (rs := [28]) (by kernel_rfl) (by simp) ?_
          refine AllReadyH.cons (o := ?_) ?_ (fun K hK => ?_) AllReadyH.nil
          rotate_left
          · simp only [List.getElem?_toArray, List.getElem?_cons_zero, List.getElem?_cons_succ]; rfl
          go_simp
          refine hK.out _ _ ?_ (fun h4 => ?_)
          · refine ⟨?_, ?_, ?_, ?_⟩
            · rw [World.cell?_setCell_far _ _ _ _ hrF]; exact R2.1
            · rw [World.cell?_setCell_far _ _ _ _ hrF]; exact R2.2.1
            · rw [World.cell?_setCell_far _ _ _ _ hrF]; exact R2.2.2.1
            · rw [World.cell?_setCell_far _ _ _ _ hrF]; exact R2.2.2.2
          clear hK K
          (try simp only [Act.put, List.setIfInBounds_toArray, List.set_cons_zero, List.set_cons_succ])
          refine wpAnyH_done (by kernel_rfl) ?_ _
          refine OnlyN.normal ?_
          clear h2 h4 r3
          gi_wp2
          exact ⟨KO, hKp, HI⟩
      case done =>
        rintro D1 xs W1 hD1 rfl ⟨⟨⟨A1', c1', qc1, _, ow1⟩, ch1⟩, _⟩ hK1
        have eL : (List.finRange NC).length = NC := by simp
        rw [eL] at qc1 ow1
        have no3 : ∀ o, o ≠ 3 → ¬ ((⟨F, o, none⟩ : Addr) = ⟨F, 3, none⟩) := fun o h e => h (congrArg Addr.off e)
        have qT1 := ch1.cell _ _ (fun h => absurd (congrArg Addr.block h) (by show bt ≠ F; omega)) qT5
        have y8 := ch1.fz _ _ (no3 8 (by omega)) g8 y8
        have g0 := ch1.cell _ _ (no3 0 (by omega)) g0
        have g1 := ch1.cell _ _ (no3 1 (by omega)) g1
        have g2 := ch1.cell _ _ (no3 2 (by omega)) g2
        have g4 := ch1.cell _ _ (no3 4 (by omega)) g4
        have g5 := ch1.cell _ _ (no3 5 (by omega)) g5
        have g6 := ch1.cell _ _ (no3 6 (by omega)) g6
        have g7 := ch1.cell _ _ (no3 7 (by omega)) g7
        have g8 := ch1.cell _ _ (no3 8 (by omega)) g8
        have g9 := ch1.cell _ _ (no3 9 (by omega)) g9
        have g10 := ch1.cell _ _ (no3 10 (by omega)) g10
        have g3 := qc1
        have CF1 : Chg (fun p => p.block = F) w.heap.size w3 W1 := CF5.trans (ch1.wide (fun p h => by rw [h]) (Nat.le_refl _))
        have hzW1 := ch1.size
        obtain ⟨_, _, e1v, hcc1, hmm1, rows1⟩ := own_rowN (by omega) rfl ow1
        simp only [Value.slice.injEq, true_and] at e1v
        obtain ⟨rfl, rfl⟩ := e1v
        have ROWS1 := Lib.hid rows1
        clear rows1 ow1 ch1 CF5 CA5 no3 qc1 qT5 CA k5 k5'
        go_wp2_with fail
        refine (chunk_any _ _ _ _).mono ?_
        rintro e w6 ⟨rfl, hw6⟩
        have x6 : Ext W1 w6 := by rw [hw6]; exact ((Ext.refl _).alloc _).alloc _
        have hz6 : w6.heap.size = W1.heap.size + 1 + 1 := by rw [hw6]; simp
        have k6 : Blk w6 W1.heap.size 25 [.slice AT (4 * NS) cT] := by rw [hw6]; exact (Blk.lit _ _ _ _ rfl).ext ((Ext.refl _).alloc _)
        have k6' : Blk w6 (W1.heap.size + 1) 3 [.int .i64 4] := by rw [hw6]; exact Blk.lit _ _ _ _ (by simp)
        clear hw6
        have hD1W : D1 < W1.heap.size := (Array.getElem?_eq_some_iff.1 hK1).1
        have hK6 : w6.heap[D1]? = some (.deferred (some [])) := (x6.block D1 hD1W).trans hK1
        have CF6 := CF1.trans (Chg.of_ext x6)
        have CA6 : ∀ i, i < 4 * NS → w6.cell? ⟨rt, i, none⟩ = some (.int .i64 (rowP (ps2 l bs bc bt F) (l.drop 24) 6 i)) := fun i hi => CF6.cell _ _ (by show rt ≠ F; have := HB6.out; omega) (TA.out i hi)
        have y8 := x6.fz g8 y8
        have g0 := x6.at g0; have g1 := x6.at g1; have g2 := x6.at g2; have g3 := x6.at g3; have g4 := x6.at g4; have g5 := x6.at g5; have g6 := x6.at g6; have g7 := x6.at g7; have g8 := x6.at g8; have g9 := x6.at g9; have g10 := x6.at g10
        have X16 := Lib.hid x6
        clear x6 qT1 hK1
        generalize hb6 : W1.heap.size = b6 at *
        go_wp2_with fail
        refine wpIn_wide.1 (wpIn_rangeFunc_ownF (n := 9) (F := Fence.wide) rfl (by omega) (gf := 43) (lb := #[.pointer (some ⟨b6, 0, none⟩), .pointer (some ⟨b6 + 1, 0, none⟩)]) rfl trivial (enters_of Try.func43 (by kernel_rfl) rfl)
          (chunk_stops _ b6 NS cT (4 * NS) AT ⟨rt, 0, none⟩ w6 rfl hAT hcT (by unfold maxLen at hmT; omega) (by omega) k6 k6') (fun h k => KpC.trans h k) (fun W l' o o' hl _ _ _ => kpC_put (by omega)) (Below.refl _ _) (fun _ => rfl)
          (LoopI w.heap.size ⟨F, 8, none⟩ 45 4 [D1] (stpRow l) w6) (fun _ _ _ => False) (loopI_own (by omega) (by simp; omega)) (fun _ _ _ _ _ hs _ _ => hs) ⟨⟨⟨none, 0, g8, y8, World.ownsRow_nil _ _ _ _⟩, Chg.refl _ _ _⟩, by simpa using hK6⟩ ?a2 ?assign2 ?body2 ?done2 ?stop2)
        case stop2 =>
          rintro D c pre W _ _ h _
          exact h.elim
        case assign2 =>
          intro l' x W K hK
          gi_wp2
          exact hK
        case body2 =>
          rintro l' pre x W ⟨⟨⟨A', c', q, fz, ow⟩, ch⟩, hd⟩ hlen
          have hx := x.isLt
          have hcW : ∀ i, i < 4 * NS → W.cell? ⟨rt, i, none⟩ = some (.int .i64 (rowP (ps2 l bs bc bt F) (l.drop 24) 6 i)) := fun i hi => ch.cell _ _ (fun h => absurd (congrArg Addr.block h) (by show rt ≠ F; have := HB6.out; omega)) (CA6 i hi)
          have e0 : W.cell? ⟨rt, 4 * x.val, none⟩ = some (.int .i64 (byteA l (wordOf l 6 + x.val) 0)) := by rw [hcW _ (by omega), row2_b l bs bc bt F 6 x.val 0 _ (by omega) (by omega) (by omega)]; try rfl
          obtain ⟨m0, n0⟩ := byte_le l (wordOf l 6 + x.val) 0
          have e1 : W.cell? ⟨rt, 4 * x.val + 1, none⟩ = some (.int .i64 (byteA l (wordOf l 6 + x.val) 1)) := by rw [hcW _ (by omega), row2_b l bs bc bt F 6 x.val 1 _ (by omega) (by omega) (by omega)]; try rfl
          obtain ⟨m1, n1⟩ := byte_le l (wordOf l 6 + x.val) 1
          have e2 : W.cell? ⟨rt, 4 * x.val + 2, none⟩ = some (.int .i64 (byteA l (wordOf l 6 + x.val) 2)) := by rw [hcW _ (by omega), row2_b l bs bc bt F 6 x.val 2 _ (by omega) (by omega) (by omega)]; try rfl
          obtain ⟨m2, n2⟩ := byte_le l (wordOf l 6 + x.val) 2
          have e3 : W.cell? ⟨rt, 4 * x.val + 3, none⟩ = some (.int .i64 (byteA l (wordOf l 6 + x.val) 3)) := by rw [hcW _ (by omega), row2_b l bs bc bt F 6 x.val 3 _ (by omega) (by omega) (by omega)]; try rfl
          obtain ⟨m3, n3⟩ := byte_le l (wordOf l 6 + x.val) 3
          have hrow := stpRow_is l x
          generalize byteA l (wordOf l 6 + x.val) 0 = v0 at *
          generalize byteA l (wordOf l 6 + x.val) 1 = v1 at *
          generalize byteA l (wordOf l 6 + x.val) 2 = v2 at *
          generalize byteA l (wordOf l 6 + x.val) 3 = v3 at *
          obtain ⟨A2, c2, wq, r3, t3, u3, keep3, hblk3, fin3, C3', KO⟩ := put_struct (N := w.heap.size) (t := ⟨F, 8, none⟩) (ys := stpRow l x) 26 45 _ 4 32 Try.underlying26 step_info rfl (by omega) (by omega) q fz ow (by simp [stpRow]) (fun u hu => by simp only [stpRow, List.mem_map] at hu; obtain ⟨_, _, rfl⟩ := hu; rfl) (by show F < w6.heap.size; omega) (by show w.heap.size ≤ F; omega) ch (by omega) rfl
          rw [hrow] at r3
          have hKp : KpC b6 W (wq.setCell ⟨F, 8, none⟩ (.slice A2 (pre.length + 1) c2)) := ⟨by show (wq.heap.modify F _)[b6]? = _; rw [Array.getElem?_modify, if_neg (by omega)]; exact hblk3 _ (by omega), by show (wq.heap.modify F _)[b6 + 1]? = _; rw [Array.getElem?_modify, if_neg (by omega)]; exact hblk3 _ (by omega)⟩
          have HI : LoopI w.heap.size ⟨F, 8, none⟩ 45 4 [D1] (stpRow l) w6 (pre ++ [x]) (wq.setCell ⟨F, 8, none⟩ (.slice A2 (pre.length + 1) c2)) := ⟨⟨⟨A2, c2, by rw [List.length_append]; exact fin3.1, fin3.2.1, by rw [List.length_append, List.flatMap_append]; simpa using fin3.2.2⟩, C3'⟩, fun D hDD => KO.same D _ (hd D hDD) rfl⟩
          have R1 : ((W.drew.alloc (.cells #[.int .i64 v0, .int .i64 v1, .int .i64 v2, .int .i64 v3] 45)).cell? ⟨rt, 4 * x.val, none⟩ = some (.int .i64 v0) ∧ (W.drew.alloc (.cells #[.int .i64 v0, .int .i64 v1, .int .i64 v2, .int .i64 v3] 45)).cell? ⟨rt, 4 * x.val + 1, none⟩ = some (.int .i64 v1) ∧ (W.drew.alloc (.cells #[.int .i64 v0, .int .i64 v1, .int .i64 v2, .int .i64 v3] 45)).cell? ⟨rt, 4 * x.val + 2, none⟩ = some (.int .i64 v2) ∧ (W.drew.alloc (.cells #[.int .i64 v0, .int .i64 v1, .int .i64 v2, .int .i64 v3] 45)).cell? ⟨rt, 4 * x.val + 3, none⟩ = some (.int .i64 v3)) := ⟨((Ext.refl _).drew.alloc _).at e0, ((Ext.refl _).drew.alloc _).at e1, ((Ext.refl _).drew.alloc _).at e2, ((Ext.refl _).drew.alloc _).at e3⟩
          have R2 : (wq.cell? ⟨rt, 4 * x.val, none⟩ = some (.int .i64 v0) ∧ wq.cell? ⟨rt, 4 * x.val + 1, none⟩ = some (.int .i64 v1) ∧ wq.cell? ⟨rt, 4 * x.val + 2, none⟩ = some (.int .i64 v2) ∧ wq.cell? ⟨rt, 4 * x.val + 3, none⟩ = some (.int .i64 v3)) := ⟨keep3 _ _ (World.block_lt_of_cell? w6 _ (CA6 (4 * x.val) (by omega)) : _ < _) e0, keep3 _ _ (World.block_lt_of_cell? w6 _ (CA6 (4 * x.val) (by omega)) : _ < _) e1, keep3 _ _ (World.block_lt_of_cell? w6 _ (CA6 (4 * x.val) (by omega)) : _ < _) e2, keep3 _ _ (World.block_lt_of_cell? w6 _ (CA6 (4 * x.val) (by omega)) : _ < _) e3⟩
          have Q2 : (W.alloc (.cells #[.int .i64 v0, .int .i64 v1, .int .i64 v2, .int .i64 v3] 45)).cell? ⟨F, 8, none⟩ = some (.slice A' pre.length c') := ((Ext.refl W).alloc _).at q
          have hrF : F ≠ rt := by have := HB6.out; omega
          clear fin3 C3' hrow hcW hblk3 keep3 ow ch
          gi_wp2
          refine wpIn_region_plain (S := (fun w' => w'.cell? ⟨rt, 4 * x.val, none⟩ = some (.int .i64 v0) ∧ w'.cell? ⟨rt, 4 * x.val + 1, none⟩ = some (.int .i64 v1) ∧ w'.cell? ⟨rt, 4 * x.val + 2, none⟩ = some (.int .i64 v2) ∧ w'.cell? ⟨rt, 4 * x.val + 3, none⟩ = some (.int .i64 v3))) (by kernel_rfl) (by kernel_rfl) ⟨e0, e1, e2, e3⟩ (fun h0 => ?_)
          refine wpAnyH_take (i := 0) (oi := ?_) (v := ?_) ?_ (by kernel_rfl) (by kernel_rfl) (by kernel_rfl) ?_ ?_ h0 ?_
          rotate_left 2
          · simp only [List.getElem?_toArray, List.getElem?_cons_zero]; rfl
          · exact fun _ _ _ h => h
          · refine Or.inl ⟨by rfl, ?_⟩
            intro w hSw
            (try dsimp only at hSw)
            go_simp
            (try with_reducible rfl)
          (try simp only [Act.put, List.setIfInBounds_toArray, List.set_cons_zero, List.set_cons_succ])
          refine wpAnyH_take (i := 2) (oi := ?_) (v := ?_) ?_ (by kernel_rfl) (by kernel_rfl) (by kernel_rfl) ?_ ?_ h0 ?_
          rotate_left 2
          · simp only [List.getElem?_toArray, List.getElem?_cons_zero, List.getElem?_cons_succ]; rfl
          · exact fun _ _ _ h => h
          · refine Or.inl ⟨by rfl, ?_⟩
            intro w hSw
            (try dsimp only at hSw)
            go_simp
            (try with_reducible rfl)
          (try simp only [Act.put, List.setIfInBounds_toArray, List.set_cons_zero, List.set_cons_succ])
          refine wpAnyH_take (i := 3) (oi := ?_) (v := ?_) ?_ (by kernel_rfl) (by kernel_rfl) (by kernel_rfl) ?_ ?_ h0 ?_
          rotate_left 2
          · simp only [List.getElem?_toArray, List.getElem?_cons_zero, List.getElem?_cons_succ]; rfl
          · exact fun _ _ _ h => h
          · refine Or.inl ⟨by rfl, ?_⟩
            intro w hSw
            (try dsimp only at hSw)
            go_simp
            (try with_reducible rfl)
          (try simp only [Act.put, List.setIfInBounds_toArray, List.set_cons_zero, List.set_cons_succ])
          refine wpAnyH_take (i := 4) (oi := ?_) (v := ?_) ?_ (by kernel_rfl) (by kernel_rfl) (by kernel_rfl) ?_ ?_ h0 ?_
          rotate_left 2
          · simp only [List.getElem?_toArray, List.getElem?_cons_zero, List.getElem?_cons_succ]; rfl
          · exact fun _ _ _ h => h
          · refine Or.inl ⟨by rfl, ?_⟩
            intro w hSw
            (try dsimp only at hSw)
            go_simp
            (try with_reducible rfl)
          (try simp only [Act.put, List.setIfInBounds_toArray, List.set_cons_zero, List.set_cons_succ])
          refine wpAnyH_take (i := 5) (oi := ?_) (v := ?_) ?_ (by kernel_rfl) (by kernel_rfl) (by kernel_rfl) ?_ ?_ h0 ?_
          rotate_left 2
          · simp only [List.getElem?_toArray, List.getElem?_cons_zero, List.getElem?_cons_succ]; rfl
          · exact fun _ _ _ h => h
          · refine Or.inl ⟨by rfl, ?_⟩
            intro w hSw
            (try dsimp only at hSw)
            go_simp
            (try with_reducible rfl)
          (try simp only [Act.put, List.setIfInBounds_toArray, List.set_cons_zero, List.set_cons_succ])
          refine wpAnyH_take (i := 6) (oi := ?_) (v := ?_) ?_ (by kernel_rfl) (by kernel_rfl) (by kernel_rfl) ?_ ?_ h0 ?_
          rotate_left 2
          · simp only [List.getElem?_toArray, List.getElem?_cons_zero, List.getElem?_cons_succ]; rfl
          · exact fun _ _ _ h => h
          · refine Or.inl ⟨by rfl, ?_⟩
            intro w hSw
            (try dsimp only at hSw)
            go_simp
            (try with_reducible rfl)
          (try simp only [Act.put, List.setIfInBounds_toArray, List.set_cons_zero, List.set_cons_succ])
          refine wpAnyH_take (i := 7) (oi := ?_) (v := ?_) ?_ (by kernel_rfl) (by kernel_rfl) (by kernel_rfl) ?_ ?_ h0 ?_
          rotate_left 2
          · simp only [List.getElem?_toArray, List.getElem?_cons_zero, List.getElem?_cons_succ]; rfl
          · exact fun _ _ _ h => h
          · refine Or.inl ⟨by rfl, ?_⟩
            intro w hSw
            (try dsimp only at hSw)
            go_simp
            (try with_reducible rfl)
          (try simp only [Act.put, List.setIfInBounds_toArray, List.set_cons_zero, List.set_cons_succ])
          refine wpAnyH_take (i := 8) (oi := ?_) (v := ?_) ?_ (by kernel_rfl) (by kernel_rfl) (by kernel_rfl) ?_ ?_ h0 ?_
          rotate_left 2
          · simp only [List.getElem?_toArray, List.getElem?_cons_zero, List.getElem?_cons_succ]; rfl
          · exact fun _ _ _ h => h
          · refine Or.inl ⟨by rfl, ?_⟩
            intro w hSw
            (try dsimp only at hSw)
            go_simp
            (try with_reducible rfl)
          (try simp only [Act.put, List.setIfInBounds_toArray, List.set_cons_zero, List.set_cons_succ])
          refine wpAnyH_take (i := 9) (oi := ?_) (v := ?_) ?_ (by kernel_rfl) (by kernel_rfl) (by kernel_rfl) ?_ ?_ h0 ?_
          rotate_left 2
          · simp only [List.getElem?_toArray, List.getElem?_cons_zero, List.getElem?_cons_succ]; rfl
          · exact fun _ _ _ h => h
          · refine Or.inl ⟨by rfl, ?_⟩
            intro w hSw
            (try dsimp only at hSw)
            go_simp
            (try with_reducible rfl)
          (try simp only [Act.put, List.setIfInBounds_toArray, List.set_cons_zero, List.set_cons_succ])
          refine wpAnyH_take (i := 10) (oi := ?_) (v := ?_) ?_ (by kernel_rfl) (by kernel_rfl) (by kernel_rfl) ?_ ?_ h0 ?_
          rotate_left 2
          · simp only [List.getElem?_toArray, List.getElem?_cons_zero, List.getElem?_cons_succ]; rfl
          · exact fun _ _ _ h => h
          · refine Or.inl ⟨by rfl, ?_⟩
            intro w hSw
            (try dsimp only at hSw)
            go_simp
            (try with_reducible rfl)
          (try simp only [Act.put, List.setIfInBounds_toArray, List.set_cons_zero, List.set_cons_succ])
          refine wpAnyH_take (i := 11) (oi := ?_) (v := ?_) ?_ (by kernel_rfl) (by kernel_rfl) (by kernel_rfl) ?_ ?_ h0 ?_
          rotate_left 2
          · simp only [List.getElem?_toArray, List.getElem?_cons_zero, List.getElem?_cons_succ]; rfl
          · exact fun _ _ _ h => h
          · refine Or.inl ⟨by rfl, ?_⟩
            intro w hSw
            (try dsimp only at hSw)
            go_simp
            (try with_reducible rfl)
          (try simp only [Act.put, List.setIfInBounds_toArray, List.set_cons_zero, List.set_cons_succ])
          refine wpAnyH_take (i := 12) (oi := ?_) (v := ?_) ?_ (by kernel_rfl) (by kernel_rfl) (by kernel_rfl) ?_ ?_ h0 ?_
          rotate_left 2
          · simp only [List.getElem?_toArray, List.getElem?_cons_zero, List.getElem?_cons_succ]; rfl
          · exact fun _ _ _ h => h
          · refine Or.inl ⟨by rfl, ?_⟩
            intro w hSw
            (try dsimp only at hSw)
            go_simp
            (try with_reducible rfl)
          (try simp only [Act.put, List.setIfInBounds_toArray, List.set_cons_zero, List.set_cons_succ])
          refine wpAnyH_take (i := 13) (oi := ?_) (v := ?_) ?_ (by kernel_rfl) (by kernel_rfl) (by kernel_rfl) ?_ ?_ h0 ?_
          rotate_left 2
          · simp only [List.getElem?_toArray, List.getElem?_cons_zero, List.getElem?_cons_succ]; rfl
          · exact fun _ _ _ h => h
          · refine Or.inl ⟨by rfl, ?_⟩
            intro w hSw
            (try dsimp only at hSw)
            go_simp
            (try with_reducible rfl)
          (try simp only [Act.put, List.setIfInBounds_toArray, List.set_cons_zero, List.set_cons_succ])
          refine wpAnyH_take (i := 14) (oi := ?_) (v := ?_) ?_ (by kernel_rfl) (by kernel_rfl) (by kernel_rfl) ?_ ?_ h0 ?_
          rotate_left 2
          · simp only [List.getElem?_toArray, List.getElem?_cons_zero, List.getElem?_cons_succ]; rfl
          · exact fun _ _ _ h => h
          · refine Or.inl ⟨by rfl, ?_⟩
            intro w hSw
            (try dsimp only at hSw)
            go_simp
            (try with_reducible rfl)
          (try simp only [Act.put, List.setIfInBounds_toArray, List.set_cons_zero, List.set_cons_succ])
          refine wpAnyH_ready (rs := [1, 15]) (by kernel_rfl) (by simp) ?_
          refine AllReadyH.cons (o := ?_) ?_ (fun K hK => ?_) ?_
          rotate_left
          · simp only [List.getElem?_toArray, List.getElem?_cons_zero, List.getElem?_cons_succ]; rfl
          · go_simp
            refine hK.out _ _ h0 (fun h1 => ?_)
            clear hK K
            (try simp only [Act.put, List.setIfInBounds_toArray, List.set_cons_zero, List.set_cons_succ])
            refine wpAnyH_ready (rs := [15]) (by kernel_rfl) (by simp) ?_
            refine AllReadyH.cons (o := ?_) ?_ (fun K hK => ?_) AllReadyH.nil
            rotate_left
            · simp only [List.getElem?_toArray, List.getElem?_cons_zero, List.getElem?_cons_succ]; rfl
            go_simp
            refine hK.out _ _ R1 (fun h5 => ?_)
            clear hK K
            (try simp only [Act.put, List.setIfInBounds_toArray, List.set_cons_zero, List.set_cons_succ])
            refine wpAnyH_ready (rs := [16]) (by kernel_rfl) (by simp) ?_
            refine AllReadyH.cons (o := ?_) ?_ (fun K hK => ?_) AllReadyH.nil
            rotate_left
            · simp only [List.getElem?_toArray, List.getElem?_cons_zero, List.getElem?_cons_succ]; rfl
            refine step_run (.tmp 143) (.tmp 157) rfl (by kernel_rfl) r3 ?_
            refine hK.out _ _ R2 (fun h2 => ?_)
            clear hK K
            (try simp only [Act.put, List.setIfInBounds_toArray, List.set_cons_zero, List.set_cons_succ])
            refine wpAnyH_take (i := 17) (oi := ?_) (v := ?_) ?_ (by kernel_rfl) (by kernel_rfl) (by kernel_rfl) ?_ ?_ h2 ?_
            rotate_left 2
            · simp only [List.getElem?_toArray, List.getElem?_cons_zero, List.getElem?_cons_succ]; rfl
            · exact fun _ _ _ h => h
            · refine Or.inl ⟨by rfl, ?_⟩
              intro w hSw
              (try dsimp only at hSw)
              go_simp
              (try with_reducible rfl)
            (try simp only [Act.put, List.setIfInBounds_toArray, List.set_cons_zero, List.set_cons_succ])
            refine wpAnyH_ready (rs := [18]) (by kernel_rfl) (by simp) ?_
            refine AllReadyH.cons (o := ?_) ?_ (fun K hK => ?_) AllReadyH.nil
            rotate_left
            · simp only [List.getElem?_toArray, List.getElem?_cons_zero, List.getElem?_cons_succ]; rfl
            go_simp
            refine hK.out _ _ ?_ (fun h4 => ?_)
            · refine ⟨?_, ?_, ?_, ?_⟩
              · rw [World.cell?_setCell_far _ _ _ _ hrF]; exact R2.1
              · rw [World.cell?_setCell_far _ _ _ _ hrF]; exact R2.2.1
              · rw [World.cell?_setCell_far _ _ _ _ hrF]; exact R2.2.2.1
              · rw [World.cell?_setCell_far _ _ _ _ hrF]; exact R2.2.2.2
            clear hK K
            (try simp only [Act.put, List.setIfInBounds_toArray, List.set_cons_zero, List.set_cons_succ])
            refine wpAnyH_done (by kernel_rfl) ?_ _
            refine OnlyN.normal ?_
            clear h2 h4 r3
            gi_wp2
            exact ⟨KO, hKp, HI⟩
          · refine AllReadyH.cons (o := ?_) ?_ (fun K hK => ?_) AllReadyH.nil
            rotate_left
            · simp only [List.getElem?_toArray, List.getElem?_cons_zero, List.getElem?_cons_succ]; rfl
            go_simp
            refine hK.out _ _ R1 (fun h1 => ?_)
            clear hK K
            (try simp only [Act.put, List.setIfInBounds_toArray, List.set_cons_zero, List.set_cons_succ])
            refine wpAnyH_ready (rs := [1]) (by kernel_rfl) (by simp) ?_
            refine AllReadyH.cons (o := ?_) ?_ (fun K hK => ?_) AllReadyH.nil
            rotate_left
            · simp only [List.getElem?_toArray, List.getElem?_cons_zero, List.getElem?_cons_succ]; rfl
            go_simp
            refine hK.out _ _ R1 (fun h5 => ?_)
            clear hK K
            (try simp only [Act.put, List.setIfInBounds_toArray, List.set_cons_zero, List.set_cons_succ])
            refine wpAnyH_ready (rs := [16]) (by kernel_rfl) (by simp) ?_
            refine AllReadyH.cons (o := ?_) ?_ (fun K hK => ?_) AllReadyH.nil
            rotate_left
            · simp only [List.getElem?_toArray, List.getElem?_cons_zero, List.getElem?_cons_succ]; rfl
            refine step_run (.tmp 143) (.tmp 157) rfl (by kernel_rfl) r3 ?_
            refine hK.out _ _ R2 (fun h2 => ?_)
            clear hK K
            (try simp only [Act.put, List.setIfInBounds_toArray, List.set_cons_zero, List.set_cons_succ])
            refine wpAnyH_take (i := 17) (oi := ?_) (v := ?_) ?_ (by kernel_rfl) (by kernel_rfl) (by kernel_rfl) ?_ ?_ h2 ?_
            rotate_left 2
            · simp only [List.getElem?_toArray, List.getElem?_cons_zero, List.getElem?_cons_succ]; rfl
            · exact fun _ _ _ h => h
            · refine Or.inl ⟨by rfl, ?_⟩
              intro w hSw
              (try dsimp only at hSw)
              go_simp
              (try with_reducible rfl)
            (try simp only [Act.put, List.setIfInBounds_toArray, List.set_cons_zero, List.set_cons_succ])
            refine wpAnyH_ready (rs := [18]) (by kernel_rfl) (by simp) ?_
            refine AllReadyH.cons (o := ?_) ?_ (fun K hK => ?_) AllReadyH.nil
            rotate_left
            · simp only [List.getElem?_toArray, List.getElem?_cons_zero, List.getElem?_cons_succ]; rfl
            go_simp
            refine hK.out _ _ ?_ (fun h4 => ?_)
            · refine ⟨?_, ?_, ?_, ?_⟩
              · rw [World.cell?_setCell_far _ _ _ _ hrF]; exact R2.1
              · rw [World.cell?_setCell_far _ _ _ _ hrF]; exact R2.2.1
              · rw [World.cell?_setCell_far _ _ _ _ hrF]; exact R2.2.2.1
              · rw [World.cell?_setCell_far _ _ _ _ hrF]; exact R2.2.2.2
            clear hK K
            (try simp only [Act.put, List.setIfInBounds_toArray, List.set_cons_zero, List.set_cons_succ])
            refine wpAnyH_done (by kernel_rfl) ?_ _
            refine OnlyN.normal ?_
            clear h2 h4 r3
            gi_wp2
            exact ⟨KO, hKp, HI⟩
        case done2 =>
          rintro D2 xs W2 hD2 rfl ⟨⟨⟨A2', c2', qc2, _, ow2⟩, ch2⟩, hd2⟩ hK2
          have eL2 : (List.finRange NS).length = NS := by simp
          rw [eL2] at qc2 ow2
          have hK1 := hd2 D1 (by simp)
          have no8 : ∀ o, o ≠ 8 → ¬ ((⟨F, o, none⟩ : Addr) = ⟨F, 8, none⟩) := fun o h e => h (congrArg Addr.off e)
          have g0 := ch2.cell _ _ (no8 0 (by omega)) g0
          have g1 := ch2.cell _ _ (no8 1 (by omega)) g1
          have g2 := ch2.cell _ _ (no8 2 (by omega)) g2
          have g3 := ch2.cell _ _ (no8 3 (by omega)) g3
          have g4 := ch2.cell _ _ (no8 4 (by omega)) g4
          have g5 := ch2.cell _ _ (no8 5 (by omega)) g5
          have g6 := ch2.cell _ _ (no8 6 (by omega)) g6
          have g7 := ch2.cell _ _ (no8 7 (by omega)) g7
          have g9 := ch2.cell _ _ (no8 9 (by omega)) g9
          have g10 := ch2.cell _ _ (no8 10 (by omega)) g10
          have g8 := qc2
          have CF2 : Chg (fun p => p.block = F) w.heap.size w3 W2 := CF6.trans (ch2.wide (fun p h => by rw [h]) (Nat.le_refl _))
          have C12 : Chg (fun p => p.block = F) w.heap.size W1 W2 := (Chg.of_ext X16.out).trans (ch2.wide (fun p h => by rw [h]) (Nat.le_refl _))
          have hzW2 := ch2.size
          obtain ⟨_, _, e2v, hcc2, hmm2, rows2⟩ := own_rowN (by omega) rfl ow2
          simp only [Value.slice.injEq, true_and] at e2v
          obtain ⟨rfl, rfl⟩ := e2v
          have ROWS2 := Lib.hid rows2
          have kR2w : Blk W2 w.heap.size 28 [.int .i64 0, .int .i64 0, .int .i64 0, .slice none 0 0, .slice none 0 0, .slice none 0 0, .slice none 0 0, .slice none 0 0, .slice none 0 0, .slice none 0 0, .slice none 0 0] := CF2.blk _ _ _ _ (fun o => by show w.heap.size ≠ F; omega) kR4
          clear rows2 ow2 ch2 CF6 CA6 no8 qc2 hd2 k6 k6' kR4 kR3 CF1
          have HX4 := Lib.hid X4
          generalize hRR : w.heap.size = R at *
          have r0 : W2.cell? ⟨R, 0, none⟩ = some (.int .i64 0) := kR2w.cell 0
          have zz0 := kR2w.free 0
          have r1 : W2.cell? ⟨R, 1, none⟩ = some (.int .i64 0) := kR2w.cell 1
          have zz1 := kR2w.free 1
          have r2 : W2.cell? ⟨R, 2, none⟩ = some (.int .i64 0) := kR2w.cell 2
          have zz2 := kR2w.free 2
          have r3 : W2.cell? ⟨R, 3, none⟩ = some (.slice none 0 0) := kR2w.cell 3
          have zz3 := kR2w.free 3
          have r4 : W2.cell? ⟨R, 4, none⟩ = some (.slice none 0 0) := kR2w.cell 4
          have zz4 := kR2w.free 4
          have r5 : W2.cell? ⟨R, 5, none⟩ = some (.slice none 0 0) := kR2w.cell 5
          have zz5 := kR2w.free 5
          have r6 : W2.cell? ⟨R, 6, none⟩ = some (.slice none 0 0) := kR2w.cell 6
          have zz6 := kR2w.free 6
          have r7 : W2.cell? ⟨R, 7, none⟩ = some (.slice none 0 0) := kR2w.cell 7
          have zz7 := kR2w.free 7
          have r8 : W2.cell? ⟨R, 8, none⟩ = some (.slice none 0 0) := kR2w.cell 8
          have zz8 := kR2w.free 8
          have r9 : W2.cell? ⟨R, 9, none⟩ = some (.slice none 0 0) := kR2w.cell 9
          have zz9 := kR2w.free 9
          have r10 : W2.cell? ⟨R, 10, none⟩ = some (.slice none 0 0) := kR2w.cell 10
          have zz10 := kR2w.free 10
          go_wp2_with fail
          obtain ⟨W3, hW3⟩ : ∃ W3, W3 = (((((((((((W2.setCell ⟨R, 0, none⟩ (.int .i64 (word4 l 6))).setCell ⟨R, 1, none⟩ (.int .i64 (word4 l 7))).setCell ⟨R, 2, none⟩ (.int .i64 (half l 2))).setCell ⟨R, 3, none⟩ (.slice A1' NC c1')).setCell ⟨R, 4, none⟩ (.slice AW (half l 4).toNat cW)).setCell ⟨R, 5, none⟩ (.slice AH (half l 5).toNat cH)).setCell ⟨R, 6, none⟩ (.slice AD (half l 6).toNat cD)).setCell ⟨R, 7, none⟩ (.slice AI (half l 7).toNat cI)).setCell ⟨R, 8, none⟩ (.slice A2' NS c2')).setCell ⟨R, 9, none⟩ (.slice AK (half l 9).toNat cK)).setCell ⟨R, 10, none⟩ (.slice AP (half l 11).toNat cP)) := ⟨_, rfl⟩
          rw [← hW3]
          have CR : Chg (fun p => p.block = R) R W2 W3 := by rw [hW3]; exact (((((((((((Chg.set (T := fun p => p.block = R) (N := R) _ R 0 _ rfl (by omega)).trans (Chg.set (T := fun p => p.block = R) (N := R) _ R 1 _ rfl (by omega))).trans (Chg.set (T := fun p => p.block = R) (N := R) _ R 2 _ rfl (by omega))).trans (Chg.set (T := fun p => p.block = R) (N := R) _ R 3 _ rfl (by omega))).trans (Chg.set (T := fun p => p.block = R) (N := R) _ R 4 _ rfl (by omega))).trans (Chg.set (T := fun p => p.block = R) (N := R) _ R 5 _ rfl (by omega))).trans (Chg.set (T := fun p => p.block = R) (N := R) _ R 6 _ rfl (by omega))).trans (Chg.set (T := fun p => p.block = R) (N := R) _ R 7 _ rfl (by omega))).trans (Chg.set (T := fun p => p.block = R) (N := R) _ R 8 _ rfl (by omega))).trans (Chg.set (T := fun p => p.block = R) (N := R) _ R 9 _ rfl (by omega))).trans (Chg.set (T := fun p => p.block = R) (N := R) _ R 10 _ rfl (by omega)))
          have kR3 : Blk W3 R 28 [.int .i64 (word4 l 6), .int .i64 (word4 l 7), .int .i64 (half l 2), .slice A1' NC c1', .slice AW (half l 4).toNat cW, .slice AH (half l 5).toNat cH, .slice AD (half l 6).toNat cD, .slice AI (half l 7).toNat cI, .slice A2' NS c2', .slice AK (half l 9).toNat cK, .slice AP (half l 11).toNat cP] := by rw [hW3]; exact (((((((((((kR2w.set 0 (.int .i64 (word4 l 6))).set 1 (.int .i64 (word4 l 7))).set 2 (.int .i64 (half l 2))).set 3 (.slice A1' NC c1')).set 4 (.slice AW (half l 4).toNat cW)).set 5 (.slice AH (half l 5).toNat cH)).set 6 (.slice AD (half l 6).toNat cD)).set 7 (.slice AI (half l 7).toNat cI)).set 8 (.slice A2' NS c2')).set 9 (.slice AK (half l 9).toNat cK)).set 10 (.slice AP (half l 11).toNat cP))
          have KO3 : KeepsOthers W2 W3 := by rw [hW3]; exact (((((((((((KeepsOthers.setCell _ _ _).trans (KeepsOthers.setCell _ _ _)).trans (KeepsOthers.setCell _ _ _)).trans (KeepsOthers.setCell _ _ _)).trans (KeepsOthers.setCell _ _ _)).trans (KeepsOthers.setCell _ _ _)).trans (KeepsOthers.setCell _ _ _)).trans (KeepsOthers.setCell _ _ _)).trans (KeepsOthers.setCell _ _ _)).trans (KeepsOthers.setCell _ _ _)).trans (KeepsOthers.setCell _ _ _))
          clear hW3
          have hKa := KO3.same D2 _ hK2 rfl
          have hKb' := KO3.same D1 _ hK1 rfl
          have hne : D1 ≠ D2 := by omega
          have hRD2 : R ≠ D2 := by omega
          have hRD1 : R ≠ D1 := by omega
          have hKb : (W3.putObj D2 (.deferred none)).heap[D1]? = some (.deferred (some [])) := (World.putObj_heap_other hne).trans hKb'
          have C4 : Chg (fun _ => False) R W3 (W3.putObj D2 (.deferred none)) := Chg.kept (Chg.refl _ _ _) (grown_put W3 D2 _) (fun r e => by cases e; exact ⟨by omega, _, hKa, rfl⟩)
          have C5 : Chg (fun _ => False) R (W3.putObj D2 (.deferred none)) ((W3.putObj D2 (.deferred none)).putObj D1 (.deferred none)) := Chg.kept (Chg.refl _ _ _) (grown_put _ D1 _) (fun r e => by cases e; exact ⟨by omega, _, hKb, rfl⟩)
          have kR5 : Blk ((W3.putObj D2 (.deferred none)).putObj D1 (.deferred none)) R 28 [.int .i64 (word4 l 6), .int .i64 (word4 l 7), .int .i64 (half l 2), .slice A1' NC c1', .slice AW (half l 4).toNat cW, .slice AH (half l 5).toNat cH, .slice AD (half l 6).toNat cD, .slice AI (half l 7).toNat cI, .slice A2' NS c2', .slice AK (half l 9).toNat cK, .slice AP (half l 11).toNat cP] := (World.putObj_heap_other hRD1).trans ((World.putObj_heap_other hRD2).trans kR3)
          have C35 : Chg (fun p => p.block = F ∨ p.block = R) R W2 ((W3.putObj D2 (.deferred none)).putObj D1 (.deferred none)) := (CR.wide (fun p h => .inr h) (Nat.le_refl _)).trans ((C4.wide (fun p h => h.elim) (Nat.le_refl _)).trans (C5.wide (fun p h => h.elim) (Nat.le_refl _)))
          have CALL : Chg (fun p => p.block = F ∨ p.block = R) R w3 ((W3.putObj D2 (.deferred none)).putObj D1 (.deferred none)) := (CF2.wide (fun p h => .inl h) (Nat.le_refl _)).trans C35
          have CALL1 : Chg (fun p => p.block = F ∨ p.block = R) R W1 ((W3.putObj D2 (.deferred none)).putObj D1 (.deferred none)) := (C12.wide (fun p h => .inl h) (Nat.le_refl _)).trans C35
          have hT : ∀ r o, WB.heap.size ≤ r → ¬ ((⟨r, o, none⟩ : Addr).block = F ∨ (⟨r, o, none⟩ : Addr).block = R) := fun r o h => by show ¬ (r = F ∨ r = R); omega
          have X5 := CALL.old w (by omega) HX4.out
          refine ⟨by simp, .inl ⟨_, _, rfl, run_takeDeferred hKa, ⟨by simp, .inl ⟨_, _, rfl, run_takeDeferred hKb, ⟨_, results_font rfl _ _ R 28 (.int .i64 0) (.int .i64 (word4 l 6)) (.int .i64 (word4 l 7)) (.int .i64 (half l 2)) (.slice A1' NC c1') (.slice AW (half l 4).toNat cW) (.slice AH (half l 5).toNat cH) (.slice AD (half l 6).toNat cD) (.slice AI (half l 7).toNat cI) (.slice A2' NS c2') (.slice AK (half l 9).toNat cK) (.slice AP (half l 11).toNat cP) rfl rfl kR5, .inl ⟨⟨A1', c1', AW, cW, AH, cH, AD, cD, AI, cI, A2', c2', AK, cK, AP, cP⟩, ?_, ?_, ?_, X5⟩⟩⟩⟩⟩⟩
          · rw [HNC.out, HNS.out]; rfl
          · exact dec_ok l _ ⟨by rw [HNC.out] at hcc1; exact hcc1, hmm1⟩ ⟨hcW, hmW⟩ ⟨hcH, hmH⟩ ⟨hcD, hmD⟩ ⟨hcI, hmI⟩ ⟨by rw [HNS.out] at hcc2; exact hcc2, hmm2⟩ ⟨hcK, hmK⟩ ⟨hcP, hmP⟩
          · intro T M w9 hTT ch
            have U1 : Chg (fun p => (p.block = F ∨ p.block = R) ∨ T p) (min R M) w3 w9 := (CALL.wide (fun p h => .inl h) (Nat.min_le_left _ _)).trans (ch.wide (fun p h => .inr h) (Nat.min_le_right _ _))
            have U2 : Chg (fun p => (p.block = F ∨ p.block = R) ∨ T p) (min R M) W1 w9 := (CALL1.wide (fun p h => .inl h) (Nat.min_le_left _ _)).trans (ch.wide (fun p h => .inr h) (Nat.min_le_right _ _))
            have U3 : Chg (fun p => (p.block = F ∨ p.block = R) ∨ T p) (min R M) W2 w9 := (C35.wide (fun p h => .inl h) (Nat.min_le_left _ _)).trans (ch.wide (fun p h => .inr h) (Nat.min_le_right _ _))
            have hU : ∀ r o, WB.heap.size ≤ r → ¬ (((⟨r, o, none⟩ : Addr).block = F ∨ (⟨r, o, none⟩ : Addr).block = R) ∨ T ⟨r, o, none⟩) := fun r o h => by
              rintro (h1 | h1)
              · exact hT r o h h1
              · have h2 : r < w.heap.size := hTT _ h1
                omega
            refine ⟨?_, ?_, ?_, ?_, ?_, ?_, ?_, ?_⟩
            · have h := rowN_seen (w := W1) (fun i hi j hj => by obtain ⟨r, e, h1, h2, h3⟩ := ROWS1.out i hi j hj; exact ⟨r, e, h1, by omega, h3⟩) U2 (fun r o h => hU r o (by omega))
              rw [HNC.out] at h
              exact h
            · exact RW.out.seen U1 hU (fun j _ => row2_f l bs bc bt F 2 j (by omega))
            · exact RH.out.seen U1 hU (fun j _ => row2_f l bs bc bt F 3 j (by omega))
            · exact RD.out.seen U1 hU (fun j _ => row2_f l bs bc bt F 4 j (by omega))
            · exact RI.out.seen U1 hU (fun j _ => row2_f l bs bc bt F 5 j (by omega))
            · have h := rowN_seen ROWS2.out U3 (fun r o h => hU r o (by omega))
              rw [HNS.out] at h
              exact h
            · exact RK.out.seen U1 hU (fun j _ => row2_f l bs bc bt F 7 j (by omega))
            · exact RP.out.seen U1 hU (fun j _ => row2_f l bs bc bt F 8 j (by omega))
    · have NF := fits2 NF
      have X4 := C3.old w (Nat.le_refl _) X3
      have kR4 : Blk w3 w.heap.size 28 [.int .i64 0, .int .i64 0, .int .i64 0, .slice none 0 0, .slice none 0 0, .slice none 0 0, .slice none 0 0, .slice none 0 0, .slice none 0 0, .slice none 0 0, .slice none 0 0] := C3.blk _ _ _ _ OR kR3
      clear kR3 C3 TT X3 L2 OR kF3
      have hRg : w.heap.size < g := by omega
      generalize hRR : w.heap.size = R at *
      have r0 : w3.cell? ⟨R, 0, none⟩ = some (.int .i64 0) := kR4.cell 0
      have z0 := kR4.free 0
      have r1 : w3.cell? ⟨R, 1, none⟩ = some (.int .i64 0) := kR4.cell 1
      have z1 := kR4.free 1
      have r2 : w3.cell? ⟨R, 2, none⟩ = some (.int .i64 0) := kR4.cell 2
      have z2 := kR4.free 2
      have r3 : w3.cell? ⟨R, 3, none⟩ = some (.slice none 0 0) := kR4.cell 3
      have z3 := kR4.free 3
      have r4 : w3.cell? ⟨R, 4, none⟩ = some (.slice none 0 0) := kR4.cell 4
      have z4 := kR4.free 4
      have r5 : w3.cell? ⟨R, 5, none⟩ = some (.slice none 0 0) := kR4.cell 5
      have z5 := kR4.free 5
      have r6 : w3.cell? ⟨R, 6, none⟩ = some (.slice none 0 0) := kR4.cell 6
      have z6 := kR4.free 6
      have r7 : w3.cell? ⟨R, 7, none⟩ = some (.slice none 0 0) := kR4.cell 7
      have z7 := kR4.free 7
      have r8 : w3.cell? ⟨R, 8, none⟩ = some (.slice none 0 0) := kR4.cell 8
      have z8 := kR4.free 8
      have r9 : w3.cell? ⟨R, 9, none⟩ = some (.slice none 0 0) := kR4.cell 9
      have z9 := kR4.free 9
      have r10 : w3.cell? ⟨R, 10, none⟩ = some (.slice none 0 0) := kR4.cell 10
      have z10 := kR4.free 10
      go_wp2_with fail
      refine ⟨_, results_font rfl _ _ R 28 (.int .i64 60) (.int .i64 0) (.int .i64 0) (.int .i64 0) (.slice none 0 0) (.slice none 0 0) (.slice none 0 0) (.slice none 0 0) (.slice none 0 0) (.slice none 0 0) (.slice none 0 0) (.slice none 0 0) rfl rfl ?_, .inr ⟨rfl, NF, ?_⟩⟩
      · exact (((((((((((kR4.set 0 (.int .i64 0)).set 1 (.int .i64 0)).set 2 (.int .i64 0)).set 3 (.slice none 0 0)).set 4 (.slice none 0 0)).set 5 (.slice none 0 0)).set 6 (.slice none 0 0)).set 7 (.slice none 0 0)).set 8 (.slice none 0 0)).set 9 (.slice none 0 0)).set 10 (.slice none 0 0))
      · refine Ext.setCell ?_ (by show _ ≤ R; omega) _
        refine Ext.setCell ?_ (by show _ ≤ R; omega) _
        refine Ext.setCell ?_ (by show _ ≤ R; omega) _
        refine Ext.setCell ?_ (by show _ ≤ R; omega) _
        refine Ext.setCell ?_ (by show _ ≤ R; omega) _
        refine Ext.setCell ?_ (by show _ ≤ R; omega) _
        refine Ext.setCell ?_ (by show _ ≤ R; omega) _
        refine Ext.setCell ?_ (by show _ ≤ R; omega) _
        refine Ext.setCell ?_ (by show _ ≤ R; omega) _
        refine Ext.setCell ?_ (by show _ ≤ R; omega) _
        exact X4.setCell (by show _ ≤ R; omega) _
  · have NF := fun h => NF (fits1.2 (by have := heads_of (l := l) h; omega))
    have X2 := C1.old w (Nat.le_refl _) hX
    have OR : ∀ j, ¬ OnP g (ps1 bh) 1 ⟨w.heap.size, j, none⟩ := by
      rintro j (h | ⟨i, _, h⟩)
      · exact absurd (congrArg Addr.block h) (by show w.heap.size ≠ g; omega)
      · exact absurd (congrArg Addr.block h) (by show w.heap.size ≠ bh; omega)
    have kR2 : Blk w2 w.heap.size 28 [.int .i64 0, .int .i64 0, .int .i64 0, .slice none 0 0, .slice none 0 0, .slice none 0 0, .slice none 0 0, .slice none 0 0, .slice none 0 0, .slice none 0 0, .slice none 0 0] := C1.blk _ _ _ _ OR kR
    clear kR kH kS kC kP C1 TT
    generalize hRR : w.heap.size = R at *
    have r0 : w2.cell? ⟨R, 0, none⟩ = some (.int .i64 0) := kR2.cell 0
    have z0 := kR2.free 0
    have r1 : w2.cell? ⟨R, 1, none⟩ = some (.int .i64 0) := kR2.cell 1
    have z1 := kR2.free 1
    have r2 : w2.cell? ⟨R, 2, none⟩ = some (.int .i64 0) := kR2.cell 2
    have z2 := kR2.free 2
    have r3 : w2.cell? ⟨R, 3, none⟩ = some (.slice none 0 0) := kR2.cell 3
    have z3 := kR2.free 3
    have r4 : w2.cell? ⟨R, 4, none⟩ = some (.slice none 0 0) := kR2.cell 4
    have z4 := kR2.free 4
    have r5 : w2.cell? ⟨R, 5, none⟩ = some (.slice none 0 0) := kR2.cell 5
    have z5 := kR2.free 5
    have r6 : w2.cell? ⟨R, 6, none⟩ = some (.slice none 0 0) := kR2.cell 6
    have z6 := kR2.free 6
    have r7 : w2.cell? ⟨R, 7, none⟩ = some (.slice none 0 0) := kR2.cell 7
    have z7 := kR2.free 7
    have r8 : w2.cell? ⟨R, 8, none⟩ = some (.slice none 0 0) := kR2.cell 8
    have z8 := kR2.free 8
    have r9 : w2.cell? ⟨R, 9, none⟩ = some (.slice none 0 0) := kR2.cell 9
    have z9 := kR2.free 9
    have r10 : w2.cell? ⟨R, 10, none⟩ = some (.slice none 0 0) := kR2.cell 10
    have z10 := kR2.free 10
    go_wp2_with fail
    refine ⟨_, results_font rfl _ _ R 28 (.int .i64 60) (.int .i64 0) (.int .i64 0) (.int .i64 0) (.slice none 0 0) (.slice none 0 0) (.slice none 0 0) (.slice none 0 0) (.slice none 0 0) (.slice none 0 0) (.slice none 0 0) (.slice none 0 0) rfl rfl ?_, .inr ⟨rfl, NF, ?_⟩⟩
    · exact (((((((((((kR2.set 0 (.int .i64 0)).set 1 (.int .i64 0)).set 2 (.int .i64 0)).set 3 (.slice none 0 0)).set 4 (.slice none 0 0)).set 5 (.slice none 0 0)).set 6 (.slice none 0 0)).set 7 (.slice none 0 0)).set 8 (.slice none 0 0)).set 9 (.slice none 0 0)).set 10 (.slice none 0 0))
    · refine Ext.setCell ?_ (by show _ ≤ R; omega) _
      refine Ext.setCell ?_ (by show _ ≤ R; omega) _
      refine Ext.setCell ?_ (by show _ ≤ R; omega) _
      refine Ext.setCell ?_ (by show _ ≤ R; omega) _
      refine Ext.setCell ?_ (by show _ ≤ R; omega) _
      refine Ext.setCell ?_ (by show _ ≤ R; omega) _
      refine Ext.setCell ?_ (by show _ ≤ R; omega) _
      refine Ext.setCell ?_ (by show _ ≤ R; omega) _
      refine Ext.setCell ?_ (by show _ ≤ R; omega) _
      refine Ext.setCell ?_ (by show _ ≤ R; omega) _
      exact X2.setCell (by show _ ≤ R; omega) _
end L07
end Go.Proofs.Ytggedodfkjdegaa

