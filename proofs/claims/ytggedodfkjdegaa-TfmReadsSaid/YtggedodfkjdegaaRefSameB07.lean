/- The document's Same, behind its head. -/
import Derived.Test.YtggedodfkjdegaaRefSame07
import Derived.Test.YtggedodfkjdegaaRefHas07
namespace Go.Proofs.Ytggedodfkjdegaa
open Go.RowKit
namespace L07

set_option maxRecDepth 100000 in
set_option maxHeartbeats 40000000 in
theorem same_rest (D E : FontD) (P Q : FontP) (w : World) (hfew : fewB D = true) (snD : SeenFont w D P) (snE : SeenFont w E Q) (e0 : (D.sum != E.sum) = false) (e1 : (D.design != E.design) = false) (e2 : (D.first != E.first) = false)
    (hc : E.nc = D.nc) (hs : E.ns = D.ns) :
    Calls Try.prog 7 #[fontV D P, fontV E Q] w (Ret w (.bool (rowsB 6 D.nc D.chr E.chr && (rowsB 4 D.ns D.stp E.stp && (L04.sameB D.nw E.nw D.wd E.wd && (L04.sameB D.nh E.nh D.hd E.hd && (L04.sameB D.nd E.nd D.dd E.dd && (L04.sameB D.ni E.ni D.id E.id && (L04.sameB D.nk E.nk D.kd E.kd && L04.sameB D.np E.np D.pd E.pd))))))))) := by
  have F : D.nc ≤ 300 ∧ D.ns ≤ 300 ∧ D.nw ≤ 300 ∧ D.nh ≤ 300 ∧ D.nd ≤ 300 ∧ D.ni ≤ 300 ∧ D.nk ≤ 300 ∧ D.np ≤ 300 := by simpa [fewB] using hfew
  have mw : D.nw ≤ 9223372036854775806 := by omega
  have mh : D.nh ≤ 9223372036854775806 := by omega
  have md : D.nd ≤ 9223372036854775806 := by omega
  have mi : D.ni ≤ 9223372036854775806 := by omega
  have mk : D.nk ≤ 9223372036854775806 := by omega
  have mp : D.np ≤ 9223372036854775806 := by omega
  have mc : (D.nc : Int) ≤ 9223372036854775806 := by omega
  have ms : (D.ns : Int) ≤ 9223372036854775806 := by omega
  have W0 : Ext w ((w.alloc (.cells #[.int .i64 D.sum, .int .i64 D.design, .int .i64 D.first, .slice P.xc D.nc P.zc, .slice P.xw D.nw P.zw, .slice P.xh D.nh P.zh, .slice P.xd D.nd P.zd, .slice P.xi D.ni P.zi, .slice P.xs D.ns P.zs, .slice P.xk D.nk P.zk, .slice P.xp D.np P.zp] 28)).alloc (.cells #[.int .i64 E.sum, .int .i64 E.design, .int .i64 E.first, .slice Q.xc D.nc Q.zc, .slice Q.xw E.nw Q.zw, .slice Q.xh E.nh Q.zh, .slice Q.xd E.nd Q.zd, .slice Q.xi E.ni Q.zi, .slice Q.xs D.ns Q.zs, .slice Q.xk E.nk Q.zk, .slice Q.xp E.np Q.zp] 28)) := ((Ext.refl _).alloc _).alloc _
  have sD := snD.ext W0
  have sE := snE.ext W0
  have q3 : ((w.alloc (.cells #[.int .i64 D.sum, .int .i64 D.design, .int .i64 D.first, .slice P.xc D.nc P.zc, .slice P.xw D.nw P.zw, .slice P.xh D.nh P.zh, .slice P.xd D.nd P.zd, .slice P.xi D.ni P.zi, .slice P.xs D.ns P.zs, .slice P.xk D.nk P.zk, .slice P.xp D.np P.zp] 28)).alloc (.cells #[.int .i64 E.sum, .int .i64 E.design, .int .i64 E.first, .slice Q.xc D.nc Q.zc, .slice Q.xw E.nw Q.zw, .slice Q.xh E.nh Q.zh, .slice Q.xd E.nd Q.zd, .slice Q.xi E.ni Q.zi, .slice Q.xs D.ns Q.zs, .slice Q.xk E.nk Q.zk, .slice Q.xp E.np Q.zp] 28)).cell? ⟨w.heap.size, 3, none⟩ = some (.slice P.xc D.nc P.zc) := by simp [go_sem]
  have q4 : ((w.alloc (.cells #[.int .i64 D.sum, .int .i64 D.design, .int .i64 D.first, .slice P.xc D.nc P.zc, .slice P.xw D.nw P.zw, .slice P.xh D.nh P.zh, .slice P.xd D.nd P.zd, .slice P.xi D.ni P.zi, .slice P.xs D.ns P.zs, .slice P.xk D.nk P.zk, .slice P.xp D.np P.zp] 28)).alloc (.cells #[.int .i64 E.sum, .int .i64 E.design, .int .i64 E.first, .slice Q.xc D.nc Q.zc, .slice Q.xw E.nw Q.zw, .slice Q.xh E.nh Q.zh, .slice Q.xd E.nd Q.zd, .slice Q.xi E.ni Q.zi, .slice Q.xs D.ns Q.zs, .slice Q.xk E.nk Q.zk, .slice Q.xp E.np Q.zp] 28)).cell? ⟨w.heap.size, 4, none⟩ = some (.slice P.xw D.nw P.zw) := by simp [go_sem]
  have q5 : ((w.alloc (.cells #[.int .i64 D.sum, .int .i64 D.design, .int .i64 D.first, .slice P.xc D.nc P.zc, .slice P.xw D.nw P.zw, .slice P.xh D.nh P.zh, .slice P.xd D.nd P.zd, .slice P.xi D.ni P.zi, .slice P.xs D.ns P.zs, .slice P.xk D.nk P.zk, .slice P.xp D.np P.zp] 28)).alloc (.cells #[.int .i64 E.sum, .int .i64 E.design, .int .i64 E.first, .slice Q.xc D.nc Q.zc, .slice Q.xw E.nw Q.zw, .slice Q.xh E.nh Q.zh, .slice Q.xd E.nd Q.zd, .slice Q.xi E.ni Q.zi, .slice Q.xs D.ns Q.zs, .slice Q.xk E.nk Q.zk, .slice Q.xp E.np Q.zp] 28)).cell? ⟨w.heap.size, 5, none⟩ = some (.slice P.xh D.nh P.zh) := by simp [go_sem]
  have q6 : ((w.alloc (.cells #[.int .i64 D.sum, .int .i64 D.design, .int .i64 D.first, .slice P.xc D.nc P.zc, .slice P.xw D.nw P.zw, .slice P.xh D.nh P.zh, .slice P.xd D.nd P.zd, .slice P.xi D.ni P.zi, .slice P.xs D.ns P.zs, .slice P.xk D.nk P.zk, .slice P.xp D.np P.zp] 28)).alloc (.cells #[.int .i64 E.sum, .int .i64 E.design, .int .i64 E.first, .slice Q.xc D.nc Q.zc, .slice Q.xw E.nw Q.zw, .slice Q.xh E.nh Q.zh, .slice Q.xd E.nd Q.zd, .slice Q.xi E.ni Q.zi, .slice Q.xs D.ns Q.zs, .slice Q.xk E.nk Q.zk, .slice Q.xp E.np Q.zp] 28)).cell? ⟨w.heap.size, 6, none⟩ = some (.slice P.xd D.nd P.zd) := by simp [go_sem]
  have q7 : ((w.alloc (.cells #[.int .i64 D.sum, .int .i64 D.design, .int .i64 D.first, .slice P.xc D.nc P.zc, .slice P.xw D.nw P.zw, .slice P.xh D.nh P.zh, .slice P.xd D.nd P.zd, .slice P.xi D.ni P.zi, .slice P.xs D.ns P.zs, .slice P.xk D.nk P.zk, .slice P.xp D.np P.zp] 28)).alloc (.cells #[.int .i64 E.sum, .int .i64 E.design, .int .i64 E.first, .slice Q.xc D.nc Q.zc, .slice Q.xw E.nw Q.zw, .slice Q.xh E.nh Q.zh, .slice Q.xd E.nd Q.zd, .slice Q.xi E.ni Q.zi, .slice Q.xs D.ns Q.zs, .slice Q.xk E.nk Q.zk, .slice Q.xp E.np Q.zp] 28)).cell? ⟨w.heap.size, 7, none⟩ = some (.slice P.xi D.ni P.zi) := by simp [go_sem]
  have q8 : ((w.alloc (.cells #[.int .i64 D.sum, .int .i64 D.design, .int .i64 D.first, .slice P.xc D.nc P.zc, .slice P.xw D.nw P.zw, .slice P.xh D.nh P.zh, .slice P.xd D.nd P.zd, .slice P.xi D.ni P.zi, .slice P.xs D.ns P.zs, .slice P.xk D.nk P.zk, .slice P.xp D.np P.zp] 28)).alloc (.cells #[.int .i64 E.sum, .int .i64 E.design, .int .i64 E.first, .slice Q.xc D.nc Q.zc, .slice Q.xw E.nw Q.zw, .slice Q.xh E.nh Q.zh, .slice Q.xd E.nd Q.zd, .slice Q.xi E.ni Q.zi, .slice Q.xs D.ns Q.zs, .slice Q.xk E.nk Q.zk, .slice Q.xp E.np Q.zp] 28)).cell? ⟨w.heap.size, 8, none⟩ = some (.slice P.xs D.ns P.zs) := by simp [go_sem]
  have q9 : ((w.alloc (.cells #[.int .i64 D.sum, .int .i64 D.design, .int .i64 D.first, .slice P.xc D.nc P.zc, .slice P.xw D.nw P.zw, .slice P.xh D.nh P.zh, .slice P.xd D.nd P.zd, .slice P.xi D.ni P.zi, .slice P.xs D.ns P.zs, .slice P.xk D.nk P.zk, .slice P.xp D.np P.zp] 28)).alloc (.cells #[.int .i64 E.sum, .int .i64 E.design, .int .i64 E.first, .slice Q.xc D.nc Q.zc, .slice Q.xw E.nw Q.zw, .slice Q.xh E.nh Q.zh, .slice Q.xd E.nd Q.zd, .slice Q.xi E.ni Q.zi, .slice Q.xs D.ns Q.zs, .slice Q.xk E.nk Q.zk, .slice Q.xp E.np Q.zp] 28)).cell? ⟨w.heap.size, 9, none⟩ = some (.slice P.xk D.nk P.zk) := by simp [go_sem]
  have q10 : ((w.alloc (.cells #[.int .i64 D.sum, .int .i64 D.design, .int .i64 D.first, .slice P.xc D.nc P.zc, .slice P.xw D.nw P.zw, .slice P.xh D.nh P.zh, .slice P.xd D.nd P.zd, .slice P.xi D.ni P.zi, .slice P.xs D.ns P.zs, .slice P.xk D.nk P.zk, .slice P.xp D.np P.zp] 28)).alloc (.cells #[.int .i64 E.sum, .int .i64 E.design, .int .i64 E.first, .slice Q.xc D.nc Q.zc, .slice Q.xw E.nw Q.zw, .slice Q.xh E.nh Q.zh, .slice Q.xd E.nd Q.zd, .slice Q.xi E.ni Q.zi, .slice Q.xs D.ns Q.zs, .slice Q.xk E.nk Q.zk, .slice Q.xp E.np Q.zp] 28)).cell? ⟨w.heap.size, 10, none⟩ = some (.slice P.xp D.np P.zp) := by simp [go_sem]
  have r3 : ((w.alloc (.cells #[.int .i64 D.sum, .int .i64 D.design, .int .i64 D.first, .slice P.xc D.nc P.zc, .slice P.xw D.nw P.zw, .slice P.xh D.nh P.zh, .slice P.xd D.nd P.zd, .slice P.xi D.ni P.zi, .slice P.xs D.ns P.zs, .slice P.xk D.nk P.zk, .slice P.xp D.np P.zp] 28)).alloc (.cells #[.int .i64 E.sum, .int .i64 E.design, .int .i64 E.first, .slice Q.xc D.nc Q.zc, .slice Q.xw E.nw Q.zw, .slice Q.xh E.nh Q.zh, .slice Q.xd E.nd Q.zd, .slice Q.xi E.ni Q.zi, .slice Q.xs D.ns Q.zs, .slice Q.xk E.nk Q.zk, .slice Q.xp E.np Q.zp] 28)).cell? ⟨w.heap.size + 1, 3, none⟩ = some (.slice Q.xc D.nc Q.zc) := by simp [go_sem]
  have r4 : ((w.alloc (.cells #[.int .i64 D.sum, .int .i64 D.design, .int .i64 D.first, .slice P.xc D.nc P.zc, .slice P.xw D.nw P.zw, .slice P.xh D.nh P.zh, .slice P.xd D.nd P.zd, .slice P.xi D.ni P.zi, .slice P.xs D.ns P.zs, .slice P.xk D.nk P.zk, .slice P.xp D.np P.zp] 28)).alloc (.cells #[.int .i64 E.sum, .int .i64 E.design, .int .i64 E.first, .slice Q.xc D.nc Q.zc, .slice Q.xw E.nw Q.zw, .slice Q.xh E.nh Q.zh, .slice Q.xd E.nd Q.zd, .slice Q.xi E.ni Q.zi, .slice Q.xs D.ns Q.zs, .slice Q.xk E.nk Q.zk, .slice Q.xp E.np Q.zp] 28)).cell? ⟨w.heap.size + 1, 4, none⟩ = some (.slice Q.xw E.nw Q.zw) := by simp [go_sem]
  have r5 : ((w.alloc (.cells #[.int .i64 D.sum, .int .i64 D.design, .int .i64 D.first, .slice P.xc D.nc P.zc, .slice P.xw D.nw P.zw, .slice P.xh D.nh P.zh, .slice P.xd D.nd P.zd, .slice P.xi D.ni P.zi, .slice P.xs D.ns P.zs, .slice P.xk D.nk P.zk, .slice P.xp D.np P.zp] 28)).alloc (.cells #[.int .i64 E.sum, .int .i64 E.design, .int .i64 E.first, .slice Q.xc D.nc Q.zc, .slice Q.xw E.nw Q.zw, .slice Q.xh E.nh Q.zh, .slice Q.xd E.nd Q.zd, .slice Q.xi E.ni Q.zi, .slice Q.xs D.ns Q.zs, .slice Q.xk E.nk Q.zk, .slice Q.xp E.np Q.zp] 28)).cell? ⟨w.heap.size + 1, 5, none⟩ = some (.slice Q.xh E.nh Q.zh) := by simp [go_sem]
  have r6 : ((w.alloc (.cells #[.int .i64 D.sum, .int .i64 D.design, .int .i64 D.first, .slice P.xc D.nc P.zc, .slice P.xw D.nw P.zw, .slice P.xh D.nh P.zh, .slice P.xd D.nd P.zd, .slice P.xi D.ni P.zi, .slice P.xs D.ns P.zs, .slice P.xk D.nk P.zk, .slice P.xp D.np P.zp] 28)).alloc (.cells #[.int .i64 E.sum, .int .i64 E.design, .int .i64 E.first, .slice Q.xc D.nc Q.zc, .slice Q.xw E.nw Q.zw, .slice Q.xh E.nh Q.zh, .slice Q.xd E.nd Q.zd, .slice Q.xi E.ni Q.zi, .slice Q.xs D.ns Q.zs, .slice Q.xk E.nk Q.zk, .slice Q.xp E.np Q.zp] 28)).cell? ⟨w.heap.size + 1, 6, none⟩ = some (.slice Q.xd E.nd Q.zd) := by simp [go_sem]
  have r7 : ((w.alloc (.cells #[.int .i64 D.sum, .int .i64 D.design, .int .i64 D.first, .slice P.xc D.nc P.zc, .slice P.xw D.nw P.zw, .slice P.xh D.nh P.zh, .slice P.xd D.nd P.zd, .slice P.xi D.ni P.zi, .slice P.xs D.ns P.zs, .slice P.xk D.nk P.zk, .slice P.xp D.np P.zp] 28)).alloc (.cells #[.int .i64 E.sum, .int .i64 E.design, .int .i64 E.first, .slice Q.xc D.nc Q.zc, .slice Q.xw E.nw Q.zw, .slice Q.xh E.nh Q.zh, .slice Q.xd E.nd Q.zd, .slice Q.xi E.ni Q.zi, .slice Q.xs D.ns Q.zs, .slice Q.xk E.nk Q.zk, .slice Q.xp E.np Q.zp] 28)).cell? ⟨w.heap.size + 1, 7, none⟩ = some (.slice Q.xi E.ni Q.zi) := by simp [go_sem]
  have r8 : ((w.alloc (.cells #[.int .i64 D.sum, .int .i64 D.design, .int .i64 D.first, .slice P.xc D.nc P.zc, .slice P.xw D.nw P.zw, .slice P.xh D.nh P.zh, .slice P.xd D.nd P.zd, .slice P.xi D.ni P.zi, .slice P.xs D.ns P.zs, .slice P.xk D.nk P.zk, .slice P.xp D.np P.zp] 28)).alloc (.cells #[.int .i64 E.sum, .int .i64 E.design, .int .i64 E.first, .slice Q.xc D.nc Q.zc, .slice Q.xw E.nw Q.zw, .slice Q.xh E.nh Q.zh, .slice Q.xd E.nd Q.zd, .slice Q.xi E.ni Q.zi, .slice Q.xs D.ns Q.zs, .slice Q.xk E.nk Q.zk, .slice Q.xp E.np Q.zp] 28)).cell? ⟨w.heap.size + 1, 8, none⟩ = some (.slice Q.xs D.ns Q.zs) := by simp [go_sem]
  have r9 : ((w.alloc (.cells #[.int .i64 D.sum, .int .i64 D.design, .int .i64 D.first, .slice P.xc D.nc P.zc, .slice P.xw D.nw P.zw, .slice P.xh D.nh P.zh, .slice P.xd D.nd P.zd, .slice P.xi D.ni P.zi, .slice P.xs D.ns P.zs, .slice P.xk D.nk P.zk, .slice P.xp D.np P.zp] 28)).alloc (.cells #[.int .i64 E.sum, .int .i64 E.design, .int .i64 E.first, .slice Q.xc D.nc Q.zc, .slice Q.xw E.nw Q.zw, .slice Q.xh E.nh Q.zh, .slice Q.xd E.nd Q.zd, .slice Q.xi E.ni Q.zi, .slice Q.xs D.ns Q.zs, .slice Q.xk E.nk Q.zk, .slice Q.xp E.np Q.zp] 28)).cell? ⟨w.heap.size + 1, 9, none⟩ = some (.slice Q.xk E.nk Q.zk) := by simp [go_sem]
  have r10 : ((w.alloc (.cells #[.int .i64 D.sum, .int .i64 D.design, .int .i64 D.first, .slice P.xc D.nc P.zc, .slice P.xw D.nw P.zw, .slice P.xh D.nh P.zh, .slice P.xd D.nd P.zd, .slice P.xi D.ni P.zi, .slice P.xs D.ns P.zs, .slice P.xk D.nk P.zk, .slice P.xp D.np P.zp] 28)).alloc (.cells #[.int .i64 E.sum, .int .i64 E.design, .int .i64 E.first, .slice Q.xc D.nc Q.zc, .slice Q.xw E.nw Q.zw, .slice Q.xh E.nh Q.zh, .slice Q.xd E.nd Q.zd, .slice Q.xi E.ni Q.zi, .slice Q.xs D.ns Q.zs, .slice Q.xk E.nk Q.zk, .slice Q.xp E.np Q.zp] 28)).cell? ⟨w.heap.size + 1, 10, none⟩ = some (.slice Q.xp E.np Q.zp) := by simp [go_sem]
  have SC := sE.oc
  have SS := sE.os
  rw [hc] at SC
  rw [hs] at SS
  have RD := sD.oc
  have RS := sD.os
  clear F hfew snD snE
  unfold fontV
  rw [hc, hs]
  clear hc hs
  go_enter Try.func7, Try.ntmps7
  go_wp2_with fail
  clear e0 e1 e2
  generalize ((w.alloc (.cells #[.int .i64 D.sum, .int .i64 D.design, .int .i64 D.first, .slice P.xc D.nc P.zc, .slice P.xw D.nw P.zw, .slice P.xh D.nh P.zh, .slice P.xd D.nd P.zd, .slice P.xi D.ni P.zi, .slice P.xs D.ns P.zs, .slice P.xk D.nk P.zk, .slice P.xp D.np P.zp] 28)).alloc (.cells #[.int .i64 E.sum, .int .i64 E.design, .int .i64 E.first, .slice Q.xc D.nc Q.zc, .slice Q.xw E.nw Q.zw, .slice Q.xh E.nh Q.zh, .slice Q.xd E.nd Q.zd, .slice Q.xi E.ni Q.zi, .slice Q.xs D.ns Q.zs, .slice Q.xk E.nk Q.zk, .slice Q.xp E.np Q.zp] 28)) = V at *
  generalize w.heap.size = B at *
  go_loopw [5] (fun i wr => ∃ k : Nat, k ≤ D.nc ∧ i = .int .i64 k ∧ Hid (∀ i, i < k → ∀ j, j < 6 → D.chr i j = E.chr i j) ∧ Ext V wr) (fun i _ => D.nc - (intOf i).toNat)
  case atStart => exact ⟨0, by omega, rfl, Lib.hid (fun i hi => absurd hi (by omega)), Ext.refl _⟩
  case round =>
    obtain ⟨k, hk, rfl, hall, x⟩ := hrel
    by_cases hlt : k < D.nc
    · have c3 := x.at q3
      have d3 := x.at r3
      obtain ⟨ad, hA, e0, e1, e2, e3, e4, e5⟩ := row6 (RD.ext x) hlt
      obtain ⟨be, hB, g0, g1, g2, g3, g4, g5⟩ := row6 (SC.ext x) hlt
      rw [hA] at c3
      rw [hB] at d3
      have HX := Lib.hid x
      clear x hA hB
      by_cases heq : ∀ j, j < 6 → D.chr k j = E.chr k j
      · have HK : Hid (∀ i, i < k + 1 → ∀ j, j < 6 → D.chr i j = E.chr i j) := fun i hi => by
          by_cases e : i = k
          · subst e; exact heq
          · exact hall.out i (by omega)
        rw [← heq 0 (by omega)] at g0
        rw [← heq 1 (by omega)] at g1
        rw [← heq 2 (by omega)] at g2
        rw [← heq 3 (by omega)] at g3
        rw [← heq 4 (by omega)] at g4
        rw [← heq 5 (by omega)] at g5
        clear heq
        generalize D.chr k 0 = v0 at *
        generalize D.chr k 1 = v1 at *
        generalize D.chr k 2 = v2 at *
        generalize D.chr k 3 = v3 at *
        generalize D.chr k 4 = v4 at *
        generalize D.chr k 5 = v5 at *
        go_wp2_with fail
        go_quiet (fail)
        go_wp2_with fail
        go_roundw
        case rel => exact ⟨k + 1, by omega, by go_num, HK, HX.out.drewN _⟩
        case measure => simp [intOf]; omega
      · have NO : Hid ((rowsB 6 D.nc D.chr E.chr && (rowsB 4 D.ns D.stp E.stp && (L04.sameB D.nw E.nw D.wd E.wd && (L04.sameB D.nh E.nh D.hd E.hd && (L04.sameB D.nd E.nd D.dd E.dd && (L04.sameB D.ni E.ni D.id E.id && (L04.sameB D.nk E.nk D.kd E.kd && L04.sameB D.np E.np D.pd E.pd))))))) = false) := by
          have : rowsB 6 D.nc D.chr E.chr = false := decide_eq_false fun h => heq (h k hlt)
          rw [this]; rfl
        have hj : ∃ j, j < 6 ∧ ¬ D.chr k j = E.chr k j := Classical.byContradiction fun h => heq fun j hj => Classical.byContradiction fun h' => h ⟨j, hj, h'⟩
        obtain ⟨j, hj, hne⟩ := hj
        clear heq
        have HN : ¬ D.chr k 0 = E.chr k 0 ∨ ¬ D.chr k 1 = E.chr k 1 ∨ ¬ D.chr k 2 = E.chr k 2 ∨ ¬ D.chr k 3 = E.chr k 3 ∨ ¬ D.chr k 4 = E.chr k 4 ∨ ¬ D.chr k 5 = E.chr k 5 := by
          match j, hj, hne with
          | 0, _, h => exact .inl h
          | 1, _, h => exact .inr (.inl h)
          | 2, _, h => exact .inr (.inr (.inl h))
          | 3, _, h => exact .inr (.inr (.inr (.inl h)))
          | 4, _, h => exact .inr (.inr (.inr (.inr (.inl h))))
          | 5, _, h => exact .inr (.inr (.inr (.inr (.inr (h)))))
        clear hj hne
        generalize D.chr k 0 = v0 at *
        generalize E.chr k 0 = u0 at *
        generalize D.chr k 1 = v1 at *
        generalize E.chr k 1 = u1 at *
        generalize D.chr k 2 = v2 at *
        generalize E.chr k 2 = u2 at *
        generalize D.chr k 3 = v3 at *
        generalize E.chr k 3 = u3 at *
        generalize D.chr k 4 = v4 at *
        generalize E.chr k 4 = u4 at *
        generalize D.chr k 5 = v5 at *
        generalize E.chr k 5 = u5 at *
        rcases HN with hn | hn | hn | hn | hn | hn
        all_goals
          go_wp2_with fail
          go_quiet (fail)
          go_wp2_with fail
          all_goals
            go_ret
            exact ⟨L04.ret_b NO.out.symm, W0.trans (HX.out.drewN _)⟩
    · have ek : k = D.nc := by omega
      subst ek
      have R1 : Hid (rowsB 6 D.nc D.chr E.chr = true) := decide_eq_true hall.out
      have p3 := x.at q3
      have p8 := x.at q8
      go_wp2_with fail
      clear p3 p8 hall hlt hk
      go_loopw [6] (fun i wr => ∃ k : Nat, k ≤ D.ns ∧ i = .int .i64 k ∧ Hid (∀ i, i < k → ∀ j, j < 4 → D.stp i j = E.stp i j) ∧ Ext V wr) (fun i _ => D.ns - (intOf i).toNat)
      case atStart => exact ⟨0, by omega, rfl, Lib.hid (fun i hi => absurd hi (by omega)), x⟩
      case round =>
        clear x
        obtain ⟨k, hk, rfl, hall, x⟩ := hrel
        by_cases hlt : k < D.ns
        · have c8 := x.at q8
          have d8 := x.at r8
          obtain ⟨ad, hA, e0, e1, e2, e3⟩ := row4 (RS.ext x) hlt
          obtain ⟨be, hB, g0, g1, g2, g3⟩ := row4 (SS.ext x) hlt
          rw [hA] at c8
          rw [hB] at d8
          have HX := Lib.hid x
          clear x hA hB
          by_cases heq : ∀ j, j < 4 → D.stp k j = E.stp k j
          · have HK : Hid (∀ i, i < k + 1 → ∀ j, j < 4 → D.stp i j = E.stp i j) := fun i hi => by
              by_cases e : i = k
              · subst e; exact heq
              · exact hall.out i (by omega)
            rw [← heq 0 (by omega)] at g0
            rw [← heq 1 (by omega)] at g1
            rw [← heq 2 (by omega)] at g2
            rw [← heq 3 (by omega)] at g3
            clear heq
            generalize D.stp k 0 = v0 at *
            generalize D.stp k 1 = v1 at *
            generalize D.stp k 2 = v2 at *
            generalize D.stp k 3 = v3 at *
            go_wp2_with fail
            go_quiet (fail)
            go_wp2_with fail
            go_roundw
            case rel => exact ⟨k + 1, by omega, by go_num, HK, HX.out.drewN _⟩
            case measure => simp [intOf]; omega
          · have NO : Hid ((rowsB 6 D.nc D.chr E.chr && (rowsB 4 D.ns D.stp E.stp && (L04.sameB D.nw E.nw D.wd E.wd && (L04.sameB D.nh E.nh D.hd E.hd && (L04.sameB D.nd E.nd D.dd E.dd && (L04.sameB D.ni E.ni D.id E.id && (L04.sameB D.nk E.nk D.kd E.kd && L04.sameB D.np E.np D.pd E.pd))))))) = false) := by
              have : rowsB 4 D.ns D.stp E.stp = false := decide_eq_false fun h => heq (h k hlt)
              rw [this]; cases rowsB 6 D.nc D.chr E.chr <;> rfl
            have hj : ∃ j, j < 4 ∧ ¬ D.stp k j = E.stp k j := Classical.byContradiction fun h => heq fun j hj => Classical.byContradiction fun h' => h ⟨j, hj, h'⟩
            obtain ⟨j, hj, hne⟩ := hj
            clear heq
            have HN : ¬ D.stp k 0 = E.stp k 0 ∨ ¬ D.stp k 1 = E.stp k 1 ∨ ¬ D.stp k 2 = E.stp k 2 ∨ ¬ D.stp k 3 = E.stp k 3 := by
              match j, hj, hne with
              | 0, _, h => exact .inl h
              | 1, _, h => exact .inr (.inl h)
              | 2, _, h => exact .inr (.inr (.inl h))
              | 3, _, h => exact .inr (.inr (.inr (h)))
            clear hj hne
            generalize D.stp k 0 = v0 at *
            generalize E.stp k 0 = u0 at *
            generalize D.stp k 1 = v1 at *
            generalize E.stp k 1 = u1 at *
            generalize D.stp k 2 = v2 at *
            generalize E.stp k 2 = u2 at *
            generalize D.stp k 3 = v3 at *
            generalize E.stp k 3 = u3 at *
            rcases HN with hn | hn | hn | hn
            all_goals
              go_wp2_with fail
              go_quiet (fail)
              go_wp2_with fail
              all_goals
                go_ret
                exact ⟨L04.ret_b NO.out.symm, W0.trans (HX.out.drewN _)⟩
        · have ek : k = D.ns := by omega
          subst ek
          have R2 : Hid (rowsB 4 D.ns D.stp E.stp = true) := decide_eq_true hall.out
          clear hall hlt hk RD RS SC SS
          have p8 := x.at q8
          have q4 := x.at q4
          have r4 := x.at r4
          have q5 := x.at q5
          have r5 := x.at r5
          have q6 := x.at q6
          have r6 := x.at r6
          have q7 := x.at q7
          have r7 := x.at r7
          have q9 := x.at q9
          have r9 := x.at r9
          have q10 := x.at q10
          have r10 := x.at r10
          have X0 := x
          cases b0 : L04.sameB D.nw E.nw D.wd E.wd with
          | false =>
            go_wp2_with fail
            refine (L04.same_any P.xw Q.xw D.nw E.nw P.zw Q.zw D.wd E.wd _ (sD.ow.ext X0) (sE.ow.ext X0) mw).mono ?_; rintro e t0 ⟨rfl, y0⟩
            go_wp2_with fail
            go_ret
            exact ⟨L04.ret_b (by rw [R1.out, R2.out, b0]; rfl), W0.trans (X0.trans y0)⟩
          | true =>
            go_wp2_with fail
            refine (L04.same_any P.xw Q.xw D.nw E.nw P.zw Q.zw D.wd E.wd _ (sD.ow.ext X0) (sE.ow.ext X0) mw).mono ?_; rintro e t0 ⟨rfl, y0⟩
            have X1 := X0.trans y0
            have q5 := y0.at q5
            have r5 := y0.at r5
            have q6 := y0.at q6
            have r6 := y0.at r6
            have q7 := y0.at q7
            have r7 := y0.at r7
            have q9 := y0.at q9
            have r9 := y0.at r9
            have q10 := y0.at q10
            have r10 := y0.at r10
            cases b1 : L04.sameB D.nh E.nh D.hd E.hd with
            | false =>
              go_wp2_with fail
              refine (L04.same_any P.xh Q.xh D.nh E.nh P.zh Q.zh D.hd E.hd _ (sD.oh.ext X1) (sE.oh.ext X1) mh).mono ?_; rintro e t1 ⟨rfl, y1⟩
              go_wp2_with fail
              go_ret
              exact ⟨L04.ret_b (by rw [R1.out, R2.out, b0, b1]; rfl), W0.trans (X1.trans y1)⟩
            | true =>
              go_wp2_with fail
              refine (L04.same_any P.xh Q.xh D.nh E.nh P.zh Q.zh D.hd E.hd _ (sD.oh.ext X1) (sE.oh.ext X1) mh).mono ?_; rintro e t1 ⟨rfl, y1⟩
              have X2 := X1.trans y1
              have q5 := y1.at q5
              have r5 := y1.at r5
              have q6 := y1.at q6
              have r6 := y1.at r6
              have q7 := y1.at q7
              have r7 := y1.at r7
              have q9 := y1.at q9
              have r9 := y1.at r9
              have q10 := y1.at q10
              have r10 := y1.at r10
              cases b2 : L04.sameB D.nd E.nd D.dd E.dd with
              | false =>
                go_wp2_with fail
                refine (L04.same_any P.xd Q.xd D.nd E.nd P.zd Q.zd D.dd E.dd _ (sD.od.ext X2) (sE.od.ext X2) md).mono ?_; rintro e t2 ⟨rfl, y2⟩
                go_wp2_with fail
                go_ret
                exact ⟨L04.ret_b (by rw [R1.out, R2.out, b0, b1, b2]; rfl), W0.trans (X2.trans y2)⟩
              | true =>
                go_wp2_with fail
                refine (L04.same_any P.xd Q.xd D.nd E.nd P.zd Q.zd D.dd E.dd _ (sD.od.ext X2) (sE.od.ext X2) md).mono ?_; rintro e t2 ⟨rfl, y2⟩
                have X3 := X2.trans y2
                have q5 := y2.at q5
                have r5 := y2.at r5
                have q6 := y2.at q6
                have r6 := y2.at r6
                have q7 := y2.at q7
                have r7 := y2.at r7
                have q9 := y2.at q9
                have r9 := y2.at r9
                have q10 := y2.at q10
                have r10 := y2.at r10
                cases b3 : L04.sameB D.ni E.ni D.id E.id with
                | false =>
                  go_wp2_with fail
                  refine (L04.same_any P.xi Q.xi D.ni E.ni P.zi Q.zi D.id E.id _ (sD.oi.ext X3) (sE.oi.ext X3) mi).mono ?_; rintro e t3 ⟨rfl, y3⟩
                  go_wp2_with fail
                  go_ret
                  exact ⟨L04.ret_b (by rw [R1.out, R2.out, b0, b1, b2, b3]; rfl), W0.trans (X3.trans y3)⟩
                | true =>
                  go_wp2_with fail
                  refine (L04.same_any P.xi Q.xi D.ni E.ni P.zi Q.zi D.id E.id _ (sD.oi.ext X3) (sE.oi.ext X3) mi).mono ?_; rintro e t3 ⟨rfl, y3⟩
                  have X4 := X3.trans y3
                  have q5 := y3.at q5
                  have r5 := y3.at r5
                  have q6 := y3.at q6
                  have r6 := y3.at r6
                  have q7 := y3.at q7
                  have r7 := y3.at r7
                  have q9 := y3.at q9
                  have r9 := y3.at r9
                  have q10 := y3.at q10
                  have r10 := y3.at r10
                  cases b4 : L04.sameB D.nk E.nk D.kd E.kd with
                  | false =>
                    go_wp2_with fail
                    refine (L04.same_any P.xk Q.xk D.nk E.nk P.zk Q.zk D.kd E.kd _ (sD.ok.ext X4) (sE.ok.ext X4) mk).mono ?_; rintro e t4 ⟨rfl, y4⟩
                    go_wp2_with fail
                    go_ret
                    exact ⟨L04.ret_b (by rw [R1.out, R2.out, b0, b1, b2, b3, b4]; rfl), W0.trans (X4.trans y4)⟩
                  | true =>
                    go_wp2_with fail
                    refine (L04.same_any P.xk Q.xk D.nk E.nk P.zk Q.zk D.kd E.kd _ (sD.ok.ext X4) (sE.ok.ext X4) mk).mono ?_; rintro e t4 ⟨rfl, y4⟩
                    have X5 := X4.trans y4
                    have q5 := y4.at q5
                    have r5 := y4.at r5
                    have q6 := y4.at q6
                    have r6 := y4.at r6
                    have q7 := y4.at q7
                    have r7 := y4.at r7
                    have q9 := y4.at q9
                    have r9 := y4.at r9
                    have q10 := y4.at q10
                    have r10 := y4.at r10
                    cases b5 : L04.sameB D.np E.np D.pd E.pd with
                    | false =>
                      go_wp2_with fail
                      refine (L04.same_any P.xp Q.xp D.np E.np P.zp Q.zp D.pd E.pd _ (sD.op.ext X5) (sE.op.ext X5) mp).mono ?_; rintro e t5 ⟨rfl, y5⟩
                      go_wp2_with fail
                      go_ret
                      exact ⟨L04.ret_b (by rw [R1.out, R2.out, b0, b1, b2, b3, b4, b5]; rfl), W0.trans (X5.trans y5)⟩
                    | true =>
                      go_wp2_with fail
                      refine (L04.same_any P.xp Q.xp D.np E.np P.zp Q.zp D.pd E.pd _ (sD.op.ext X5) (sE.op.ext X5) mp).mono ?_; rintro e t5 ⟨rfl, y5⟩
                      go_wp2_with fail
                      go_ret
                      exact ⟨L04.ret_b (by rw [R1.out, R2.out, b0, b1, b2, b3, b4, b5]; rfl), W0.trans (X5.trans y5)⟩
end L07
end Go.Proofs.Ytggedodfkjdegaa

