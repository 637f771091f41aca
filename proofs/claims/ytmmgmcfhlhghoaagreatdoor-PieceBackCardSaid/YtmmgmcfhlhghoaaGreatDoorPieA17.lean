/- The landed hyphens, parts, begin, Clone, stands and Stands of layer 17. -/
import Derived.Test.YtmmgmcfhlhghoaaGreatDoorGI16
import Derived.Test.YtmmgmcfhlhghoaaGreatDoorTextA13
import Derived.Test.YtmmgmcfhlhghoaaGreatDoorBefL16
import Derived.Lib.LazyBuf
namespace Go.Proofs.YtmmgmcfhlhghoaaGreatDoor
open Go.RowKit
namespace L17
open L13 (TW tw checkB wordB)
open L16 (Brk befB brkV)

set_option maxRecDepth 100000 in
theorem hyphens_any (b : Brk) (w : World) : Calls Tryz.prog 22 #[brkV b] w (Ret w (.bool (hyB b))) := by
  obtain ⟨d1, d2, d3⟩ := b
  have EV := Lib.hid (show hyB (d1, d2, d3) = (decide (d1 = 2) || decide (d1 = 3)) from rfl)
  generalize hyB (d1, d2, d3) = r at *
  unfold brkV
  dsimp only
  by_cases h2 : d1 = 2
  · subst h2
    have EW := Lib.hid (show r = true by rw [EV.out]; simp)
    clear EV
    go_enter Tryz.func22, Tryz.ntmps22
    go_wp2_with fail
    go_ret
    exact ⟨by rw [EW.out]; rfl, (Ext.refl w).alloc _⟩
  · have k2 : (d1 == 2) = false := by simpa using h2
    by_cases h3 : d1 = 3
    · subst h3
      have EW := Lib.hid (show r = true by rw [EV.out]; simp)
      clear EV
      go_enter Tryz.func22, Tryz.ntmps22
      go_wp2_with fail
      go_ret
      exact ⟨by rw [EW.out]; rfl, (Ext.refl w).alloc _⟩
    · have k3 : (d1 == 3) = false := by simpa using h3
      have EW := Lib.hid (show r = false by rw [EV.out]; simp [h2, h3])
      clear EV
      go_enter Tryz.func22, Tryz.ntmps22
      go_wp2_with fail
      go_ret
      exact ⟨by rw [EW.out]; rfl, (Ext.refl w).alloc _⟩
set_option maxRecDepth 100000 in
theorem parts_any (b : Brk) (w : World) : Calls Tryz.prog 24 #[brkV b] w (Ret w (.bool (onB b))) := by
  obtain ⟨d1, d2, d3⟩ := b
  have EV := Lib.hid (show onB (d1, d2, d3) = (hyB (d1, d2, d3) || decide (d1 = 4)) by
    unfold onB hyB
    rw [Bool.eq_iff_iff]
    simp only [Bool.and_eq_true, Bool.or_eq_true, decide_eq_true_eq]
    omega)
  have CH := Lib.hid (fun w' => hyphens_any (d1, d2, d3) w')
  generalize onB (d1, d2, d3) = r at *
  generalize hyB (d1, d2, d3) = h at *
  unfold brkV at *
  dsimp only at *
  have k4 : (d1 == 4) = decide (d1 = 4) := rfl
  generalize decide (d1 = 4) = q at *
  go_enter Tryz.func24, Tryz.ntmps24
  go_wp2_with fail
  refine (CH.out _).mono ?_
  rintro e w1 ⟨rfl, x1⟩
  have q0 : w1.cell? ⟨w.heap.size, 0, none⟩ = some (.int .i64 d1) := x1.at (by simp)
  have HX := Lib.hid (((Ext.refl w).alloc _).trans x1)
  clear x1 CH
  cases h with
  | true =>
    have EW := Lib.hid (show r = true by rw [EV.out]; rfl)
    clear EV
    go_wp2_with fail
    go_ret
    exact ⟨by rw [EW.out]; rfl, HX.out⟩
  | false =>
    have EW := Lib.hid (show r = q by rw [EV.out]; rfl)
    clear EV
    go_wp2_with fail
    go_ret
    exact ⟨by rw [EW.out]; rfl, HX.out⟩
set_option maxRecDepth 100000 in
theorem begin_any (a : Brk) (w : World) (h1 : 0 ≤ a.2.1) (h2 : a.2.1 ≤ 1000000) (h3 : 0 ≤ a.2.2) :
    Calls Tryz.prog 21 #[brkV a] w (Ret w (.tuple #[.int .i64 (begW a : Int), .int .i64 (begA a : Int)])) := by
  obtain ⟨d1, d2, d3⟩ := a
  dsimp only at h1 h2 h3
  have EV := Lib.hid (beg_cases (d1, d2, d3))
  generalize begW (d1, d2, d3) = s at *
  generalize begA (d1, d2, d3) = f at *
  unfold brkV
  dsimp only at *
  by_cases k1 : d1 = 1
  · subst k1
    have E1 := Lib.hid (show (s : Int) = d2 + 1 by have := EV.out; omega)
    have E2 := Lib.hid (show f = 0 by have := EV.out; omega)
    have WR : IntKind.i64.wrap (d2 + 1) = (s : Int) := by rw [E1.out]; exact IntWalk.i64_in _ (by omega)
    clear EV
    go_enter Tryz.func21, Tryz.ntmps21
    go_wp2_with fail
    go_ret2
    exact ⟨by rw [E2.out]; rfl, (Ext.refl w).alloc _⟩
  · have k2 : (d1 == 1) = false := by simpa using k1
    have E1 := Lib.hid (show (s : Int) = d2 by have := EV.out; omega)
    have E2 := Lib.hid (show (f : Int) = d3 by have := EV.out; omega)
    clear EV
    obtain ⟨V, hV⟩ : ∃ V, V = w.alloc (.cells #[.int .i64 d1, .int .i64 d2, .int .i64 d3] 43) := ⟨_, rfl⟩
    have x0 := Lib.hid (show Ext w V by rw [hV]; exact (Ext.refl _).alloc _)
    have c0 : V.cell? ⟨w.heap.size, 0, none⟩ = some (.int .i64 d1) := by rw [hV]; simp
    have c1 : V.cell? ⟨w.heap.size, 1, none⟩ = some (.int .i64 d2) := by rw [hV]; simp
    have c2 : V.cell? ⟨w.heap.size, 2, none⟩ = some (.int .i64 d3) := by rw [hV]; simp
    have g1 := cell_regrown c1
    have g2 := cell_regrown c2
    have HV := Lib.hid hV
    clear hV
    go_enter Tryz.func21, Tryz.ntmps21
    go_upto_region 1 with (fail)
    rw [← HV.out]
    clear HV
    go_wp2_with fail
    refine wp_region_quiet_below (by kernel_rfl) (by kernel_rfl) ?_
    repeat (go_big_quiet_step (fail))
    refine wpQuiet_nil ?_
    intro _ hw'
    obtain ⟨⟨dq, osq⟩, hw''⟩ := hw'
    subst hw''
    have yy : Ext V (Sort.grow (redrawn V dq) osq) := below_regrown _ _ _
    go_wp2_with fail
    go_ret2
    exact ⟨by rw [E1.out, E2.out]; rfl, x0.out.trans yy⟩
/-- Clone: one's own numbers, the same. -/
def CloQ (w : World) (l : List Int) (e : Ending) (w' : World) : Prop := ∃ v, e = .returned v ∧ OwnI w w' v l
set_option maxRecDepth 100000 in
theorem clone_any (A : Option Addr) (l : List Int) (n c : Nat) (w : World) (hs : SeenL w A l) (hn : n = l.length) (hm : l.length ≤ 1000000) :
    Calls Tryz.prog 14 #[.slice A n c] w (CloQ w l) := by
  subst hn
  rcases A with _ | ad
  · have hl : l = [] := by
      rcases l with _ | ⟨b, m⟩
      · rfl
      · obtain ⟨_, e, _⟩ := hs.get (k := 0) (by simp); cases e
    subst hl
    have heq := fun W => Go.run_eql_slice_nil (P := Tryz.prog) W 48 3 none 0 c Tryz.underlying48
    clear hs hm
    dsimp only [List.length_nil]
    go_enter Tryz.func14, Tryz.ntmps14
    go_wp2_with fail
    go_ret
    exact ⟨_, rfl, OwnI.nil (Ext.refl w)⟩
  · have heq := fun W => Go.run_eql_slice_nil (P := Tryz.prog) W 48 3 (some ad) l.length c Tryz.underlying48
    have E1 := OwnI.empty (Ext.refl w)
    obtain ⟨v2, w2, r2, o2⟩ := E1.puts (some ad) l l.length c (hs.ext ((Ext.refl w).alloc _)) rfl (by simpa using hm) 48
    rw [List.nil_append] at o2
    have O2 := Lib.hid o2
    clear hs hm E1 o2
    generalize l.length = n at *
    go_enter Tryz.func14, Tryz.ntmps14
    go_wp2_with (first | (at_builtin; refine wpList_ran rfl _ _ rfl r2 ?_) | fail)
    go_ret
    exact ⟨_, rfl, O2.out⟩
/-- May a break be one of words that may be? -/
def sB (l : List TW) (b : Brk) : Bool := decide (0 ≤ b.2.1) && (decide (b.2.1 < (l.length : Int)) && placeB l.length (l.getD b.2.1.toNat ([], [])).1.length b)
theorem stB_eq (l : List TW) (b : Brk) : stB l b = (checkB l && sB l b) := rfl
set_option maxRecDepth 100000 in
set_option maxHeartbeats 4000000 in
theorem stands_any (WA : Option Addr) (wl : List CW) (n d : Nat) (b : Brk) (w : World) (sw : SeenC w WA wl) (hn : n = wl.length) (hd : n ≤ d) (hm : d ≤ maxLen) (wok : ∀ x ∈ wl, x.Ok) :
    Calls Tryz.prog 19 #[.slice WA n d, brkV b] w (Ret w (.bool (sB (wl.map tw) b))) := by
  subst hn
  unfold maxLen at hm
  rw [show (2 : Nat) ^ 63 - 1 = 9223372036854775807 from rfl] at hm
  obtain ⟨d1, d2, d3⟩ := b
  obtain ⟨W1, hW1⟩ : ∃ W1, W1 = w.alloc (.cells #[.int .i64 d1, .int .i64 d2, .int .i64 d3] 43) := ⟨_, rfl⟩
  have x0 : Ext w W1 := by rw [hW1]; exact (Ext.refl _).alloc _
  have KB := Lib.hid (show Blk W1 w.heap.size 43 [.int .i64 d1, .int .i64 d2, .int .i64 d3] by rw [hW1]; exact Blk.lit _ _ _ _ rfl)
  have SW := Lib.hid (sw.ext x0)
  have X0 := Lib.hid x0
  have SV := Lib.hid (show sB (wl.map tw) (d1, d2, d3) = (decide (0 ≤ d2) && (decide (d2 < (wl.length : Int)) && placeB wl.length ((wl.map tw).getD d2.toNat ([], [])).1.length (d1, d2, d3))) by
    have e : (wl.map tw).length = wl.length := List.length_map ..
    unfold sB
    dsimp only
    rw [e])
  have GD := Lib.hid (fun k (hk : k < wl.length) => show ((wl.map tw).getD k ([], [])).1.length = wl[k].cs.length by simp [List.getD, hk]; rfl)
  have PL := Lib.hid (fun n cl => show placeB n cl (d1, d2, d3) = (if d1 = 0 then decide (d2 = 0) && decide (d3 = 0) else if d1 = 1 then decide (d2 < (n : Int) - 1) && decide (d3 = (cl : Int)) else if d1 = 5 then decide (d2 = (n : Int) - 1) && decide (d3 = (cl : Int)) else decide (2 ≤ d1) && (decide (d1 ≤ 4) && (decide (1 ≤ d3) && decide (d3 < (cl : Int))))) from rfl)
  have PC := Lib.hid (fun w' => parts_any (d1, d2, d3) w')
  have ON := Lib.hid (show onB (d1, d2, d3) = (decide (2 ≤ d1) && decide (d1 ≤ 4)) from rfl)
  generalize sB (wl.map tw) (d1, d2, d3) = r at *
  generalize onB (d1, d2, d3) = on at *
  have HW1 := Lib.hid hW1
  obtain ⟨b0, hb0⟩ : ∃ b0, w.heap.size = b0 := ⟨_, rfl⟩
  rw [hb0] at KB
  have H0 := Lib.hid hb0
  have OKS := Lib.hid wok
  clear hW1 hb0 x0 sw wok
  unfold brkV at *
  dsimp only at *
  have n64 : (wl.length : Int) ≤ 9223372036854775807 := by omega
  go_enter Tryz.func19, Tryz.ntmps19
  go_upto_region 1 with (fail)
  rw [← HW1.out, H0.out]
  clear HW1 H0
  have q0 : W1.cell? ⟨b0, 0, none⟩ = some (.int .i64 d1) := KB.out.cell 0
  have q1 : W1.cell? ⟨b0, 1, none⟩ = some (.int .i64 d2) := KB.out.cell 1
  have q2 : W1.cell? ⟨b0, 2, none⟩ = some (.int .i64 d3) := KB.out.cell 2
  by_cases h0 : d2 < 0
  · have RV := Lib.hid (show r = false by rw [SV.out, decide_eq_false (show ¬ 0 ≤ d2 by omega)]; rfl)
    clear SV GD PL PC ON OKS
    go_wp2_with fail
    go_ret
    exact ⟨by rw [RV.out]; rfl, X0.out⟩
  obtain ⟨m, rfl⟩ : ∃ m : Nat, d2 = (m : Int) := ⟨d2.toNat, by omega⟩
  by_cases h1 : wl.length ≤ m
  · have h1z : (wl.length : Int) ≤ (m : Int) := by omega
    have RV := Lib.hid (show r = false by rw [SV.out, decide_eq_false (show ¬ (m : Int) < (wl.length : Int) by omega)]; simp)
    clear SV GD PL PC ON OKS
    go_wp2_with fail
    go_ret
    exact ⟨by rw [RV.out]; rfl, X0.out⟩
  have hm' : m < wl.length := by omega
  have h1y : ¬ (wl.length : Int) ≤ (m : Int) := by omega
  have hm64 : (m : Int) < (wl.length : Int) := by omega
  have RV := Lib.hid (show r = placeB wl.length wl[m].cs.length (d1, (m : Int), d3) by
    rw [SV.out, decide_eq_true (show 0 ≤ (m : Int) by omega), decide_eq_true hm64, ← GD.out m hm', Int.toNat_natCast]; rfl)
  obtain ⟨⟨ad, rfl, c0, -⟩, -, -⟩ := SW.out.get hm'
  have RW := Lib.hid (RV.out.trans (PL.out _ _))
  have OK := OKS.out _ (List.getElem_mem hm')
  have cz : wl[m].cs.length ≤ 9223372036854775807 := by
    obtain ⟨a1, a2, _⟩ := OK
    unfold maxLen at a2
    rw [show (2 : Nat) ^ 63 - 1 = 9223372036854775807 from rfl] at a2
    omega
  clear SV GD PL RV OK OKS
  generalize wl[m].cs.length = cl at *
  have cl64 : (cl : Int) ≤ 9223372036854775807 := by omega
  have wn : IntKind.i64.wrap ((wl.length : Int) - 1) = (wl.length : Int) - 1 := IntWalk.i64_in _ (by omega)
  obtain ⟨la, hla⟩ : ∃ la, ((m : Int) == (wl.length : Int) - 1) = la := ⟨_, rfl⟩
  have LA := Lib.hid (show la = decide ((m : Int) = (wl.length : Int) - 1) by rw [← hla]; rfl)
  have g1 := cell_regrown q1
  have gc := cell_regrown c0
  go_wp2_with fail
  refine wp_region_quiet_below (by kernel_rfl) (by kernel_rfl) ?_
  repeat (go_big_quiet_step (fail))
  refine wpQuiet_nil ?_
  intro _ hw'
  obtain ⟨⟨dq, osq⟩, hw''⟩ := hw'
  subst hw''
  have yy : Ext W1 (Sort.grow (redrawn W1 dq) osq) := below_regrown _ _ _
  generalize Sort.grow (redrawn W1 dq) osq = w1 at *
  have X1 := Lib.hid (X0.out.trans yy)
  have p0 : w1.cell? ⟨b0, 0, none⟩ = some (.int .i64 d1) := (KB.out.ext yy).cell 0
  have p1 : w1.cell? ⟨b0, 1, none⟩ = some (.int .i64 (m : Int)) := (KB.out.ext yy).cell 1
  have p2 : w1.cell? ⟨b0, 2, none⟩ = some (.int .i64 d3) := (KB.out.ext yy).cell 2
  clear yy q0 q1 q2 g1 gc c0 hla wn X0 SW
  by_cases k0 : d1 = 0
  · subst k0
    clear PC ON
    by_cases p : (m : Int) = 0
    · obtain rfl : m = 0 := by omega
      by_cases q : d3 = 0
      · subst q
        have EV := Lib.hid (show r = true by rw [RW.out]; simp)
        clear RW
        go_wp2_with fail
        go_ret
        exact ⟨by rw [EV.out]; rfl, X1.out⟩
      · have kq : (d3 == 0) = false := by simpa using q
        have EV := Lib.hid (show r = false by rw [RW.out]; simp [q])
        clear RW
        go_wp2_with fail
        go_ret
        exact ⟨by rw [EV.out]; rfl, X1.out⟩
    · have kp : ((m : Int) == 0) = false := by simpa using p
      have kp2 : ¬ m = 0 := by omega
      have EV := Lib.hid (show r = false by rw [RW.out]; simp [kp2])
      clear RW
      go_wp2_with fail
      go_ret
      exact ⟨by rw [EV.out]; rfl, X1.out⟩
  have e0 : (d1 == 0) = false := by simpa using k0
  by_cases k1 : d1 = 1
  · subst k1
    clear PC ON
    cases la with
    | true =>
      have lz := of_decide_eq_true LA.out.symm
      have EV := Lib.hid (show r = false by rw [RW.out]; rw [if_neg (by decide), if_pos rfl, decide_eq_false (show ¬ (m : Int) < (wl.length : Int) - 1 by omega)]; rfl)
      clear RW
      go_wp2_with fail
      go_ret
      exact ⟨by rw [EV.out]; rfl, X1.out⟩
    | false =>
      have lz := of_decide_eq_false LA.out.symm
      by_cases q : d3 = (cl : Int)
      · subst q
        have EV := Lib.hid (show r = true by rw [RW.out]; rw [if_neg (by decide), if_pos rfl, decide_eq_true (show (m : Int) < (wl.length : Int) - 1 by omega)]; simp)
        clear RW
        go_wp2_with fail
        go_ret
        exact ⟨by rw [EV.out]; rfl, X1.out⟩
      · have kq : (d3 == (cl : Int)) = false := by simpa using q
        have EV := Lib.hid (show r = false by rw [RW.out]; simp [q])
        clear RW
        go_wp2_with fail
        go_ret
        exact ⟨by rw [EV.out]; rfl, X1.out⟩
  have e1 : (d1 == 1) = false := by simpa using k1
  by_cases k5 : d1 = 5
  · subst k5
    clear PC ON
    cases la with
    | true =>
      have lz := Lib.hid (of_decide_eq_true LA.out.symm)
      by_cases q : d3 = (cl : Int)
      · subst q
        have EV := Lib.hid (show r = true by rw [RW.out, decide_eq_true lz.out]; simp)
        clear RW
        go_wp2_with fail
        go_ret
        exact ⟨by rw [EV.out]; rfl, X1.out⟩
      · have kq : (d3 == (cl : Int)) = false := by simpa using q
        have EV := Lib.hid (show r = false by rw [RW.out]; simp [q])
        clear RW
        go_wp2_with fail
        go_ret
        exact ⟨by rw [EV.out]; rfl, X1.out⟩
    | false =>
      have lz := Lib.hid (of_decide_eq_false LA.out.symm)
      have EV := Lib.hid (show r = false by rw [RW.out, decide_eq_false lz.out]; simp)
      clear RW
      go_wp2_with fail
      go_ret
      exact ⟨by rw [EV.out]; rfl, X1.out⟩
  have e5 : (d1 == 5) = false := by simpa using k5
  have RX := Lib.hid (show r = (on && (decide (1 ≤ d3) && decide (d3 < (cl : Int)))) by rw [RW.out, if_neg k0, if_neg k1, if_neg k5, ON.out, Bool.and_assoc])
  clear RW ON
  go_wp2_with fail
  refine (PC.out _).mono ?_
  rintro e w2 ⟨rfl, x2⟩
  have q2 := x2.at p2
  have X2 := Lib.hid (X1.out.trans x2)
  clear x2 p0 p1 p2 PC X1
  cases on with
  | false =>
    have EV := Lib.hid (show r = false by rw [RX.out]; rfl)
    clear RX
    go_wp2_with fail
    go_ret
    exact ⟨by rw [EV.out]; rfl, X2.out⟩
  | true =>
    by_cases p3 : 1 ≤ d3
    · by_cases p4 : d3 < (cl : Int)
      · have EV := Lib.hid (show r = true by rw [RX.out, decide_eq_true p3, decide_eq_true p4]; rfl)
        clear RX
        go_wp2_with fail
        go_ret
        exact ⟨by rw [EV.out]; rfl, X2.out⟩
      · have p4' : decide (d3 < (cl : Int)) = false := decide_eq_false p4
        have EV := Lib.hid (show r = false by rw [RX.out, p4']; simp)
        clear RX
        go_wp2_with fail
        go_ret
        exact ⟨by rw [EV.out]; rfl, X2.out⟩
    · have p3' : d3 < 1 := by omega
      have EV := Lib.hid (show r = false by rw [RX.out, decide_eq_false p3]; rfl)
      clear RX
      go_wp2_with fail
      go_ret
      exact ⟨by rw [EV.out]; rfl, X2.out⟩
set_option maxRecDepth 100000 in
theorem stands_all (WA : Option Addr) (wl : List CW) (n d : Nat) (b : Brk) (w : World) (sw : SeenC w WA wl) (hn : n = wl.length) (hd : n ≤ d) (hm : d ≤ maxLen) (wok : ∀ x ∈ wl, x.Ok) :
    Calls Tryz.prog 12 #[.slice WA n d, brkV b] w (Ret w (.bool (stB (wl.map tw) b))) := by
  obtain ⟨d1, d2, d3⟩ := b
  obtain ⟨W1, hW1⟩ : ∃ W1, W1 = w.alloc (.cells #[.int .i64 d1, .int .i64 d2, .int .i64 d3] 43) := ⟨_, rfl⟩
  have x0 : Ext w W1 := by rw [hW1]; exact (Ext.refl _).alloc _
  have KB := Lib.hid (show Blk W1 w.heap.size 43 [.int .i64 d1, .int .i64 d2, .int .i64 d3] by rw [hW1]; exact Blk.lit _ _ _ _ rfl)
  have CK := Lib.hid (L13.check_any WA wl n d W1 (sw.ext x0) hn wok)
  have CS := Lib.hid (fun w' (x : Ext W1 w') => stands_any WA wl n d (d1, d2, d3) w' (sw.ext (x0.trans x)) hn hd hm wok)
  have EQ := Lib.hid (stB_eq (wl.map tw) (d1, d2, d3))
  have X0 := Lib.hid x0
  generalize checkB (wl.map tw) = cb at *
  generalize stB (wl.map tw) (d1, d2, d3) = r at *
  generalize sB (wl.map tw) (d1, d2, d3) = sb at *
  have HW1 := Lib.hid hW1
  obtain ⟨b0, hb0⟩ : ∃ b0, w.heap.size = b0 := ⟨_, rfl⟩
  rw [hb0] at KB
  have H0 := Lib.hid hb0
  clear hW1 hb0 x0 sw wok hn hd hm
  unfold brkV at *
  dsimp only at *
  go_enter Tryz.func12, Tryz.ntmps12
  go_upto_region 1 with (fail)
  rw [← HW1.out, H0.out]
  clear HW1 H0
  go_wp2_with fail
  refine CK.out.mono ?_
  rintro e w1 ⟨rfl, x1⟩
  have q0 : w1.cell? ⟨b0, 0, none⟩ = some (.int .i64 d1) := (KB.out.ext x1).cell 0
  have q1 : w1.cell? ⟨b0, 1, none⟩ = some (.int .i64 d2) := (KB.out.ext x1).cell 1
  have q2 : w1.cell? ⟨b0, 2, none⟩ = some (.int .i64 d3) := (KB.out.ext x1).cell 2
  have C2 := Lib.hid (CS.out w1 x1)
  have X1 := Lib.hid (X0.out.trans x1)
  clear x1 CK KB X0 CS
  cases cb with
  | false =>
    have RV := Lib.hid (show r = false by rw [EQ.out]; rfl)
    clear EQ C2
    go_wp2_with fail
    go_ret
    exact ⟨by rw [RV.out]; rfl, X1.out⟩
  | true =>
    have RV := Lib.hid (show r = sb by rw [EQ.out]; rfl)
    clear EQ
    go_wp2_with fail
    refine C2.out.mono ?_
    rintro e w2 ⟨rfl, x2⟩
    go_wp2_with fail
    go_ret
    exact ⟨by rw [RV.out]; rfl, X1.out.trans x2⟩
end L17
end Go.Proofs.YtmmgmcfhlhghoaaGreatDoor

