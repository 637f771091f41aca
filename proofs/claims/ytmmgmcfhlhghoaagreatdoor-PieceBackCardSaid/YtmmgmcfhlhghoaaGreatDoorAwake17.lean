/- What all statements of layer 17 begin with. -/
import Derived.Test.YtmmgmcfhlhghoaaGreatDoorGI16
import Derived.Deep.CutBlock
import Derived.Deep.DeepCutAuto
namespace Go.Proofs.YtmmgmcfhlhghoaaGreatDoor
open Go.RowKit
namespace L17
open L13 (TW tw checkB)
open L16 (Brk befB brkV SeenK flatK)

theorem blk_ints {w : World} {b : Nat} {t : TypeId} {l : List Int} {cs : List Value} (h : Blk w b t cs) (e : cs = l.map (.int .i64)) : SeenL w (some ⟨b, 0, none⟩) l := fun j v hv =>
  ⟨_, rfl, h.lt, by rw [add_zero_addr, h.cell, e]; exact hv⟩
def awT : List TW := [([97, 98], []), ([99, 100], [])]
def aw1 : List (List Int) := [[97, 98], [99, 45]]
def aw2 : List (List Int) := [[100]]
def aw3 : List (List Int) := [[97, 98], [99, 100]]
theorem pi_l : piA awT (0, 0, 0) (2, 1, 1) = (aw1, 0) := by decide +kernel
theorem pi_m : piA awT (2, 1, 1) (5, 1, 2) = (aw2, 0) := by decide +kernel
theorem pi_g : piA awT (5, 1, 2) (0, 0, 0) = ([], 1) := by decide +kernel
theorem pi_h : piA [] (0, 0, 0) (0, 0, 0) = ([], 130) := by decide +kernel
theorem wh_w : whL [aw1, aw2] [(2, 0, 0), (5, 0, 0)] = aw3 := by decide +kernel
theorem st_1 : stB awT (0, 0, 0) = true := by decide +kernel
theorem st_2 : stB awT (0, 0, 1) = false := by decide +kernel
def cw2 (a c : Int) (b : Nat) : CW := ⟨[a, c], some ⟨b, 0, none⟩, 2, [], none, 0⟩
theorem cw2_ok {a c : Int} (b : Nat) (ha : 0 ≤ a ∧ a ≤ 1000) (hc : 0 ≤ c ∧ c ≤ 1000) : (cw2 a c b).Ok := ⟨Nat.le_refl _, by show 2 ≤ maxLen; unfold maxLen; omega, Nat.le_refl _, Nat.zero_le _, fun n hn => by
  simp only [cw2, List.mem_cons, List.not_mem_nil, or_false] at hn
  rcases hn with rfl | rfl <;> constructor <;> omega, fun n hn => by simp [cw2] at hn⟩
/-- Two rows of two, written out. -/
theorem lit_two (w W : World) (a b c d : Int) (hW : W = ((w.alloc (.cells #[.int .i64 a, .int .i64 b] 3)).alloc (.cells #[.int .i64 c, .int .i64 d] 3)).alloc (.cells #[.slice (some ⟨w.heap.size, 0, none⟩) 2 2, .slice (some ⟨w.heap.size + 1, 0, none⟩) 2 2] 48)) :
    Ext w W ∧ SeenR W (some ⟨w.heap.size + 1 + 1, 0, none⟩) [⟨[a, b], some ⟨w.heap.size, 0, none⟩, 2⟩, ⟨[c, d], some ⟨w.heap.size + 1, 0, none⟩, 2⟩] := by
  obtain ⟨v1, hv1⟩ : ∃ v1, v1 = w.alloc (.cells #[.int .i64 a, .int .i64 b] 3) := ⟨_, rfl⟩
  obtain ⟨v2, hv2⟩ : ∃ v2, v2 = v1.alloc (.cells #[.int .i64 c, .int .i64 d] 3) := ⟨_, rfl⟩
  rw [← hv1, ← hv2] at hW
  have e1 : v1.heap.size = w.heap.size + 1 := by rw [hv1]; simp
  have e2 : v2.heap.size = w.heap.size + 1 + 1 := by rw [hv2]; simp; omega
  have y1 : Ext w v1 := by rw [hv1]; exact (Ext.refl _).alloc _
  have y2 : Ext v1 v2 := by rw [hv2]; exact (Ext.refl _).alloc _
  have y3 : Ext v2 W := by rw [hW]; exact (Ext.refl _).alloc _
  have k0 : Blk v1 w.heap.size 3 [.int .i64 a, .int .i64 b] := by rw [hv1]; exact Blk.lit _ _ _ _ rfl
  have k1 : Blk v2 (w.heap.size + 1) 3 [.int .i64 c, .int .i64 d] := by rw [hv2]; exact Blk.lit _ _ _ _ e1.symm
  have s := seen_new v2 [.slice (some ⟨w.heap.size, 0, none⟩) 2 2, .slice (some ⟨w.heap.size + 1, 0, none⟩) 2 2] 48
  rw [e2] at s
  refine ⟨(y1.trans y2).trans y3, by rw [hW]; exact s, fun x hx => ?_⟩
  simp only [List.mem_cons, List.not_mem_nil, or_false] at hx
  rcases hx with rfl | rfl
  · exact blk_ints ((k0.ext y2).ext y3) rfl
  · exact blk_ints (k1.ext y3) rfl
/-- A row of one, written out. -/
theorem lit_one (w W : World) (a : Int) (hW : W = (w.alloc (.cells #[.int .i64 a] 3)).alloc (.cells #[.slice (some ⟨w.heap.size, 0, none⟩) 1 1] 48)) :
    Ext w W ∧ SeenR W (some ⟨w.heap.size + 1, 0, none⟩) [⟨[a], some ⟨w.heap.size, 0, none⟩, 1⟩] := by
  obtain ⟨v1, hv1⟩ : ∃ v1, v1 = w.alloc (.cells #[.int .i64 a] 3) := ⟨_, rfl⟩
  rw [← hv1] at hW
  have e1 : v1.heap.size = w.heap.size + 1 := by rw [hv1]; simp
  have y1 : Ext w v1 := by rw [hv1]; exact (Ext.refl _).alloc _
  have y3 : Ext v1 W := by rw [hW]; exact (Ext.refl _).alloc _
  have k0 : Blk v1 w.heap.size 3 [.int .i64 a] := by rw [hv1]; exact Blk.lit _ _ _ _ rfl
  have s := seen_new v1 [.slice (some ⟨w.heap.size, 0, none⟩) 1 1] 48
  rw [e1] at s
  refine ⟨y1.trans y3, by rw [hW]; exact s, fun x hx => ?_⟩
  simp only [List.mem_cons, List.not_mem_nil, or_false] at hx
  rcases hx with rfl
  exact blk_ints (k0.ext y3) rfl
theorem same_yes {A B : Option Addr} {l m : List RI} {r : List (List Int)} {n c k d : Nat} {w : World} (hs : SeenR w A l) (ht : SeenR w B m) (hl : nsL l = r) (hm : nsL m = r) (hn : n = r.length) (hk : k = r.length) (h1 : r.length ≤ 1000000) (h2 : ∀ x ∈ r, x.length ≤ 1000000) :
    Calls Tryz.prog 10 #[.slice A n c, .slice B k d] w (Ret w (.bool true)) := by
  have := rsame_any A B l m n c k d w hs ht (by rw [nsL_len hl, hn]) (by rw [nsL_len hm, hk]) (by rw [nsL_len hl]; exact h1) (fun x hx => h2 _ (by rw [← hl]; exact List.mem_map_of_mem hx))
  rwa [hl, hm, decide_eq_true rfl] at this
set_option maxRecDepth 100000 in
set_option maxHeartbeats 4000000 in
theorem awake_any (PA : Pie) (w : World) : Calls Tryz.prog 4 #[] w (Ret w (.bool true)) := by
  have S := Lib.hid PA
  clear PA
  obtain ⟨v1, hv1⟩ : ∃ v1, v1 = w.alloc (.cells #[.int .i64 97, .int .i64 98] 3) := ⟨_, rfl⟩
  obtain ⟨v2, hv2⟩ : ∃ v2, v2 = v1.alloc (.cells #[.int .i64 99, .int .i64 100] 3) := ⟨_, rfl⟩
  obtain ⟨w2, hw2⟩ : ∃ w2, w2 = v2.alloc (.cells #[.slice (some ⟨w.heap.size, 0, none⟩) 2 2, .slice none 0 0, .slice (some ⟨w.heap.size + 1, 0, none⟩) 2 2, .slice none 0 0] 50) := ⟨_, rfl⟩
  have e1 : v1.heap.size = w.heap.size + 1 := by rw [hv1]; simp
  have e2 : v2.heap.size = w.heap.size + 1 + 1 := by rw [hv2]; simp; omega
  have y1 : Ext w v1 := by rw [hv1]; exact (Ext.refl _).alloc _
  have y2 : Ext v1 v2 := by rw [hv2]; exact (Ext.refl _).alloc _
  have y3 : Ext v2 w2 := by rw [hw2]; exact (Ext.refl _).alloc _
  have k0 : Blk v1 w.heap.size 3 [.int .i64 97, .int .i64 98] := by rw [hv1]; exact Blk.lit _ _ _ _ rfl
  have k1 : Blk v2 (w.heap.size + 1) 3 [.int .i64 99, .int .i64 100] := by rw [hv2]; exact Blk.lit _ _ _ _ e1.symm
  have k2 : Blk w2 (w.heap.size + 1 + 1) 50 [.slice (some ⟨w.heap.size, 0, none⟩) 2 2, .slice none 0 0, .slice (some ⟨w.heap.size + 1, 0, none⟩) 2 2, .slice none 0 0] := by rw [hw2]; exact Blk.lit _ _ _ _ e2.symm
  have X2 := Lib.hid ((y1.trans y2).trans y3)
  have SC := Lib.hid (show SeenC w2 (some ⟨w.heap.size + 1 + 1, 0, none⟩) [cw2 97 98 w.heap.size, cw2 99 100 (w.heap.size + 1)] from
    seenC_of (fun k v hv => ⟨_, rfl, k2.lt, by rw [add_zero_addr, k2.cell]; exact hv⟩) (fun x hx => by
      simp only [List.mem_cons, List.not_mem_nil, or_false] at hx
      rcases hx with rfl | rfl
      · exact ⟨blk_ints ((k0.ext y2).ext y3) rfl, SeenL.nil⟩
      · exact ⟨blk_ints (k1.ext y3) rfl, SeenL.nil⟩))
  have WOK := Lib.hid (fun x (hx : x ∈ [cw2 97 98 w.heap.size, cw2 99 100 (w.heap.size + 1)]) => show x.Ok by
    simp only [List.mem_cons, List.not_mem_nil, or_false] at hx
    rcases hx with rfl | rfl
    · exact cw2_ok _ (by decide) (by decide)
    · exact cw2_ok _ (by decide) (by decide))
  have HW := Lib.hid (show w2 = ((w.alloc (.cells #[.int .i64 97, .int .i64 98] 3)).alloc (.cells #[.int .i64 99, .int .i64 100] 3)).alloc (.cells #[.slice (some ⟨w.heap.size, 0, none⟩) 2 2, .slice none 0 0, .slice (some ⟨w.heap.size + 1, 0, none⟩) 2 2, .slice none 0 0] 50) by rw [hw2, hv2, hv1])
  obtain ⟨bW, hbW⟩ : ∃ b, w.heap.size + 1 + 1 = b := ⟨_, rfl⟩
  have HBW := Lib.hid hbW
  rw [hbW] at SC
  have PI := Lib.hid (fun a b w' (x : Ext w2 w') => show Calls Tryz.prog 9 #[.slice (some ⟨bW, 0, none⟩) 2 2, brkV a, brkV b] w' (PiQ w' (piA awT a b)) from
    S.out.piC (some ⟨bW, 0, none⟩) _ 2 2 a b w' (SC.out.ext x) rfl (Nat.le_refl _) (by unfold maxLen; omega) WOK.out)
  have ST := Lib.hid (fun a w' (x : Ext w2 w') => show Calls Tryz.prog 12 #[.slice (some ⟨bW, 0, none⟩) 2 2, brkV a] w' (Ret w' (.bool (stB awT a))) from
    S.out.stC (some ⟨bW, 0, none⟩) _ 2 2 a w' (SC.out.ext x) rfl (Nat.le_refl _) (by unfold maxLen; omega) WOK.out)
  clear hv1 hv2 hw2 e1 e2 y1 y2 y3 k0 k1 k2 SC WOK hbW
  go_enter Tryz.func4, Tryz.ntmps4
  go_upto_region 2 with (fail)
  rw [← HW.out, HBW.out]
  clear HW HBW
  have h1 : aw1.length = 2 := rfl
  have h2 : aw2.length = 1 := rfl
  have h3 : aw3.length = 2 := rfl
  have CA := PI.out (0, 0, 0) (2, 1, 1) w2 (Ext.refl _)
  rw [pi_l] at CA
  have CA := Lib.hid CA
  unfold brkV at CA
  go_wp2_with fail
  refine CA.out.mono ?_
  rintro e w3 ⟨x3, A1, r1, c1, rfl, k1, n1⟩
  have K1 := Lib.hid k1
  have N1 := Lib.hid n1
  have X3 := Lib.hid x3
  clear x3 k1 n1 CA
  have CA := PI.out (2, 1, 1) (5, 1, 2) w3 X3.out
  rw [pi_m] at CA
  have CA := Lib.hid CA
  unfold brkV at CA
  go_wp2_with fail
  refine CA.out.mono ?_
  rintro e w4 ⟨x4, A2, r2, c2, rfl, k2, n2⟩
  have K2 := Lib.hid k2
  have N2 := Lib.hid n2
  have X4 := Lib.hid (X3.out.trans x4)
  have K1 := Lib.hid (K1.out.ext x4)
  clear x4 k2 n2 CA X3
  have CA := PI.out (5, 1, 2) (0, 0, 0) w4 X4.out
  rw [pi_g] at CA
  have CA := Lib.hid CA
  unfold brkV at CA
  go_wp2_with fail
  refine CA.out.mono ?_
  rintro e w5 ⟨x5, A3, r3, c3, rfl, _, _⟩
  have X5 := Lib.hid (X4.out.trans x5)
  have K1 := Lib.hid (K1.out.ext x5)
  have K2 := Lib.hid (K2.out.ext x5)
  clear x5 CA X4
  have CA := S.out.piC none [] 0 0 (0, 0, 0) (0, 0, 0) w5 SeenC.nil rfl (Nat.le_refl _) (by omega) (fun x hx => by simp at hx)
  rw [show ([] : List CW).map tw = [] from rfl, pi_h] at CA
  have CA := Lib.hid CA
  unfold brkV at CA
  go_wp2_with fail
  refine CA.out.mono ?_
  rintro e w6 ⟨x6, A4, r4, c4, rfl, _, _⟩
  have X6 := Lib.hid (X5.out.trans x6)
  have K1 := Lib.hid (K1.out.ext x6)
  have K2 := Lib.hid (K2.out.ext x6)
  clear x6 CA X5
  obtain ⟨v7, hv7⟩ : ∃ v7, v7 = w6.alloc (.cells #[.slice A1 2 c1, .slice A2 1 c2] 45) := ⟨_, rfl⟩
  obtain ⟨w7, hw7⟩ : ∃ w7, w7 = v7.alloc (.cells #[.int .i64 2, .int .i64 0, .int .i64 0, .int .i64 5, .int .i64 0, .int .i64 0] 43) := ⟨_, rfl⟩
  have z1 : Ext w6 v7 := by rw [hv7]; exact (Ext.refl _).alloc _
  have z2 : Ext v7 w7 := by rw [hw7]; exact (Ext.refl _).alloc _
  have e7 : v7.heap.size = w6.heap.size + 1 := by rw [hv7]; simp
  have l1 : r1.length = 2 := nsL_len N1.out
  have l2 : r2.length = 1 := nsL_len N2.out
  have SR : SeenRR w7 (some ⟨w6.heap.size, 0, none⟩) [⟨r1, A1, c1⟩, ⟨r2, A2, c2⟩] := by
    refine ⟨?_, fun x hx => ?_⟩
    · have s := seen_new w6 [.slice A1 2 c1, .slice A2 1 c2] 45
      rw [show ([⟨r1, A1, c1⟩, ⟨r2, A2, c2⟩] : List RR).map rrV = [.slice A1 2 c1, .slice A2 1 c2] by simp only [List.map_cons, List.map_nil, rrV, l1, l2]]
      rw [← hv7] at s
      exact Seen.ext s z2
    · simp only [List.mem_cons, List.not_mem_nil, or_false] at hx
      rcases hx with rfl | rfl
      · exact K1.out.1.ext (z1.trans z2)
      · exact K2.out.1.ext (z1.trans z2)
  have SK : SeenK w7 (some ⟨w6.heap.size + 1, 0, none⟩) [(2, 0, 0), (5, 0, 0)] := by
    have s := seen_new v7 (flatK [(2, 0, 0), (5, 0, 0)]) 43
    rw [e7] at s
    rw [hw7]
    exact s
  have CA := S.out.whC (some ⟨w6.heap.size, 0, none⟩) [⟨r1, A1, c1⟩, ⟨r2, A2, c2⟩] 2 2 (some ⟨w6.heap.size + 1, 0, none⟩) [(2, 0, 0), (5, 0, 0)] 2 2 w7 SR rfl (by omega) SK rfl (by omega) (fun x hx => by
    simp only [List.mem_cons, List.not_mem_nil, or_false] at hx
    rcases hx with rfl | rfl
    · exact K1.out.2.2.1
    · exact K2.out.2.2.1) (by rw [show nnL [⟨r1, A1, c1⟩, ⟨r2, A2, c2⟩] = [aw1, aw2] by simp only [nnL, List.map_cons, List.map_nil, N1.out, N2.out]]; decide)
  rw [show nnL [⟨r1, A1, c1⟩, ⟨r2, A2, c2⟩] = [aw1, aw2] by simp only [nnL, List.map_cons, List.map_nil, N1.out, N2.out], wh_w] at CA
  have CA := Lib.hid CA
  have X7 := Lib.hid (X6.out.trans (z1.trans z2))
  have K1 := Lib.hid (K1.out.ext (z1.trans z2))
  have K2 := Lib.hid (K2.out.ext (z1.trans z2))
  have HW := Lib.hid (show w7 = (w6.alloc (.cells #[.slice A1 2 c1, .slice A2 1 c2] 45)).alloc (.cells #[.int .i64 2, .int .i64 0, .int .i64 0, .int .i64 5, .int .i64 0, .int .i64 0] 43) by rw [hw7, hv7])
  clear hv7 hw7 z1 z2 e7 l1 l2 SR SK X6
  go_wp2_with fail
  rw [← HW.out]
  clear HW
  refine CA.out.mono ?_
  rintro e w8 ⟨x8, A8, r8, c8, rfl, k8, n8⟩
  have K8 := Lib.hid k8
  have N8 := Lib.hid n8
  have X8 := Lib.hid (X7.out.trans x8)
  have K1 := Lib.hid (K1.out.ext x8)
  have K2 := Lib.hid (K2.out.ext x8)
  clear x8 k8 n8 CA X7
  obtain ⟨u1, hu1⟩ : ∃ u, u = ((w8.alloc (.cells #[.int .i64 97, .int .i64 98] 3)).alloc (.cells #[.int .i64 99, .int .i64 45] 3)).alloc (.cells #[.slice (some ⟨w8.heap.size, 0, none⟩) 2 2, .slice (some ⟨w8.heap.size + 1, 0, none⟩) 2 2] 48) := ⟨_, rfl⟩
  obtain ⟨y1, s1⟩ := lit_two w8 u1 97 98 99 45 hu1
  have CA := Lib.hid (show Calls Tryz.prog 10 #[.slice A1 2 c1, .slice (some ⟨w8.heap.size + 1 + 1, 0, none⟩) 2 2] u1 (Ret u1 (.bool true)) from same_yes (K1.out.1.ext y1) s1 N1.out rfl rfl rfl (by decide) (by decide))
  have HU := Lib.hid hu1
  have X9 := Lib.hid (X8.out.trans y1)
  have K2 := Lib.hid (K2.out.ext y1)
  have K8 := Lib.hid (K8.out.ext y1)
  clear hu1 y1 s1 X8 K1
  go_wp2_with fail
  rw [← HU.out]
  clear HU
  refine CA.out.mono ?_
  rintro e w9 ⟨rfl, x9⟩
  have X9 := Lib.hid (X9.out.trans x9)
  have K2 := Lib.hid (K2.out.ext x9)
  have K8 := Lib.hid (K8.out.ext x9)
  clear x9 CA
  obtain ⟨u2, hu2⟩ : ∃ u, u = (w9.alloc (.cells #[.int .i64 100] 3)).alloc (.cells #[.slice (some ⟨w9.heap.size, 0, none⟩) 1 1] 48) := ⟨_, rfl⟩
  obtain ⟨y2, s2⟩ := lit_one w9 u2 100 hu2
  have CA := Lib.hid (show Calls Tryz.prog 10 #[.slice A2 1 c2, .slice (some ⟨w9.heap.size + 1, 0, none⟩) 1 1] u2 (Ret u2 (.bool true)) from same_yes (K2.out.1.ext y2) s2 N2.out rfl rfl rfl (by decide) (by decide))
  have HU := Lib.hid hu2
  have X10 := Lib.hid (X9.out.trans y2)
  have K8 := Lib.hid (K8.out.ext y2)
  clear hu2 y2 s2 X9 K2
  go_wp2_with fail
  rw [← HU.out]
  clear HU
  refine CA.out.mono ?_
  rintro e w10 ⟨rfl, x10⟩
  have X10 := Lib.hid (X10.out.trans x10)
  have K8 := Lib.hid (K8.out.ext x10)
  clear x10 CA
  obtain ⟨u3, hu3⟩ : ∃ u, u = ((w10.alloc (.cells #[.int .i64 97, .int .i64 98] 3)).alloc (.cells #[.int .i64 99, .int .i64 100] 3)).alloc (.cells #[.slice (some ⟨w10.heap.size, 0, none⟩) 2 2, .slice (some ⟨w10.heap.size + 1, 0, none⟩) 2 2] 48) := ⟨_, rfl⟩
  obtain ⟨y3, s3⟩ := lit_two w10 u3 97 98 99 100 hu3
  have CA := Lib.hid (show Calls Tryz.prog 10 #[.slice A8 2 c8, .slice (some ⟨w10.heap.size + 1 + 1, 0, none⟩) 2 2] u3 (Ret u3 (.bool true)) from same_yes (K8.out.ext y3) s3 N8.out rfl rfl rfl (by decide) (by decide))
  have HU := Lib.hid hu3
  have X11 := Lib.hid (X10.out.trans y3)
  clear hu3 y3 s3 X10 K8
  go_wp2_with fail
  rw [← HU.out]
  clear HU
  refine CA.out.mono ?_
  rintro e w11 ⟨rfl, x11⟩
  have X11 := Lib.hid (X11.out.trans x11)
  clear x11 CA
  have CA := ST.out (0, 0, 0) w11 X11.out
  rw [st_1] at CA
  have CA := Lib.hid CA
  unfold brkV at CA
  go_wp2_with fail
  refine CA.out.mono ?_
  rintro e w12 ⟨rfl, x12⟩
  have X12 := Lib.hid (X11.out.trans x12)
  clear x12 CA X11
  have CA := ST.out (0, 0, 1) w12 X12.out
  rw [st_2] at CA
  have CA := Lib.hid CA
  unfold brkV at CA
  go_wp2_with fail
  refine CA.out.mono ?_
  rintro e w13 ⟨rfl, x13⟩
  go_wp2_with fail
  go_ret
  exact ⟨rfl, X2.out.trans (X12.out.trans x13)⟩
end L17
end Go.Proofs.YtmmgmcfhlhghoaaGreatDoor

