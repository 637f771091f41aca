/- What all statements of layer 16 begin with. -/
import Derived.Test.YtdiccmlpppkgpaaGreatDoorPar16
namespace Go.Proofs.YtdiccmlpppkgpaaGreatDoor
open Go.RowKit
open Go.Lib hiding intOf
namespace L16
open L10 (TN tn patB)
open L11 (NewQ new_yes new_no seenL_but blk_seenL)
open L12 (St)
open L13 (TW tw checkB)
open L14 (LayD LayOk layC mayL Wide rg14)

theorem wide_k {b : Brk} (h1 : -1000 ≤ b.1 ∧ b.1 ≤ 1000) (h2 : -1000 ≤ b.2.1 ∧ b.2.1 ≤ 1000) (h3 : -1000 ≤ b.2.2 ∧ b.2.2 ≤ 1000) : WideK b := ⟨wide_small h1.1 h1.2, wide_small h2.1 h2.2, wide_small h3.1 h3.2⟩
def cwA (b : Nat) : CW := ⟨[97, 45, 98], some ⟨b, 0, none⟩, 3, [], none, 0⟩
def cwB (b : Nat) : CW := ⟨[99], some ⟨b, 0, none⟩, 1, [], none, 0⟩
theorem cwA_ok (b : Nat) : (cwA b).Ok := ⟨Nat.le_refl _, by show 3 ≤ maxLen; unfold maxLen; omega, Nat.le_refl _, Nat.zero_le _, fun n hn => by
  simp only [cwA, List.mem_cons, List.not_mem_nil, or_false] at hn
  rcases hn with rfl | rfl | rfl <;> decide, fun n hn => by simp [cwA] at hn⟩
theorem cwB_ok (b : Nat) : (cwB b).Ok := ⟨Nat.le_refl _, by show 1 ≤ maxLen; unfold maxLen; omega, Nat.le_refl _, Nat.zero_le _, fun n hn => by
  simp only [cwB, List.mem_cons, List.not_mem_nil, or_false] at hn
  rcases hn with rfl; decide, fun n hn => by simp [cwB] at hn⟩
set_option maxRecDepth 100000 in
set_option maxHeartbeats 4000000 in
theorem awake_any (PA : Par) (w : World) (hT : Home w) : Calls Tryz.prog 8 #[] w (Ret w (.bool true)) := by
  have HT0 := Lib.hid hT
  have S := Lib.hid PA
  have NEW := Lib.hid (show Calls Tryz.prog 11 #[.agg #[.slice none 0 0, .slice none 0 0]] w (NewQ w []) from
    new_yes ⟨[], []⟩ ⟨none, 0, none, 0⟩ (fun x hx => by simp at hx) (fun x hx => by simp at hx) w ⟨SeenW.nil, SeenW.nil⟩ (by simp) (by simp) (by kernel_rfl))
  clear hT PA
  go_enter Tryz.func8, Tryz.ntmps8
  go_wp2_with fail
  refine NEW.out.mono ?_
  rintro e w1 hq
  obtain ⟨B, rfl, s1, x1, _⟩ := St.new (Ext.refl w) hq
  have S1 := Lib.hid s1
  have X := Lib.hid x1
  clear hq s1 x1 NEW
  obtain ⟨v1, hv1⟩ : ∃ v1, v1 = w1.alloc (.cells #[.int .i64 97, .int .i64 45, .int .i64 98] 3) := ⟨_, rfl⟩
  obtain ⟨v2, hv2⟩ : ∃ v2, v2 = v1.alloc (.cells #[.int .i64 99] 3) := ⟨_, rfl⟩
  obtain ⟨w2, hw2⟩ : ∃ w2, w2 = v2.alloc (.cells #[.slice (some ⟨w1.heap.size, 0, none⟩) 3 3, .slice none 0 0, .slice (some ⟨w1.heap.size + 1, 0, none⟩) 1 1, .slice none 0 0] 50) := ⟨_, rfl⟩
  have e1 : v1.heap.size = w1.heap.size + 1 := by rw [hv1]; simp
  have e2 : v2.heap.size = w1.heap.size + 1 + 1 := by rw [hv2]; simp; omega
  have y1 : Ext w1 v1 := by rw [hv1]; exact (Ext.refl _).alloc _
  have y2 : Ext v1 v2 := by rw [hv2]; exact (Ext.refl _).alloc _
  have y3 : Ext v2 w2 := by rw [hw2]; exact (Ext.refl _).alloc _
  have k0 : Blk v1 w1.heap.size 3 [.int .i64 97, .int .i64 45, .int .i64 98] := by rw [hv1]; exact Blk.lit _ _ _ _ rfl
  have k1 : Blk v2 (w1.heap.size + 1) 3 [.int .i64 99] := by rw [hv2]; exact Blk.lit _ _ _ _ e1.symm
  have k2 : Blk w2 (w1.heap.size + 1 + 1) 50 [.slice (some ⟨w1.heap.size, 0, none⟩) 3 3, .slice none 0 0, .slice (some ⟨w1.heap.size + 1, 0, none⟩) 1 1, .slice none 0 0] := by rw [hw2]; exact Blk.lit _ _ _ _ e2.symm
  have hB := S1.out.lt
  have S2 := Lib.hid (S1.out.ext ((y1.trans y2).trans y3))
  have X := Lib.hid (X.out.trans ((y1.trans y2).trans y3))
  have SC := Lib.hid (show SeenC w2 (some ⟨w1.heap.size + 1 + 1, 0, none⟩) [cwA w1.heap.size, cwB (w1.heap.size + 1)] from
    seenC_of (fun k v hv => ⟨_, rfl, k2.lt, by rw [add_zero_addr, k2.cell]; exact hv⟩) (fun x hx => by
      simp only [List.mem_cons, List.not_mem_nil, or_false] at hx
      rcases hx with rfl | rfl
      · exact ⟨blk_seenL ((k0.ext y2).ext y3) rfl, SeenL.nil⟩
      · exact ⟨blk_seenL (k1.ext y3) rfl, SeenL.nil⟩))
  have ARG := Lib.hid (fun w' (x : But (Only B) w2 w') => show Args w' none [] D16 none (some ⟨w1.heap.size + 1 + 1, 0, none⟩) [cwA w1.heap.size, cwB (w1.heap.size + 1)] from
    ⟨SeenW.nil, SeenP.nil, seenC_but SC.out x (fun ad e => by cases e; dsimp only; omega) (fun y hy => by
      simp only [List.mem_cons, List.not_mem_nil, or_false] at hy
      rcases hy with rfl | rfl
      · exact ⟨fun ad e => by cases e; dsimp only; omega, fun ad e => by cases e⟩
      · exact ⟨fun ad e => by cases e; dsimp only; omega, fun ad e => by cases e⟩), HT0.out.ext (st_old S2.out x)⟩)
  have WOK := Lib.hid (fun x (hx : x ∈ [cwA w1.heap.size, cwB (w1.heap.size + 1)]) => show x.Ok by
    simp only [List.mem_cons, List.not_mem_nil, or_false] at hx
    rcases hx with rfl | rfl
    · exact cwA_ok _
    · exact cwB_ok _)
  have HW := Lib.hid (show w2 = ((w1.alloc (.cells #[.int .i64 97, .int .i64 45, .int .i64 98] 3)).alloc (.cells #[.int .i64 99] 3)).alloc (.cells #[.slice (some ⟨w1.heap.size, 0, none⟩) 3 3, .slice none 0 0, .slice (some ⟨w1.heap.size + 1, 0, none⟩) 1 1, .slice none 0 0] 50) by rw [hw2, hv2, hv1])
  obtain ⟨bW, hbW⟩ : ∃ b, w1.heap.size + 1 + 1 = b := ⟨_, rfl⟩
  have HBW := Lib.hid hbW
  rw [hbW] at SC ARG
  clear hv1 hv2 hw2 e1 e2 y1 y2 y3 k0 k1 k2 SC hbW S1 hB
  go_upto_region 3 with (fail)
  rw [← HW.out]
  rw [HBW.out]
  clear HW HBW
  have CA : Calls Tryz.prog 12 #[.pointer (some ⟨B, 0, none⟩), .slice none 0 0, .agg (layC D16 none 0).toArray, .slice (some ⟨bW, 0, none⟩) 2 2, .bool true] w2 (PrQ w w2 B [] (brksA [] [] D16 [([97, 45, 98], []), ([99], [])] true)) :=
    S.out.brC w w2 B [] S2.out none [] 0 0 rfl (by omega) (fun x hx => by simp at hx) D16 none 0 d16_ok (some ⟨bW, 0, none⟩) _ 2 2 rfl (Nat.le_refl _) (by unfold maxLen; omega) WOK.out ARG.out true
  rw [aw_l, d16_cells] at CA
  have CA := Lib.hid CA
  go_wp2_with fail
  refine CA.out.mono ?_
  rintro e w3 ⟨s3, b3, A3, c3, rfl, k3⟩
  have S3 := Lib.hid s3
  have K3 := Lib.hid k3
  have B3 := Lib.hid b3
  clear s3 b3 k3 CA
  have CA : Calls Tryz.prog 12 #[.pointer (some ⟨B, 0, none⟩), .slice none 0 0, .agg (layC Z16 none 0).toArray, .slice (some ⟨bW, 0, none⟩) 2 2, .bool true] w3 (PrQ w w3 B [] (brksA [] [] Z16 [([97, 45, 98], []), ([99], [])] true)) :=
    S.out.brC w w3 B [] S3.out none [] 0 0 rfl (by omega) (fun x hx => by simp at hx) Z16 none 0 z16_ok (some ⟨bW, 0, none⟩) _ 2 2 rfl (Nat.le_refl _) (by unfold maxLen; omega) WOK.out (fun w' x => let h := ARG.out w' (B3.out.trans x fun i h => .inl h); ⟨h.but, SeenP.nil, h.words, h.home⟩) true
  rw [aw_f, z16_cells] at CA
  have CA := Lib.hid CA
  have hwk : wk.length = 4 := rfl
  go_wp2_with fail
  refine CA.out.mono ?_
  rintro e w4 ⟨s4, b4, A4, c4, rfl, k4⟩
  have S4 := Lib.hid s4
  have K3 := Lib.hid (K3.out.ask b4)
  have B4 := Lib.hid (B3.out.trans b4 fun i h => .inl h)
  clear s4 b4 k4 CA B3
  have CA : Calls Tryz.prog 12 #[.pointer (some ⟨B, 0, none⟩), .slice none 0 0, .agg (layC D16 none 0).toArray, .slice none 0 0, .bool true] w4 (PrQ w w4 B [] (brksA [] [] D16 [] true)) :=
    S.out.brC w w4 B [] S4.out none [] 0 0 rfl (by omega) (fun x hx => by simp at hx) D16 none 0 d16_ok none [] 0 0 rfl (Nat.le_refl _) (by omega) (fun x hx => by simp at hx) (fun w' x => let h := ARG.out w' (B4.out.trans x fun i h => .inl h); ⟨h.but, h.lay, SeenC.nil, h.home⟩) true
  rw [aw_g, d16_cells] at CA
  have CA := Lib.hid CA
  go_wp2_with fail
  refine CA.out.mono ?_
  rintro e w5 ⟨s5, b5, A5, c5, rfl, k5⟩
  have K3 := Lib.hid (K3.out.ask b5)
  have X5 := Lib.hid s5.x
  clear s5 b5 k5 CA B4 ARG WOK S2 S3 S4 X
  obtain ⟨w6, hw6⟩ : ∃ w6, w6 = w5.alloc (.cells #[.int .i64 0, .int .i64 0, .int .i64 0, .int .i64 4, .int .i64 0, .int .i64 2, .int .i64 1, .int .i64 0, .int .i64 3, .int .i64 5, .int .i64 1, .int .i64 1] 44) := ⟨_, rfl⟩
  have x6 : Ext w5 w6 := by rw [hw6]; exact (Ext.refl _).alloc _
  have KB := Lib.hid (show Blk w6 w5.heap.size 44 [.int .i64 0, .int .i64 0, .int .i64 0, .int .i64 4, .int .i64 0, .int .i64 2, .int .i64 1, .int .i64 0, .int .i64 3, .int .i64 5, .int .i64 1, .int .i64 1] by rw [hw6]; exact Blk.lit _ _ _ _ rfl)
  have SB := Lib.hid (show SeenK w6 (some ⟨w5.heap.size, 0, none⟩) wk by rw [hw6]; exact seen_new w5 (flatK wk) 44)
  have K3 := Lib.hid (K3.out.ext x6)
  have X6 := Lib.hid (X5.out.trans x6)
  have HW6 := Lib.hid hw6
  clear hw6 x6 X5
  go_upto_region 7 with (fail)
  rw [← HW6.out]
  clear HW6
  generalize w5.heap.size = bK at *
  have q0 := cell_regrown (show w6.cell? ⟨bK, 0, none⟩ = some (.int .i64 0) from KB.out.cell 0)
  have q1 := cell_regrown (show w6.cell? ⟨bK, 1, none⟩ = some (.int .i64 0) from KB.out.cell 1)
  have q2 := cell_regrown (show w6.cell? ⟨bK, 2, none⟩ = some (.int .i64 0) from KB.out.cell 2)
  have q3 := cell_regrown (show w6.cell? ⟨bK, 3, none⟩ = some (.int .i64 4) from KB.out.cell 3)
  have q4 := cell_regrown (show w6.cell? ⟨bK, 4, none⟩ = some (.int .i64 0) from KB.out.cell 4)
  have q5 := cell_regrown (show w6.cell? ⟨bK, 5, none⟩ = some (.int .i64 2) from KB.out.cell 5)
  have q6 := cell_regrown (show w6.cell? ⟨bK, 6, none⟩ = some (.int .i64 1) from KB.out.cell 6)
  have q7 := cell_regrown (show w6.cell? ⟨bK, 7, none⟩ = some (.int .i64 0) from KB.out.cell 7)
  have q8 := cell_regrown (show w6.cell? ⟨bK, 8, none⟩ = some (.int .i64 3) from KB.out.cell 8)
  have q9 := cell_regrown (show w6.cell? ⟨bK, 9, none⟩ = some (.int .i64 5) from KB.out.cell 9)
  have q10 := cell_regrown (show w6.cell? ⟨bK, 10, none⟩ = some (.int .i64 1) from KB.out.cell 10)
  have q11 := cell_regrown (show w6.cell? ⟨bK, 11, none⟩ = some (.int .i64 1) from KB.out.cell 11)
  have C1 := Lib.hid (fun dd os => show Calls Tryz.prog 14 #[.slice A3 4 c3, .slice (some ⟨bK, 0, none⟩) 4 4] (Sort.grow (redrawn w6 dd) os) (Ret (Sort.grow (redrawn w6 dd) os) (.bool true)) from
    rsame_any A3 (some ⟨bK, 0, none⟩) wk wk 4 c3 4 4 _ (K3.out.1.ext (below_regrown _ _ _)) (SB.out.ext (below_regrown _ _ _)) rfl rfl (by decide))
  have C2 := Lib.hid (fun dd os => show Calls Tryz.prog 15 #[.agg #[.int .i64 0, .int .i64 0, .int .i64 0], .agg #[.int .i64 4, .int .i64 0, .int .i64 2]] (Sort.grow (redrawn w6 dd) os) (Ret (Sort.grow (redrawn w6 dd) os) (.bool true)) from
    aw_1 ▸ S.out.befC (0, 0, 0) (4, 0, 2) _ (wide_k (by decide) (by decide) (by decide)) (wide_k (by decide) (by decide) (by decide)))
  have C3 := Lib.hid (fun dd os => show Calls Tryz.prog 15 #[.agg #[.int .i64 0, .int .i64 0, .int .i64 0], .agg #[.int .i64 0, .int .i64 0, .int .i64 0]] (Sort.grow (redrawn w6 dd) os) (Ret (Sort.grow (redrawn w6 dd) os) (.bool false)) from
    aw_2 ▸ S.out.befC (0, 0, 0) (0, 0, 0) _ (wide_k (by decide) (by decide) (by decide)) (wide_k (by decide) (by decide) (by decide)))
  have C4 := Lib.hid (fun dd os => show Calls Tryz.prog 15 #[.agg #[.int .i64 1, .int .i64 0, .int .i64 3], .agg #[.int .i64 5, .int .i64 1, .int .i64 1]] (Sort.grow (redrawn w6 dd) os) (Ret (Sort.grow (redrawn w6 dd) os) (.bool true)) from
    aw_3 ▸ S.out.befC (1, 0, 3) (5, 1, 1) _ (wide_k (by decide) (by decide) (by decide)) (wide_k (by decide) (by decide) (by decide)))
  have C5 := Lib.hid (fun dd os => show Calls Tryz.prog 17 #[.agg (layC E16 none 0).toArray, .agg #[.int .i64 4, .int .i64 0, .int .i64 2]] (Sort.grow (redrawn w6 dd) os) (Ret (Sort.grow (redrawn w6 dd) os) (.int .i64 7)) from
    aw_4 ▸ S.out.penC E16 none 0 (4, 0, 2) _ e16_ok (wide_k (by decide) (by decide) (by decide)))
  rw [e16_cells] at C5
  refine wp_region_quiet_below (by kernel_rfl) (by kernel_rfl) ?_
  repeat (go_big_quiet_step (first | (with_reducible exact rg14 (C1.out _ _)) | (with_reducible exact rg14 (C2.out _ _)) | (with_reducible exact rg14 (C3.out _ _)) | (with_reducible exact rg14 (C4.out _ _)) | (with_reducible exact rg14 (C5.out _ _))))
  refine wpQuiet_nil ?_
  intro _ hw'
  obtain ⟨⟨dq, osq⟩, hw''⟩ := hw'
  subst hw''
  have X7 := Lib.hid (X6.out.trans (below_regrown w6 dq osq))
  clear C1 C2 C3 C4 C5 KB SB K3
  generalize Sort.grow (redrawn w6 dq) osq = w7 at *
  go_wp2_with fail
  go_ret
  exact ⟨rfl, X7.out⟩
end L16
end Go.Proofs.YtdiccmlpppkgpaaGreatDoor

