/- What all statements of layer 8 begin with. -/
import Derived.Test.YtijhabhnhglhgaaLigFont08
namespace Go.Proofs.Ytijhabhnhglhgaa
open Go.RowKit Go.Lib
namespace L08
open L07

def zeroD : FontD := ⟨0, 0, 0, 0, fun _ _ => 0, 0, fun _ => 0, 0, fun _ => 0, 0, fun _ => 0, 0, fun _ => 0, 0, fun _ _ => 0, 0, fun _ => 0, 0, fun _ => 0⟩
def zeroP : FontP := ⟨none, 0, none, 0, none, 0, none, 0, none, 0, none, 0, none, 0, none, 0⟩
theorem zero_ok : FontOk zeroD zeroP := by
  refine ⟨?_, ?_, ?_, ?_, ?_, ?_, ?_, ?_, ?_, ?_, ?_, ?_, ?_, ?_, ?_, ?_, ?_, ?_, ?_⟩
  all_goals first | (simp [zeroD, zeroP, maxLen]; done) | (intros; simp [zeroD, Wide]) | simp [zeroD, Wide]
theorem zero_seen (w : World) : SeenFont w zeroD zeroP := ⟨SeenN.nil, SeenF.none, SeenF.none, SeenF.none, SeenF.none, SeenN.nil, SeenF.none, SeenF.none⟩

theorem fact1 : setR ligD [102, 105, 120, 102] = ([(128, 0), (120, -7), (102, 0)], 0) := by kernel_rfl
theorem fact2 : expandR ligD [128, 120, 9] = ([102, 105, 120, 9], 0) := by kernel_rfl
theorem fact3 : setR ligD [200] = ([], 80) := by kernel_rfl
theorem fact4 : ligB ligD = true := by kernel_rfl
theorem fact5 : setR zeroD [] = ([], 70) := by kernel_rfl
theorem fact6 : expandR zeroD [] = ([], 70) := by kernel_rfl
theorem fact7 : ligB zeroD = false := by kernel_rfl

theorem set0 (w : World) : Calls Try.prog 11 #[.agg #[.int .i64 0, .int .i64 0, .int .i64 0, .slice none 0 0, .slice none 0 0, .slice none 0 0, .slice none 0 0, .slice none 0 0, .slice none 0 0, .slice none 0 0, .slice none 0 0], .slice none 0 0] w (GlyQ w ([], 70)) := by
  have h := lset_any zeroD zeroP none [] 0 w zero_ok (zero_seen w) SeenF.none (by simp) (by simp) (by simp [maxLen])
  rw [fact5] at h
  exact h
theorem exp0 (w : World) : Calls Try.prog 13 #[.agg #[.int .i64 0, .int .i64 0, .int .i64 0, .slice none 0 0, .slice none 0 0, .slice none 0 0, .slice none 0 0, .slice none 0 0, .slice none 0 0, .slice none 0 0, .slice none 0 0], .slice none 0 0] w (IntsQ w ([], 70)) := by
  have h := lexpand_any zeroD zeroP none [] 0 w zero_ok (zero_seen w) SeenF.none (by simp) (by simp)
  rw [fact6] at h
  exact h
theorem chk0 (w : World) : Calls Try.prog 17 #[.agg #[.int .i64 0, .int .i64 0, .int .i64 0, .slice none 0 0, .slice none 0 0, .slice none 0 0, .slice none 0 0, .slice none 0 0, .slice none 0 0, .slice none 0 0, .slice none 0 0]] w (Ret w (.bool false)) := by
  have h := lcheck_any zeroD zeroP w zero_ok (zero_seen w)
  rw [fact7] at h
  exact h

set_option maxRecDepth 100000 in
set_option maxHeartbeats 8000000 in
theorem awake_any (w : World) : Calls Try.prog 9 #[] w (Ret w (.bool true)) := by
  go_enter Try.func9, Try.ntmps9
  go_wp2_with fail
  refine (ligFont_any _).mono ?_
  rintro e w1 ⟨P, rfl, ok, sn, x1⟩
  have f1 := fact1; have f2 := fact2; have f3 := fact3; have f4 := fact4
  generalize ligD = D at *
  have S1 := Lib.hid (fun (w' : World) (x : Ext w1 w') (b : Nat) (hs : SeenF w' (some ⟨b, 0, none⟩) 4 (fun j => [102, 105, 120, 102].getD j 0)) => show Calls Try.prog 11 #[.agg #[.int .i64 D.sum, .int .i64 D.design, .int .i64 D.first, .slice P.xc D.nc P.zc, .slice P.xw D.nw P.zw, .slice P.xh D.nh P.zh, .slice P.xd D.nd P.zd, .slice P.xi D.ni P.zi, .slice P.xs D.ns P.zs, .slice P.xk D.nk P.zk, .slice P.xp D.np P.zp], .slice (some ⟨b, 0, none⟩) 4 4] w' (GlyQ w' ([(128, 0), (120, -7), (102, 0)], 0)) from f1 ▸ lset_any D P (some ⟨b, 0, none⟩) [102, 105, 120, 102] 4 w' ok (sn.ext x) hs (by simp) (by simp) (by simp [maxLen]))
  have E1 := Lib.hid (fun (w' : World) (x : Ext w1 w') (b : Nat) (hs : SeenF w' (some ⟨b, 0, none⟩) 3 (fun j => [128, 120, 9].getD j 0)) => show Calls Try.prog 13 #[.agg #[.int .i64 D.sum, .int .i64 D.design, .int .i64 D.first, .slice P.xc D.nc P.zc, .slice P.xw D.nw P.zw, .slice P.xh D.nh P.zh, .slice P.xd D.nd P.zd, .slice P.xi D.ni P.zi, .slice P.xs D.ns P.zs, .slice P.xk D.nk P.zk, .slice P.xp D.np P.zp], .slice (some ⟨b, 0, none⟩) 3 3] w' (IntsQ w' ([102, 105, 120, 9], 0)) from f2 ▸ lexpand_any D P (some ⟨b, 0, none⟩) [128, 120, 9] 3 w' ok (sn.ext x) hs (fun j => by match j with | 0 => simp | 1 => simp | 2 => simp | (j + 3) => simp) (by simp))
  have S2 := Lib.hid (fun (w' : World) (x : Ext w1 w') (b : Nat) (hs : SeenF w' (some ⟨b, 0, none⟩) 1 (fun j => [200].getD j 0)) => show Calls Try.prog 11 #[.agg #[.int .i64 D.sum, .int .i64 D.design, .int .i64 D.first, .slice P.xc D.nc P.zc, .slice P.xw D.nw P.zw, .slice P.xh D.nh P.zh, .slice P.xd D.nd P.zd, .slice P.xi D.ni P.zi, .slice P.xs D.ns P.zs, .slice P.xk D.nk P.zk, .slice P.xp D.np P.zp], .slice (some ⟨b, 0, none⟩) 1 1] w' (GlyQ w' ([], 80)) from f3 ▸ lset_any D P (some ⟨b, 0, none⟩) [200] 1 w' ok (sn.ext x) hs (by simp) (by simp) (by simp [maxLen]))
  have K1 := Lib.hid (fun (w' : World) (x : Ext w1 w') => show Calls Try.prog 17 #[.agg #[.int .i64 D.sum, .int .i64 D.design, .int .i64 D.first, .slice P.xc D.nc P.zc, .slice P.xw D.nw P.zw, .slice P.xh D.nh P.zh, .slice P.xd D.nd P.zd, .slice P.xi D.ni P.zi, .slice P.xs D.ns P.zs, .slice P.xk D.nk P.zk, .slice P.xp D.np P.zp]] w' (Ret w' (.bool true)) from f4 ▸ lcheck_any D P w' ok (sn.ext x))
  clear f1 f2 f3 f4 ok sn
  unfold fontV
  go_wp2_with fail
  have kF : Blk (w1.alloc (.cells #[.int .i64 D.sum, .int .i64 D.design, .int .i64 D.first, .slice P.xc D.nc P.zc, .slice P.xw D.nw P.zw, .slice P.xh D.nh P.zh, .slice P.xd D.nd P.zd, .slice P.xi D.ni P.zi, .slice P.xs D.ns P.zs, .slice P.xk D.nk P.zk, .slice P.xp D.np P.zp] 28)) w1.heap.size 28 [.int .i64 D.sum, .int .i64 D.design, .int .i64 D.first, .slice P.xc D.nc P.zc, .slice P.xw D.nw P.zw, .slice P.xh D.nh P.zh, .slice P.xd D.nd P.zd, .slice P.xi D.ni P.zi, .slice P.xs D.ns P.zs, .slice P.xk D.nk P.zk, .slice P.xp D.np P.zp] := Blk.lit _ _ _ _ rfl
  have y2 : Ext w1 ((w1.alloc (.cells #[.int .i64 D.sum, .int .i64 D.design, .int .i64 D.first, .slice P.xc D.nc P.zc, .slice P.xw D.nw P.zw, .slice P.xh D.nh P.zh, .slice P.xd D.nd P.zd, .slice P.xi D.ni P.zi, .slice P.xs D.ns P.zs, .slice P.xk D.nk P.zk, .slice P.xp D.np P.zp] 28)).alloc (.cells #[.int .i64 102, .int .i64 105, .int .i64 120, .int .i64 102] 3)) := ((Ext.refl _).alloc _).alloc _
  have hb : (w1.alloc (.cells #[.int .i64 D.sum, .int .i64 D.design, .int .i64 D.first, .slice P.xc D.nc P.zc, .slice P.xw D.nw P.zw, .slice P.xh D.nh P.zh, .slice P.xd D.nd P.zd, .slice P.xi D.ni P.zi, .slice P.xs D.ns P.zs, .slice P.xk D.nk P.zk, .slice P.xp D.np P.zp] 28)).heap.size = w1.heap.size + 1 := by simp
  have s2 := seen_lit (w1.alloc (.cells #[.int .i64 D.sum, .int .i64 D.design, .int .i64 D.first, .slice P.xc D.nc P.zc, .slice P.xw D.nw P.zw, .slice P.xh D.nh P.zh, .slice P.xd D.nd P.zd, .slice P.xi D.ni P.zi, .slice P.xs D.ns P.zs, .slice P.xk D.nk P.zk, .slice P.xp D.np P.zp] 28)) [102, 105, 120, 102] 3
  rw [hb] at s2
  refine (S1.out _ y2 _ s2).mono ?_
  rintro e w3 ⟨x3, A3, c3, rfl, h3, h3', s3⟩
  have kF := kF.ext (((Ext.refl _).alloc _).trans x3)
  have X3 := y2.trans x3
  generalize w1.heap.size = b0 at *
  have q0 : w3.cell? ⟨b0, 0, none⟩ = some (.int .i64 D.sum) := kF.cell 0
  have q1 : w3.cell? ⟨b0, 1, none⟩ = some (.int .i64 D.design) := kF.cell 1
  have q2 : w3.cell? ⟨b0, 2, none⟩ = some (.int .i64 D.first) := kF.cell 2
  have q3 : w3.cell? ⟨b0, 3, none⟩ = some (.slice P.xc D.nc P.zc) := kF.cell 3
  have q4 : w3.cell? ⟨b0, 4, none⟩ = some (.slice P.xw D.nw P.zw) := kF.cell 4
  have q5 : w3.cell? ⟨b0, 5, none⟩ = some (.slice P.xh D.nh P.zh) := kF.cell 5
  have q6 : w3.cell? ⟨b0, 6, none⟩ = some (.slice P.xd D.nd P.zd) := kF.cell 6
  have q7 : w3.cell? ⟨b0, 7, none⟩ = some (.slice P.xi D.ni P.zi) := kF.cell 7
  have q8 : w3.cell? ⟨b0, 8, none⟩ = some (.slice P.xs D.ns P.zs) := kF.cell 8
  have q9 : w3.cell? ⟨b0, 9, none⟩ = some (.slice P.xk D.nk P.zk) := kF.cell 9
  have q10 : w3.cell? ⟨b0, 10, none⟩ = some (.slice P.xp D.np P.zp) := kF.cell 10
  have lb3 := kF.lt
  clear y2 hb s2 x3
  go_wp2_with fail
  refine (E1.out _ (X3.alloc _) _ (seen_lit w3 [128, 120, 9] 3)).mono ?_
  rintro e w4 ⟨x4, A4, c4, rfl, h4, h4', s4⟩
  have x34 := ((Ext.refl w3).alloc _).trans x4
  have X4 := X3.trans x34
  have kF := kF.ext x34
  have s3 := s3.ext x34
  clear q0 q1 q2 q3 q4 q5 q6 q7 q8 q9 q10 x4 x34 X3 lb3
  have q0 : w4.cell? ⟨b0, 0, none⟩ = some (.int .i64 D.sum) := kF.cell 0
  have q1 : w4.cell? ⟨b0, 1, none⟩ = some (.int .i64 D.design) := kF.cell 1
  have q2 : w4.cell? ⟨b0, 2, none⟩ = some (.int .i64 D.first) := kF.cell 2
  have q3 : w4.cell? ⟨b0, 3, none⟩ = some (.slice P.xc D.nc P.zc) := kF.cell 3
  have q4 : w4.cell? ⟨b0, 4, none⟩ = some (.slice P.xw D.nw P.zw) := kF.cell 4
  have q5 : w4.cell? ⟨b0, 5, none⟩ = some (.slice P.xh D.nh P.zh) := kF.cell 5
  have q6 : w4.cell? ⟨b0, 6, none⟩ = some (.slice P.xd D.nd P.zd) := kF.cell 6
  have q7 : w4.cell? ⟨b0, 7, none⟩ = some (.slice P.xi D.ni P.zi) := kF.cell 7
  have q8 : w4.cell? ⟨b0, 8, none⟩ = some (.slice P.xs D.ns P.zs) := kF.cell 8
  have q9 : w4.cell? ⟨b0, 9, none⟩ = some (.slice P.xk D.nk P.zk) := kF.cell 9
  have q10 : w4.cell? ⟨b0, 10, none⟩ = some (.slice P.xp D.np P.zp) := kF.cell 10
  have lb4 := kF.lt
  go_wp2_with fail
  refine (S2.out _ (X4.alloc _) _ (seen_lit w4 [200] 3)).mono ?_
  rintro e w5 ⟨x5, A5, c5, rfl, _, _, _⟩
  have x45 := ((Ext.refl w4).alloc _).trans x5
  have X5 := X4.trans x45
  have kF := kF.ext x45
  have s3 := s3.ext x45
  have s4 := s4.ext x45
  clear q0 q1 q2 q3 q4 q5 q6 q7 q8 q9 q10 x5 x45 X4 lb4
  go_wp2_with fail
  refine (set0 _).mono ?_
  rintro e w6 ⟨x6, A6, c6, rfl, _, _, _⟩
  have X6 := X5.trans x6
  have kF := kF.ext x6
  have s3 := s3.ext x6
  have s4 := s4.ext x6
  clear x6 X5
  go_wp2_with fail
  refine (exp0 _).mono ?_
  rintro e w7 ⟨x7, A7, c7, rfl, _, _, _⟩
  have X7 := X6.trans x7
  have kF := kF.ext x7
  have s3 := s3.ext x7
  have s4 := s4.ext x7
  clear x7 X6
  go_wp2_with fail
  refine (gsame_any A3 (some ⟨w7.heap.size, 0, none⟩) [(128, 0), (120, -7), (102, 0)] [(128, 0), (120, -7), (102, 0)] c3 3 _ (s3.ext ((Ext.refl _).alloc _)) (seenG_of (seen_new w7 (flatG [(128, 0), (120, -7), (102, 0)]) 56)) (by simp)).mono ?_
  rintro e w8 ⟨rfl, x8⟩
  rw [show sameG [(128, 0), (120, -7), (102, 0)] [(128, 0), (120, -7), (102, 0)] = true from decide_eq_true rfl]
  have x78 := ((Ext.refl w7).alloc _).trans x8
  have X8 := X7.trans x78
  have kF := kF.ext x78
  have s4 := s4.ext x78
  clear x8 x78 X7 s3
  go_wp2_with fail
  refine (L04.same_any A4 (some ⟨w8.heap.size, 0, none⟩) 4 4 c4 4 _ _ _ (s4.ext ((Ext.refl _).alloc _)) (seen_lit w8 [102, 105, 120, 9] 3) (by simp)).mono ?_
  rintro e w9 ⟨rfl, x9⟩
  rw [show L04.sameB 4 4 (fun j => [102, 105, 120, 9].getD j 0) (fun j => [102, 105, 120, 9].getD j 0) = true from decide_eq_true ⟨rfl, fun _ _ => rfl⟩]
  have x89 := ((Ext.refl w8).alloc _).trans x9
  have X9 := X8.trans x89
  have kF := kF.ext x89
  clear x9 x89 X8 s4
  have q0 : w9.cell? ⟨b0, 0, none⟩ = some (.int .i64 D.sum) := kF.cell 0
  have q1 : w9.cell? ⟨b0, 1, none⟩ = some (.int .i64 D.design) := kF.cell 1
  have q2 : w9.cell? ⟨b0, 2, none⟩ = some (.int .i64 D.first) := kF.cell 2
  have q3 : w9.cell? ⟨b0, 3, none⟩ = some (.slice P.xc D.nc P.zc) := kF.cell 3
  have q4 : w9.cell? ⟨b0, 4, none⟩ = some (.slice P.xw D.nw P.zw) := kF.cell 4
  have q5 : w9.cell? ⟨b0, 5, none⟩ = some (.slice P.xh D.nh P.zh) := kF.cell 5
  have q6 : w9.cell? ⟨b0, 6, none⟩ = some (.slice P.xd D.nd P.zd) := kF.cell 6
  have q7 : w9.cell? ⟨b0, 7, none⟩ = some (.slice P.xi D.ni P.zi) := kF.cell 7
  have q8 : w9.cell? ⟨b0, 8, none⟩ = some (.slice P.xs D.ns P.zs) := kF.cell 8
  have q9 : w9.cell? ⟨b0, 9, none⟩ = some (.slice P.xk D.nk P.zk) := kF.cell 9
  have q10 : w9.cell? ⟨b0, 10, none⟩ = some (.slice P.xp D.np P.zp) := kF.cell 10
  go_wp2_with fail
  refine (K1.out _ X9).mono ?_
  rintro e w10 ⟨rfl, x10⟩
  have X10 := X9.trans x10
  go_wp2_with fail
  refine (chk0 _).mono ?_
  rintro e w11 ⟨rfl, x11⟩
  go_wp2_with fail
  go_ret
  exact ⟨rfl, x1.trans (X10.trans x11)⟩
end L08
end Go.Proofs.Ytijhabhnhglhgaa

