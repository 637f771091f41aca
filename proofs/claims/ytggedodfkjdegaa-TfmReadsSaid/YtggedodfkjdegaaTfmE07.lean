/- The landed Write of layer 7. -/
import Derived.Test.YtggedodfkjdegaaTfmC07
import Derived.Test.YtggedodfkjdegaaTfmD07
import Derived.Test.YtggedodfkjdegaaDec07
namespace Go.Proofs.Ytggedodfkjdegaa
open Go.RowKit
namespace L07
open L06

set_option maxRecDepth 100000 in
set_option maxHeartbeats 4000000 in
theorem twrite_no (D : FontD) (P : FontP) (w : World) (ok : FontOk D P) (sn : SeenFont w D P) (h : checkB D = false) :
    Calls Try.prog 8 #[fontV D P] w (Ret w (.tuple #[.slice none 0 0, .int .i64 70])) := by
  have T := Lib.hid (tcheck_any D P _ ok (sn.ext ((Ext.refl w).alloc (.cells #[.int .i64 D.sum, .int .i64 D.design, .int .i64 D.first, .slice P.xc D.nc P.zc, .slice P.xw D.nw P.zw, .slice P.xh D.nh P.zh, .slice P.xd D.nd P.zd, .slice P.xi D.ni P.zi, .slice P.xs D.ns P.zs, .slice P.xk D.nk P.zk, .slice P.xp D.np P.zp] 28))))
  rw [h] at T
  clear ok sn
  unfold fontV at *
  go_enter Try.func8, Try.ntmps8
  go_wp2_with fail
  refine T.out.mono ?_; rintro e w1 ⟨rfl, x1⟩
  go_wp2_with fail
  go_ret2
  exact ⟨rfl, ((Ext.refl _).alloc _).trans x1⟩

def sdF (D : FontD) (j : Nat) : Int := if j = 0 then D.sum else D.design
def fourF (a b c d : Int) (j : Nat) : Int := match j with
  | 0 => a
  | 1 => b
  | 2 => c
  | _ => d
theorem nums_head (D : FontD) (I : FontIn D) : numsW (headN D) 2 12 = catB (fun j => twoW (headN D j)) 12 := catB_congr 12 fun j hj => be_two (head_le D I j hj).1
theorem nums_sd (D : FontD) (I : FontIn D) : numsW (sdF D) 4 2 = fourW D.sum ++ fourW D.design := by
  have h1 := I.sum; have h2 := I.design
  show ([] ++ be D.sum.toNat 4) ++ be D.design.toNat 4 = _
  rw [be_four (by omega), be_four (by omega)]
  rfl
theorem nums_four {a b c d : Int} (ha : 0 ≤ a) (hb : 0 ≤ b) (hc : 0 ≤ c) (hd : 0 ≤ d) : numsW (fourF a b c d) 1 4 = [b8 a, b8 b, b8 c, b8 d] := by
  simp only [numsW, catB, fourF, List.nil_append]
  rw [be_one ha, be_one hb, be_one hc, be_one hd]
  rfl
theorem four_ok {a b c d : Int} (ha : 0 ≤ a ∧ a < 256) (hb : 0 ≤ b ∧ b < 256) (hc : 0 ≤ c ∧ c < 256) (hd : 0 ≤ d ∧ d < 256) : ∀ j, j < 4 → 0 ≤ fourF a b c d j ∧ fourF a b c d j < 256 ^ 1 := fun j hj => by
  match j, hj with
  | 0, _ => simpa [fourF] using ha
  | 1, _ => simpa [fourF] using hb
  | 2, _ => simpa [fourF] using hc
  | 3, _ => simpa [fourF] using hd
theorem four_at (a b c d : Int) : ∀ j, j < 4 → (#[.int .i64 a, .int .i64 b, .int .i64 c, .int .i64 d] : Array Value).toList[j]? = some (.int .i64 (fourF a b c d j)) := fun j hj => by
  match j, hj with
  | 0, _ => rfl
  | 1, _ => rfl
  | 2, _ => rfl
  | 3, _ => rfl

set_option maxRecDepth 100000 in
set_option maxHeartbeats 40000000 in
theorem twrite_yes (D : FontD) (P : FontP) (w : World) (ok : FontOk D P) (sn : SeenFont w D P) (h : checkB D = true) :
    Calls Try.prog 8 #[fontV D P] w (GivesB w (writeB D)) := by
  have I := Lib.hid (check_in h)
  have W0 : Ext w (w.alloc (.cells #[.int .i64 D.sum, .int .i64 D.design, .int .i64 D.first, .slice P.xc D.nc P.zc, .slice P.xw D.nw P.zw, .slice P.xh D.nh P.zh, .slice P.xd D.nd P.zd, .slice P.xi D.ni P.zi, .slice P.xs D.ns P.zs, .slice P.xk D.nk P.zk, .slice P.xp D.np P.zp] 28)) := (Ext.refl _).alloc _
  have sF := sn.ext W0
  have T := Lib.hid (tcheck_any D P _ ok sF)
  have TH := Lib.hid (fun w' => thead_any D P w' I.out)
  rw [h] at T
  have lB : w.heap.size < (w.alloc (.cells #[.int .i64 D.sum, .int .i64 D.design, .int .i64 D.first, .slice P.xc D.nc P.zc, .slice P.xw D.nw P.zw, .slice P.xh D.nh P.zh, .slice P.xd D.nd P.zd, .slice P.xi D.ni P.zi, .slice P.xs D.ns P.zs, .slice P.xk D.nk P.zk, .slice P.xp D.np P.zp] 28)).heap.size := by simp
  have q0 : (w.alloc (.cells #[.int .i64 D.sum, .int .i64 D.design, .int .i64 D.first, .slice P.xc D.nc P.zc, .slice P.xw D.nw P.zw, .slice P.xh D.nh P.zh, .slice P.xd D.nd P.zd, .slice P.xi D.ni P.zi, .slice P.xs D.ns P.zs, .slice P.xk D.nk P.zk, .slice P.xp D.np P.zp] 28)).cell? ⟨w.heap.size, 0, none⟩ = some (.int .i64 D.sum) := by simp
  have q1 : (w.alloc (.cells #[.int .i64 D.sum, .int .i64 D.design, .int .i64 D.first, .slice P.xc D.nc P.zc, .slice P.xw D.nw P.zw, .slice P.xh D.nh P.zh, .slice P.xd D.nd P.zd, .slice P.xi D.ni P.zi, .slice P.xs D.ns P.zs, .slice P.xk D.nk P.zk, .slice P.xp D.np P.zp] 28)).cell? ⟨w.heap.size, 1, none⟩ = some (.int .i64 D.design) := by simp
  have q2 : (w.alloc (.cells #[.int .i64 D.sum, .int .i64 D.design, .int .i64 D.first, .slice P.xc D.nc P.zc, .slice P.xw D.nw P.zw, .slice P.xh D.nh P.zh, .slice P.xd D.nd P.zd, .slice P.xi D.ni P.zi, .slice P.xs D.ns P.zs, .slice P.xk D.nk P.zk, .slice P.xp D.np P.zp] 28)).cell? ⟨w.heap.size, 2, none⟩ = some (.int .i64 D.first) := by simp
  have q3 : (w.alloc (.cells #[.int .i64 D.sum, .int .i64 D.design, .int .i64 D.first, .slice P.xc D.nc P.zc, .slice P.xw D.nw P.zw, .slice P.xh D.nh P.zh, .slice P.xd D.nd P.zd, .slice P.xi D.ni P.zi, .slice P.xs D.ns P.zs, .slice P.xk D.nk P.zk, .slice P.xp D.np P.zp] 28)).cell? ⟨w.heap.size, 3, none⟩ = some (.slice P.xc D.nc P.zc) := by simp
  have q4 : (w.alloc (.cells #[.int .i64 D.sum, .int .i64 D.design, .int .i64 D.first, .slice P.xc D.nc P.zc, .slice P.xw D.nw P.zw, .slice P.xh D.nh P.zh, .slice P.xd D.nd P.zd, .slice P.xi D.ni P.zi, .slice P.xs D.ns P.zs, .slice P.xk D.nk P.zk, .slice P.xp D.np P.zp] 28)).cell? ⟨w.heap.size, 4, none⟩ = some (.slice P.xw D.nw P.zw) := by simp
  have q5 : (w.alloc (.cells #[.int .i64 D.sum, .int .i64 D.design, .int .i64 D.first, .slice P.xc D.nc P.zc, .slice P.xw D.nw P.zw, .slice P.xh D.nh P.zh, .slice P.xd D.nd P.zd, .slice P.xi D.ni P.zi, .slice P.xs D.ns P.zs, .slice P.xk D.nk P.zk, .slice P.xp D.np P.zp] 28)).cell? ⟨w.heap.size, 5, none⟩ = some (.slice P.xh D.nh P.zh) := by simp
  have q6 : (w.alloc (.cells #[.int .i64 D.sum, .int .i64 D.design, .int .i64 D.first, .slice P.xc D.nc P.zc, .slice P.xw D.nw P.zw, .slice P.xh D.nh P.zh, .slice P.xd D.nd P.zd, .slice P.xi D.ni P.zi, .slice P.xs D.ns P.zs, .slice P.xk D.nk P.zk, .slice P.xp D.np P.zp] 28)).cell? ⟨w.heap.size, 6, none⟩ = some (.slice P.xd D.nd P.zd) := by simp
  have q7 : (w.alloc (.cells #[.int .i64 D.sum, .int .i64 D.design, .int .i64 D.first, .slice P.xc D.nc P.zc, .slice P.xw D.nw P.zw, .slice P.xh D.nh P.zh, .slice P.xd D.nd P.zd, .slice P.xi D.ni P.zi, .slice P.xs D.ns P.zs, .slice P.xk D.nk P.zk, .slice P.xp D.np P.zp] 28)).cell? ⟨w.heap.size, 7, none⟩ = some (.slice P.xi D.ni P.zi) := by simp
  have q8 : (w.alloc (.cells #[.int .i64 D.sum, .int .i64 D.design, .int .i64 D.first, .slice P.xc D.nc P.zc, .slice P.xw D.nw P.zw, .slice P.xh D.nh P.zh, .slice P.xd D.nd P.zd, .slice P.xi D.ni P.zi, .slice P.xs D.ns P.zs, .slice P.xk D.nk P.zk, .slice P.xp D.np P.zp] 28)).cell? ⟨w.heap.size, 8, none⟩ = some (.slice P.xs D.ns P.zs) := by simp
  have q9 : (w.alloc (.cells #[.int .i64 D.sum, .int .i64 D.design, .int .i64 D.first, .slice P.xc D.nc P.zc, .slice P.xw D.nw P.zw, .slice P.xh D.nh P.zh, .slice P.xd D.nd P.zd, .slice P.xi D.ni P.zi, .slice P.xs D.ns P.zs, .slice P.xk D.nk P.zk, .slice P.xp D.np P.zp] 28)).cell? ⟨w.heap.size, 9, none⟩ = some (.slice P.xk D.nk P.zk) := by simp
  have q10 : (w.alloc (.cells #[.int .i64 D.sum, .int .i64 D.design, .int .i64 D.first, .slice P.xc D.nc P.zc, .slice P.xw D.nw P.zw, .slice P.xh D.nh P.zh, .slice P.xd D.nd P.zd, .slice P.xi D.ni P.zi, .slice P.xs D.ns P.zs, .slice P.xk D.nk P.zk, .slice P.xp D.np P.zp] 28)).cell? ⟨w.heap.size, 10, none⟩ = some (.slice P.xp D.np P.zp) := by simp
  clear ok sn
  unfold fontV at *
  have oc := sF.oc; have ow := sF.ow; have oh := sF.oh; have od := sF.od; have oi := sF.oi; have os := sF.os; have okk := sF.ok; have op := sF.op
  clear sF
  have OW := Lib.hid ow; have OH := Lib.hid oh; have OD := Lib.hid od; have OI := Lib.hid oi; have OK := Lib.hid okk; have OP := Lib.hid op; have OC := Lib.hid oc; have OS := Lib.hid os
  clear ow oh od oi okk op oc os
  go_enter Try.func8, Try.ntmps8
  go_wp2_with fail
  generalize P.xc = XC at *
  generalize P.xs = XS at *
  generalize w.alloc (.cells #[.int .i64 D.sum, .int .i64 D.design, .int .i64 D.first, .slice XC D.nc P.zc, .slice P.xw D.nw P.zw, .slice P.xh D.nh P.zh, .slice P.xd D.nd P.zd, .slice P.xi D.ni P.zi, .slice XS D.ns P.zs, .slice P.xk D.nk P.zk, .slice P.xp D.np P.zp] 28) = V at *
  generalize w.heap.size = B at *
  refine T.out.mono ?_; rintro e w1 ⟨rfl, x1⟩
  have lB1 := x1.grows _ lB
  have q0a := (x1).at q0
  have q1a := (x1).at q1
  have q2a := (x1).at q2
  have q3a := (x1).at q3
  have q4a := (x1).at q4
  have q5a := (x1).at q5
  have q6a := (x1).at q6
  have q7a := (x1).at q7
  have q8a := (x1).at q8
  have q9a := (x1).at q9
  have q10a := (x1).at q10
  clear T
  go_wp2_with fail
  refine (TH.out _).mono ?_; rintro e w3 ⟨b, cs, rfl, x3, hb3, blk3, hcs⟩
  have g0 : BoxP V w3 w1.heap.size [] := BoxB.ext ⟨_, Boxed.lit w1 _ _ _ rfl, OwnB.nil _ _ _ (x1.alloc _)⟩ x3
  have hg := x1.le
  have hbg : b ≠ w1.heap.size := by simp at hb3; omega
  have TN := Lib.hid (numbers_any w1.heap.size 2 12 12 2 (some ⟨b, 0, none⟩) (headN D) V w3 [] rfl g0 hg (fun w' k => seen_blk (k.blk blk3 hbg (by decide)) hcs) (by omega) (by omega) (fun j hj => by have := head_le D I.out j hj; omega) (by omega) (by simp))
  generalize w1.heap.size = g at *
  clear g0 hb3 blk3 hcs x3 lB1 q0a q1a q2a q3a q4a q5a q6a q7a q8a q9a q10a TH
  go_wp2_with fail
  refine TN.out.mono ?_; rintro e w4 ⟨rfl, b4, _⟩
  clear TN
  rw [List.nil_append, nums_head D I.out] at b4
  have q0a := b4.old.at q0
  have q1a := b4.old.at q1
  obtain ⟨L4, hL4⟩ : ∃ L4, L4 = catB (fun j => twoW (headN D j)) 12 := ⟨_, rfl⟩
  rw [← hL4] at b4
  have hl4 : L4.length ≤ 24 := by rw [hL4, catB_length (k := 2) (fun _ => rfl)]; omega
  have HL4 := Lib.hid hL4
  clear hL4
  have TN := Lib.hid (numbers_any g 4 2 2 4 (some ⟨w4.heap.size, 0, none⟩) (sdF D) V (w4.alloc (.cells #[.int .i64 D.sum, .int .i64 D.design] 3)) L4 rfl (b4.ext ((Ext.refl _).alloc _)) hg
    (fun w' k => seen_blk (k.blk (Blk.lit w4 _ _ _ rfl) (by obtain ⟨v, hv, _⟩ := b4; have := hv.lt; omega) (by decide)) (fun j hj => by match j, hj with | 0, _ => rfl | 1, _ => rfl)) (by omega) (by omega)
    (fun j hj => by have h1 := I.out.sum; have h2 := I.out.design; unfold sdF; split <;> omega) (by omega) (by omega))
  clear b4
  go_wp2_with fail
  refine TN.out.mono ?_; rintro e w6 ⟨rfl, b6, _⟩
  clear TN q0a q1a
  rw [nums_sd D I.out] at b6
  have hl6 : (L4 ++ (fourW D.sum ++ fourW D.design)).length ≤ 32 := by simp only [List.length_append, fourW_length]; omega
  obtain ⟨L6, hL6⟩ : ∃ L6, L6 = L4 ++ (fourW D.sum ++ fourW D.design) := ⟨_, rfl⟩
  rw [← hL6] at b6 hl6
  have HL6 := Lib.hid hL6
  clear hL6
  have b6 := Lib.hid b6
  have mc : D.nc ≤ 256 := by have := I.out.nc; have := I.out.first; omega
  have q3a := b6.out.old.at q3
  go_wp2_with fail
  go_loopw [26] (fun i wr => ∃ k : Nat, k ≤ D.nc ∧ i = .int .i64 k ∧ Hid (BoxP V wr g (L6 ++ catB (chrW D) k))) (fun i _ => D.nc - (intOf i).toNat)
  case atStart => exact ⟨0, by omega, rfl, by rw [catB, List.append_nil]; exact b6⟩
  case round =>
    clear b6 q3a
    obtain ⟨k, hk, rfl, o⟩ := hrel
    by_cases hlt : k < D.nc
    · obtain ⟨ad, hA, e0, e1, e2, e3, e4, e5⟩ := row6 (OC.out.ext o.out.old) hlt
      subst hA
      obtain ⟨⟨a0, b0⟩, ⟨a1, b1⟩, ⟨a2, b2⟩, ⟨a3, b3⟩, hT⟩ := I.out.chr k hlt
      have g1 : D.chr k 1 < 16 := by have := I.out.nh; omega
      have g2 : D.chr k 2 < 16 := by have := I.out.nd; omega
      have g3 : D.chr k 3 < 64 := by have := I.out.ni; omega
      have g0 : D.chr k 0 < 256 := by have := I.out.nw; omega
      have g4 : 0 ≤ D.chr k 4 ∧ D.chr k 4 ≤ 1 := by omega
      have g5 : 0 ≤ D.chr k 5 ∧ D.chr k 5 < 256 := by have := I.out.ns; omega
      obtain ⟨g4, g4'⟩ := g4
      obtain ⟨g5, g5'⟩ := g5
      clear hT b0 b1 b2 b3
      have HC : Hid (chrW D k = [b8 (D.chr k 0), b8 (16 * D.chr k 1 + D.chr k 2), b8 (4 * D.chr k 3 + D.chr k 4), b8 (D.chr k 5)]) := rfl
      clear q0 q1 q2 q3 q4 q5 q6 q7 q8 q9 q10
      generalize D.chr k 0 = v0 at *
      generalize D.chr k 1 = v1 at *
      generalize D.chr k 2 = v2 at *
      generalize D.chr k 3 = v3 at *
      generalize D.chr k 4 = v4 at *
      generalize D.chr k 5 = v5 at *
      have TN := Lib.hid (numbers_any g 1 4 4 1 (some ⟨wr.heap.size + 1, 0, none⟩) (fourF v0 (16 * v1 + v2) (4 * v3 + v4) v5) V ((wr.alloc (.cells #[.int .i64 v0, .int .i64 v1, .int .i64 v2, .int .i64 v3, .int .i64 v4, .int .i64 v5] 35)).alloc (.cells #[.int .i64 v0, .int .i64 (16 * v1 + v2), .int .i64 (4 * v3 + v4), .int .i64 v5] 3)) _ rfl (o.out.ext (((Ext.refl _).alloc _).alloc _)) hg
        (fun w' k => seen_blk (k.blk (Blk.lit _ _ _ _ (by simp)) (by obtain ⟨v, hv, _⟩ := o.out; have := hv.lt; omega) (by decide)) (four_at _ _ _ _)) (by omega) (by omega)
        (four_ok (by omega) (by omega) (by omega) (by omega)) (by omega) (by simp only [List.length_append, catB_length (k := 4) (g := chrW D) (fun _ => rfl)]; omega))
      clear o
      go_wp2_with fail
      refine TN.out.mono ?_; rintro e w7 ⟨rfl, b7, _⟩
      rw [nums_four (by omega) (by omega) (by omega) (by omega)] at b7
      have b7 := Lib.hid b7
      clear TN
      go_wp2_with fail
      go_roundw
      case rel => exact ⟨k + 1, by omega, by go_num, by rw [catB, HC.out, ← List.append_assoc]; exact b7⟩
      case measure => simp [intOf]; omega
    · have ek : k = D.nc := by omega
      subst ek
      clear hlt hk
      have q4a := o.out.old.at q4
      have q5a := o.out.old.at q5
      have q6a := o.out.old.at q6
      have q7a := o.out.old.at q7
      obtain ⟨L7, hL7⟩ : ∃ L7, L7 = L6 ++ catB (chrW D) D.nc := ⟨_, rfl⟩
      have hl7 : L7.length ≤ 1100 := by rw [hL7]; simp only [List.length_append, catB_length (k := 4) (g := chrW D) (fun _ => rfl)]; omega
      rw [← hL7] at o
      have HL7 := Lib.hid hL7
      clear hL7
      have b8' : BoxP V (wr.alloc (.cells #[.slice P.xw D.nw P.zw, .slice P.xh D.nh P.zh, .slice P.xd D.nd P.zd, .slice P.xi D.ni P.zi] 25)) g L7 := o.out.ext ((Ext.refl _).alloc _)
      have k8 : Blk (wr.alloc (.cells #[.slice P.xw D.nw P.zw, .slice P.xh D.nh P.zh, .slice P.xd D.nd P.zd, .slice P.xi D.ni P.zi] 25)) wr.heap.size 25 [.slice P.xw D.nw P.zw, .slice P.xh D.nh P.zh, .slice P.xd D.nd P.zd, .slice P.xi D.ni P.zi] := Blk.lit _ _ _ _ rfl
      have hng : wr.heap.size ≠ g := by obtain ⟨v, hv, _⟩ := o.out; have := hv.lt; omega
      have i1 := I.out.nw; have i2 := I.out.nh; have i3 := I.out.nd; have i4 := I.out.ni; have i5 := I.out.nk; have i6 := I.out.np; have i7 := I.out.ns
      have F1 := Lib.hid (pfixes_any g D.nw P.zw P.xw D.wd V _ L7 b8' hg (fun w' k => OW.out.ext (k.old _ (Nat.le_refl _) b8'.old)) I.out.wd (by omega) (by omega))
      have o := o.out.old
      clear b8'
      go_wp2_with fail
      refine wp_loop_rounds 5 ?_
      rw [rounds_succ]
      go_wp2_with fail
      refine F1.out.mono ?_; rintro e w9 ⟨rfl, b9, kp9⟩
      have k9 := kp9.blk k8 hng (by decide)
      generalize wr.heap.size = bs at *
      clear F1 kp9 k8 o q4a q5a q6a q7a
      have c9 : w9.cell? ⟨bs, 1, none⟩ = some (.slice P.xh D.nh P.zh) := k9.cell 1
      have F := Lib.hid (pfixes_any g D.nh P.zh P.xh D.hd V w9 _ b9 hg (fun w' k => OH.out.ext (k.old _ (Nat.le_refl _) b9.old)) I.out.hd (by omega) (by simp only [List.length_append, allW_length]; omega))
      clear b9
      go_wp2_with fail
      rw [rounds_succ]
      go_wp2_with fail
      refine F.out.mono ?_; rintro e w10 ⟨rfl, b10, kp10⟩
      have k10 := kp10.blk k9 hng (by decide)
      clear F kp10 k9 c9
      have c10 : w10.cell? ⟨bs, 2, none⟩ = some (.slice P.xd D.nd P.zd) := k10.cell 2
      have F := Lib.hid (pfixes_any g D.nd P.zd P.xd D.dd V w10 _ b10 hg (fun w' k => OD.out.ext (k.old _ (Nat.le_refl _) b10.old)) I.out.dd (by omega) (by simp only [List.length_append, allW_length]; omega))
      clear b10
      go_wp2_with fail
      rw [rounds_succ]
      go_wp2_with fail
      refine F.out.mono ?_; rintro e w11 ⟨rfl, b11, kp11⟩
      have k11 := kp11.blk k10 hng (by decide)
      clear F kp11 k10 c10
      have c11 : w11.cell? ⟨bs, 3, none⟩ = some (.slice P.xi D.ni P.zi) := k11.cell 3
      have F := Lib.hid (pfixes_any g D.ni P.zi P.xi D.id V w11 _ b11 hg (fun w' k => OI.out.ext (k.old _ (Nat.le_refl _) b11.old)) I.out.id (by omega) (by simp only [List.length_append, allW_length]; omega))
      clear b11
      go_wp2_with fail
      rw [rounds_succ]
      go_wp2_with fail
      refine F.out.mono ?_; rintro e w12 ⟨rfl, b12, kp12⟩
      have k12 := kp12.blk k11 hng (by decide)
      clear F kp12 k11 c11
      obtain ⟨L12, hL12⟩ : ∃ L12, L12 = L7 ++ allW D.wd D.nw ++ allW D.hd D.nh ++ allW D.dd D.nd ++ allW D.id D.ni := ⟨_, rfl⟩
      rw [← hL12] at b12
      have hl12 : L12.length ≤ 4000 := by rw [hL12]; simp only [List.length_append, allW_length]; omega
      have HL12 := Lib.hid hL12
      have q8a := b12.old.at q8
      have b12 := Lib.hid b12
      clear hL12 k12
      go_wp2_with fail
      rw [rounds_succ]
      go_wp2_with fail
      go_loopw [69] (fun i wr => ∃ k : Nat, k ≤ D.ns ∧ i = .int .i64 k ∧ Hid (BoxP V wr g (L12 ++ catB (stpW D) k))) (fun i _ => D.ns - (intOf i).toNat)
      case atStart => exact ⟨0, by omega, rfl, by rw [catB, List.append_nil]; exact b12⟩
      case round =>
        clear b12 q8a
        obtain ⟨k, hk, rfl, o⟩ := hrel
        by_cases hlt : k < D.ns
        · obtain ⟨ad, hA, e0, e1, e2, e3⟩ := row4 (OS.out.ext o.out.old) hlt
          subst hA
          obtain ⟨⟨a0, b0⟩, ⟨a1, b1⟩, ⟨a2, b2⟩, ⟨a3, b3⟩⟩ := I.out.stp k hlt
          have HC : Hid (stpW D k = [b8 (D.stp k 0), b8 (D.stp k 1), b8 (D.stp k 2), b8 (D.stp k 3)]) := rfl
          clear q0 q1 q2 q3 q4 q5 q6 q7 q8 q9 q10
          generalize D.stp k 0 = v0 at *
          generalize D.stp k 1 = v1 at *
          generalize D.stp k 2 = v2 at *
          generalize D.stp k 3 = v3 at *
          have TN := Lib.hid (numbers_any g 1 4 4 1 (some ⟨wr.heap.size + 1, 0, none⟩) (fourF v0 v1 v2 v3) V ((wr.alloc (.cells #[.int .i64 v0, .int .i64 v1, .int .i64 v2, .int .i64 v3] 45)).alloc (.cells #[.int .i64 v0, .int .i64 v1, .int .i64 v2, .int .i64 v3] 3)) _ rfl (o.out.ext (((Ext.refl _).alloc _).alloc _)) hg
            (fun w' k => seen_blk (k.blk (Blk.lit _ _ _ _ (by simp)) (by obtain ⟨v, hv, _⟩ := o.out; have := hv.lt; omega) (by decide)) (four_at _ _ _ _)) (by omega) (by omega)
            (four_ok (by omega) (by omega) (by omega) (by omega)) (by omega) (by simp only [List.length_append, catB_length (k := 4) (g := stpW D) (fun _ => rfl)]; omega))
          clear o
          go_wp2_with fail
          refine TN.out.mono ?_; rintro e w7 ⟨rfl, b7, _⟩
          rw [nums_four (by omega) (by omega) (by omega) (by omega)] at b7
          have b7 := Lib.hid b7
          clear TN
          go_wp2_with fail
          go_roundw
          case rel => exact ⟨k + 1, by omega, by go_num, by rw [catB, HC.out, ← List.append_assoc]; exact b7⟩
          case measure => simp [intOf]; omega
        · have ek : k = D.ns := by omega
          subst ek
          clear hlt hk
          have hl13 : (L12 ++ catB (stpW D) D.ns).length ≤ 6000 := by simp only [List.length_append, catB_length (k := 4) (g := stpW D) (fun _ => rfl)]; omega
          have q9a := o.out.old.at q9
          have F := Lib.hid (pfixes_any g D.nk P.zk P.xk D.kd V _ _ o.out hg (fun w' k => OK.out.ext (k.old _ (Nat.le_refl _) o.out.old)) I.out.kd (by omega) (by omega))
          clear o
          go_wp2_with fail
          refine F.out.mono ?_; rintro e w14 ⟨rfl, b14, _⟩
          have q10a := b14.old.at q10
          have F := Lib.hid (pfixes_any g D.np P.zp P.xp D.pd V _ _ b14 hg (fun w' k => OP.out.ext (k.old _ (Nat.le_refl _) b14.old)) I.out.pd (by omega) (by rw [List.length_append, allW_length]; omega))
          clear b14 q9a
          go_wp2_with fail
          refine F.out.mono ?_; rintro e w15 ⟨rfl, b15, _⟩
          clear F
          have e15 : L12 ++ catB (stpW D) D.ns ++ allW D.kd D.nk ++ allW D.pd D.np = writeB D := by rw [HL12.out, HL7.out, HL6.out, HL4.out]; simp only [writeB, bodyW, List.append_assoc]
          rw [e15] at b15
          obtain ⟨v, bx, ow⟩ := b15
          obtain ⟨AR, cR, rfl, hcR, sR⟩ := ow.seen
          have X := W0.trans ow.2
          have cx := bx.cell
          clear ow bx e15
          go_wp2_with fail
          go_ret2
          exact ⟨AR, cR, rfl, hcR, sR, X⟩
end L07
end Go.Proofs.Ytggedodfkjdegaa

