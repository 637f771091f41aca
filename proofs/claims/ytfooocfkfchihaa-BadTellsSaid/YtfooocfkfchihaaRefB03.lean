/- The document's badness, by its limbs (layer 3). Written by genref03b.py. -/
import Derived.Test.YtfooocfkfchihaaRef03
import Derived.Deep.DeepCutAuto
namespace Go.Proofs.Ytfooocfkfchihaa
open Go.RowKit
namespace L03

/-- A number's limbs, as values. -/
def limbs (p : Int) : List Value := [.int .i64 (L p 0), .int .i64 (L p 1), .int .i64 (L p 2), .int .i64 (L p 3), .int .i64 (L p 4), .int .i64 (L p 5), .int .i64 (L p 6), .int .i64 (L p 7), .int .i64 (L p 8), .int .i64 (L p 9)]
theorem limbs_length (p : Int) : (limbs p).length = 10 := rfl
theorem limbs_one (p : Int) : ∀ v ∈ limbs p, v.oneCell' = true := by
  intro v hv
  simp [limbs] at hv
  rcases hv with rfl | rfl | rfl | rfl | rfl | rfl | rfl | rfl | rfl | rfl <;> rfl
def limbsV (p : Int) : Value := .agg (limbs p).toArray

theorem of_v (n : Int) (h : 0 ≤ n) (h' : n ≤ 1073741823) (w : World) :
    Calls Try.prog 23 #[.int .i64 n] w (Ret w (.agg (limbs n).toArray)) := of_any n h h' w
theorem rtimes_v (p n : Int) (hp : 0 ≤ p) (hp' : p < 1461501637330902918203684832716283019655932542976) (hn : 0 ≤ n) (hn' : n ≤ 2147483648) (hm : p * n < 1461501637330902918203684832716283019655932542976) (w : World) :
    Calls Try.prog 22 #[.agg (limbs p).toArray, .int .i64 n] w (Ret w (.agg (limbs (p * n)).toArray)) := rtimes_any p n hp hp' hn hn' hm w
theorem rplus_v (p q : Int) (hp : 0 ≤ p) (hp' : p < 1461501637330902918203684832716283019655932542976) (hq : 0 ≤ q) (hq' : q < 1461501637330902918203684832716283019655932542976) (hm : p + q < 1461501637330902918203684832716283019655932542976) (w : World) :
    Calls Try.prog 24 #[.agg (limbs p).toArray, .agg (limbs q).toArray] w (Ret w (.agg (limbs (p + q)).toArray)) := rplus_any p q hp hp' hq hq' hm w
theorem rabove_v (p q : Int) (hp : 0 ≤ p) (hp' : p < 1461501637330902918203684832716283019655932542976) (hq : 0 ≤ q) (hq' : q < 1461501637330902918203684832716283019655932542976) (w : World) :
    Calls Try.prog 25 #[.agg (limbs p).toArray, .agg (limbs q).toArray] w (Ret w (.bool (decide (q < p)))) := rabove_any p q hp hp' hq hq' w

theorem rheld_any (n : Int) (w : World) : Calls Try.prog 21 #[.int .i64 n] w fun e w' => e = .returned (.int .i64 (heldI n)) ∧ w = w' := by
  by_cases h1 : n < 0
  · rw [show heldI n = 0 from if_pos h1]
    go_enter Try.func21, Try.ntmps21
    go_wp2_with fail
    go_ret
    exact ⟨rfl, rfl⟩
  · by_cases h2 : 1073741823 < n
    · rw [show heldI n = 1073741823 from by simp [heldI, h1, h2]]
      go_enter Try.func21, Try.ntmps21
      go_wp2_with fail
      go_ret
      exact ⟨rfl, rfl⟩
    · rw [show heldI n = n from by simp [heldI, h1, h2]]
      go_enter Try.func21, Try.ntmps21
      go_wp2_with fail
      go_ret
      exact ⟨rfl, rfl⟩

theorem badN_mid {r q b : Int} (hr : 0 < r) (hq : 0 ≤ q) (hb : 1 ≤ b) (hb' : b ≤ 10000) : decide (q < r * (2 * b)) = decide (badN r q < b) := by
  have h := badN_cut (r := r) (q := q) (b := b - 1) hr hq (by omega) (by omega)
  rw [show b - 1 + 1 = b from by omega] at h
  rw [h, decide_eq_decide]
  omega

theorem limbs_size : (Try.prog.info? 42).map (fun i => i.size) = some 10 := by kernel_rfl

set_option maxHeartbeats 1000000 in
theorem rbad_any (t s : Int) (w : World) : Calls Try.prog 11 #[.int .i64 t, .int .i64 s] w (Ret w (.int .i64 (badI t s))) := by
  have ht := held_in t
  have hs := held_in s
  by_cases h1 : heldI t = 0
  · rw [show badI t s = 0 from if_pos h1]
    go_enter Try.func11, Try.ntmps11
    go_wp2_with (first | (go_at_call 21; refine (rheld_any _ _).mono ?_; rintro e w' ⟨rfl, rfl⟩))
    go_ret
    exact ⟨rfl, Ext.refl _⟩
  · by_cases h2 : heldI s = 0
    · rw [show badI t s = 10000 from by simp [badI, h1, h2]]
      go_enter Try.func11, Try.ntmps11
      go_wp2_with (first | (go_at_call 21; refine (rheld_any _ _).mono ?_; rintro e w' ⟨rfl, rfl⟩))
      go_ret
      exact ⟨rfl, Ext.refl _⟩
    · rw [show badI t s = badN (heldI s * heldI s * heldI s) (200 * (heldI t * heldI t * heldI t) + heldI s * heldI s * heldI s) from by simp [badI, h1, h2]]
      have HT := Lib.hid (fun w => rheld_any t w)
      have HS := Lib.hid (fun w => rheld_any s w)
      generalize heldI t = x at *
      generalize heldI s = y at *
      have q1 := cube_in ht.1 ht.2
      have q2 := cube_in hs.1 hs.2
      have q3 := cube_pos (show 0 < y by omega)
      have q4 : 0 ≤ x * x := Int.mul_nonneg ht.1 ht.1
      have q5 : x * x ≤ 1152921502459363329 := Int.mul_le_mul ht.2 ht.2 ht.1 (by omega)
      have q6 : 0 ≤ y * y := Int.mul_nonneg hs.1 hs.1
      have q7 : y * y ≤ 1152921502459363329 := Int.mul_le_mul hs.2 hs.2 hs.1 (by omega)
      have C1 := Lib.hid (of_any y hs.1 hs.2)
      have C2 := Lib.hid (rtimes_any y y hs.1 (by omega) hs.1 (by omega) (by omega))
      have C3 := Lib.hid (rtimes_any (y * y) y q6 (by omega) hs.1 (by omega) (by omega))
      have D1 := Lib.hid (of_v x ht.1 ht.2)
      have D2 := Lib.hid (rtimes_v x x ht.1 (by omega) ht.1 (by omega) (by omega))
      have D3 := Lib.hid (rtimes_v (x * x) x q4 (by omega) ht.1 (by omega) (by omega))
      generalize x * x * x = x3 at *
      generalize x * x = x2 at *
      generalize y * y * y = y3 at *
      generalize y * y = y2 at *
      have D4 := Lib.hid (rtimes_v x3 200 q1.1 (by omega) (by omega) (by omega) (by omega))
      have D5 := Lib.hid (rplus_v (x3 * 200) y3 (by omega) (by omega) q2.1 (by omega) (by omega))
      rw [Int.mul_comm 200 x3]
      have ub : 0 ≤ x3 * 200 + y3 := by omega
      have ub' : x3 * 200 + y3 < 1461501637330902918203684832716283019655932542976 := by omega
      generalize x3 * 200 + y3 = u at *
      generalize x3 * 200 = x4 at *
      have E1 : ∀ b : Int, 1 ≤ b → b ≤ 10000 → ∀ w, Calls Try.prog 22 #[.agg (limbs y3).toArray, .int .i64 (2 * b)] w (Ret w (.agg (limbs (y3 * (2 * b))).toArray)) := by
        intro b hb hb' w
        have := Int.mul_le_mul q2.2 (show 2 * b ≤ 20000 by omega) (by omega) (by omega)
        exact rtimes_v y3 (2 * b) q2.1 (by omega) (by omega) (by omega) (by omega) w
      have E2 : ∀ b : Int, 1 ≤ b → b ≤ 10000 → ∀ w, Calls Try.prog 25 #[.agg (limbs (y3 * (2 * b))).toArray, .agg (limbs u).toArray] w (Ret w (.bool (decide (badN y3 u < b)))) := by
        intro b hb hb' w
        rw [← badN_mid q3 ub hb hb']
        have := Int.mul_le_mul q2.2 (show 2 * b ≤ 20000 by omega) (by omega) (by omega)
        exact rabove_v (y3 * (2 * b)) u (Int.mul_nonneg q2.1 (by omega)) (by omega) ub ub' w
      obtain ⟨f, hf⟩ : ∃ f : Int → List Value, ∀ b, limbs (y3 * (2 * b)) = f b := ⟨_, fun _ => rfl⟩
      simp only [hf] at E1 E2
      clear hf
      have E1 := Lib.hid E1
      have E2 := Lib.hid E2
      have hn := badN_in q3 ub
      obtain ⟨hn0, hn1⟩ := hn
      have LN := Lib.hid (limbs_length u)
      have LO := Lib.hid (limbs_one u)
      generalize badN y3 u = n at *
      clear q1 q2 q3 q4 q5 q6 q7 ub ub'
      go_enter Try.func11, Try.ntmps11
      go_wp2_with (first | (go_at_call 21; first | (refine (HT.out _).mono ?_; rintro e w' ⟨rfl, rfl⟩) | (refine (HS.out _).mono ?_; rintro e w' ⟨rfl, rfl⟩)))
      refine (C1.out _).mono ?_; rintro e w1 ⟨rfl, g1⟩
      go_wp2_with fail
      refine (C2.out _).mono ?_; rintro e w2 ⟨rfl, g2⟩
      go_wp2_with fail
      refine (C3.out _).mono ?_; rintro e w3 ⟨rfl, g3⟩
      go_wp2_with fail
      have W0 := ((g1.trans g2).trans g3).alloc (.cells #[.int .i64 (L y3 0), .int .i64 (L y3 1), .int .i64 (L y3 2), .int .i64 (L y3 3), .int .i64 (L y3 4), .int .i64 (L y3 5), .int .i64 (L y3 6), .int .i64 (L y3 7), .int .i64 (L y3 8), .int .i64 (L y3 9)] 42)
      have K0 : (w3.alloc (.cells #[.int .i64 (L y3 0), .int .i64 (L y3 1), .int .i64 (L y3 2), .int .i64 (L y3 3), .int .i64 (L y3 4), .int .i64 (L y3 5), .int .i64 (L y3 6), .int .i64 (L y3 7), .int .i64 (L y3 8), .int .i64 (L y3 9)] 42)).rangeAt w3.heap.size 0 (limbs y3) := range_lit w3 (limbs y3) 42
      generalize w3.alloc (.cells #[.int .i64 (L y3 0), .int .i64 (L y3 1), .int .i64 (L y3 2), .int .i64 (L y3 3), .int .i64 (L y3 4), .int .i64 (L y3 5), .int .i64 (L y3 6), .int .i64 (L y3 7), .int .i64 (L y3 8), .int .i64 (L y3 9)] 42) = W at *
      generalize w3.heap.size = R at *
      have hi1 : (Try.prog.info? 42).map (fun i => i.size) = some (limbs y3).length := limbs_size
      have hi2 : (Try.prog.info? 42).map (fun i => i.size) = some (limbs u).length := limbs_size
      have X0 := Lib.hid W0
      have HALL := Lib.hid (fun (V : World) => there_lit V ([.int .i64 0, .int .i64 0, .int .i64 0, .int .i64 0, .int .i64 0, .int .i64 0, .int .i64 0, .int .i64 0, .int .i64 0, .int .i64 0]) 42 10 rfl)
      have KEEP := Lib.hid (fun (w' : World) (h : Ext W w') => (And.intro (h.range K0) h : w'.rangeAt R 0 (limbs y3) ∧ Ext W w'))
      have hu : Try.prog.underlying 42 = _ := Try.underlying42
      clear W0 g1 g2 g3
      go_cut [6] (fun v wx => ∃ b : Nat, v = .pointer (some ⟨b, 0, none⟩) ∧ wx.rangeAt b 0 (limbs u) ∧ Ext W wx)
      case first =>
        have hl := LN.out
        have ho := LO.out
        have hall := HALL.out
        go_region_held3 (fun w' => w'.rangeAt R 0 (limbs y3) ∧ Ext W w')
          ((go_split_ands; try with_reducible refine KEEP.out _ ?_; (try with_reducible refine Ext.drew ?_); with_reducible first | assumption | exact Ext.refl _ | exact Ext.alloc (by assumption) _ | exact Ext.alloc (Ext.refl _) _ | exact Ext.setCells _ _ (by assumption) (Ext.le (by assumption)) | exact Ext.setCells _ _ (by assumption) (Nat.le_refl _)))
          (first
            | (go_at_call 23; (with_reducible refine (D1.out _).mono ?_); rintro e w9 ⟨rfl, x9⟩; (with_reducible first | have n9 := ext_there x9 | have n9 := ext_there (ext_drew x9) | have n9 := Ext.there x9 n9 | skip); go_split_ands; have y9 := Ext.trans (a := W) (by with_reducible assumption) x9)
            | (go_at_call 22; (with_reducible refine (D2.out _).mono ?_); rintro e w9 ⟨rfl, x9⟩; (with_reducible first | have n9 := ext_there x9 | have n9 := ext_there (ext_drew x9) | have n9 := Ext.there x9 n9 | skip); go_split_ands; have y9 := Ext.trans (a := W) (by with_reducible assumption) x9)
            | (go_at_call 22; (with_reducible refine (D3.out _).mono ?_); rintro e w9 ⟨rfl, x9⟩; (with_reducible first | have n9 := ext_there x9 | have n9 := ext_there (ext_drew x9) | have n9 := Ext.there x9 n9 | skip); go_split_ands; have y9 := Ext.trans (a := W) (by with_reducible assumption) x9)
            | (go_at_call 22; (with_reducible refine (D4.out _).mono ?_); rintro e w9 ⟨rfl, x9⟩; (with_reducible first | have n9 := ext_there x9 | have n9 := ext_there (ext_drew x9) | have n9 := Ext.there x9 n9 | skip); go_split_ands; have y9 := Ext.trans (a := W) (by with_reducible assumption) x9)
            | (go_at_call 24; (with_reducible refine (D5.out _).mono ?_); rintro e w9 ⟨rfl, x9⟩; (with_reducible first | have n9 := ext_there x9 | have n9 := ext_there (ext_drew x9) | have n9 := Ext.there x9 n9 | skip); go_split_ands; have y9 := Ext.trans (a := W) (by with_reducible assumption) x9))
        all_goals
          go_split_ands
          go_wp2_with fail
          go_meet
          refine ⟨_, rfl, World.rangeAt_setCells_same _ _ _ _ ?_, by with_reducible assumption⟩
          rw [hl]
          first | exact hall _ | assumption
      case rest =>
        obtain ⟨B, rfl, hB, hX⟩ := hcut
        have XC := Lib.hid (X0.out.trans hX)
        have KEEP2 := Lib.hid (fun (w' : World) (h : Ext wc w') => (And.intro (h.range (hX.range K0)) (And.intro (h.range hB) h) : w'.rangeAt R 0 (limbs y3) ∧ w'.rangeAt B 0 (limbs u) ∧ Ext wc w'))
        clear hB hX K0 KEEP
        go_wp2_with fail
        go_loopw [7, 8] (fun i j wr => ∃ lo up : Int, 0 ≤ lo ∧ lo ≤ n ∧ n ≤ up ∧ up ≤ 10000 ∧ i = .int .i64 lo ∧ j = .int .i64 up ∧ Ext wc wr) (fun i j _ => (intOf j - intOf i).toNat)
        case atStart => exact ⟨0, 10000, by omega, by omega, by omega, by omega, rfl, rfl, Ext.refl _⟩
        case round =>
          obtain ⟨lo, up, h1, h2, h3, h4, rfl, rfl, xr⟩ := hrel
          by_cases hlt : lo < up
          · have m1 : lo < (lo + up + 1) / 2 := by omega
            have m2 : (lo + up + 1) / 2 ≤ up := by omega
            have rR0 : ∀ w', Ext wr w' → w'.cell? ⟨R, 0, none⟩ = some (.int .i64 (L y3 0)) := fun w' h => by simpa using (h.range (KEEP2.out _ xr).1) 0 _ rfl
            have rR1 : ∀ w', Ext wr w' → w'.cell? ⟨R, 1, none⟩ = some (.int .i64 (L y3 1)) := fun w' h => by simpa using (h.range (KEEP2.out _ xr).1) 1 _ rfl
            have rR2 : ∀ w', Ext wr w' → w'.cell? ⟨R, 2, none⟩ = some (.int .i64 (L y3 2)) := fun w' h => by simpa using (h.range (KEEP2.out _ xr).1) 2 _ rfl
            have rR3 : ∀ w', Ext wr w' → w'.cell? ⟨R, 3, none⟩ = some (.int .i64 (L y3 3)) := fun w' h => by simpa using (h.range (KEEP2.out _ xr).1) 3 _ rfl
            have rR4 : ∀ w', Ext wr w' → w'.cell? ⟨R, 4, none⟩ = some (.int .i64 (L y3 4)) := fun w' h => by simpa using (h.range (KEEP2.out _ xr).1) 4 _ rfl
            have rR5 : ∀ w', Ext wr w' → w'.cell? ⟨R, 5, none⟩ = some (.int .i64 (L y3 5)) := fun w' h => by simpa using (h.range (KEEP2.out _ xr).1) 5 _ rfl
            have rR6 : ∀ w', Ext wr w' → w'.cell? ⟨R, 6, none⟩ = some (.int .i64 (L y3 6)) := fun w' h => by simpa using (h.range (KEEP2.out _ xr).1) 6 _ rfl
            have rR7 : ∀ w', Ext wr w' → w'.cell? ⟨R, 7, none⟩ = some (.int .i64 (L y3 7)) := fun w' h => by simpa using (h.range (KEEP2.out _ xr).1) 7 _ rfl
            have rR8 : ∀ w', Ext wr w' → w'.cell? ⟨R, 8, none⟩ = some (.int .i64 (L y3 8)) := fun w' h => by simpa using (h.range (KEEP2.out _ xr).1) 8 _ rfl
            have rR9 : ∀ w', Ext wr w' → w'.cell? ⟨R, 9, none⟩ = some (.int .i64 (L y3 9)) := fun w' h => by simpa using (h.range (KEEP2.out _ xr).1) 9 _ rfl
            have rB0 : ∀ w', Ext wr w' → w'.cell? ⟨B, 0, none⟩ = some (.int .i64 (L u 0)) := fun w' h => by simpa using (h.range (KEEP2.out _ xr).2.1) 0 _ rfl
            have rB1 : ∀ w', Ext wr w' → w'.cell? ⟨B, 1, none⟩ = some (.int .i64 (L u 1)) := fun w' h => by simpa using (h.range (KEEP2.out _ xr).2.1) 1 _ rfl
            have rB2 : ∀ w', Ext wr w' → w'.cell? ⟨B, 2, none⟩ = some (.int .i64 (L u 2)) := fun w' h => by simpa using (h.range (KEEP2.out _ xr).2.1) 2 _ rfl
            have rB3 : ∀ w', Ext wr w' → w'.cell? ⟨B, 3, none⟩ = some (.int .i64 (L u 3)) := fun w' h => by simpa using (h.range (KEEP2.out _ xr).2.1) 3 _ rfl
            have rB4 : ∀ w', Ext wr w' → w'.cell? ⟨B, 4, none⟩ = some (.int .i64 (L u 4)) := fun w' h => by simpa using (h.range (KEEP2.out _ xr).2.1) 4 _ rfl
            have rB5 : ∀ w', Ext wr w' → w'.cell? ⟨B, 5, none⟩ = some (.int .i64 (L u 5)) := fun w' h => by simpa using (h.range (KEEP2.out _ xr).2.1) 5 _ rfl
            have rB6 : ∀ w', Ext wr w' → w'.cell? ⟨B, 6, none⟩ = some (.int .i64 (L u 6)) := fun w' h => by simpa using (h.range (KEEP2.out _ xr).2.1) 6 _ rfl
            have rB7 : ∀ w', Ext wr w' → w'.cell? ⟨B, 7, none⟩ = some (.int .i64 (L u 7)) := fun w' h => by simpa using (h.range (KEEP2.out _ xr).2.1) 7 _ rfl
            have rB8 : ∀ w', Ext wr w' → w'.cell? ⟨B, 8, none⟩ = some (.int .i64 (L u 8)) := fun w' h => by simpa using (h.range (KEEP2.out _ xr).2.1) 8 _ rfl
            have rB9 : ∀ w', Ext wr w' → w'.cell? ⟨B, 9, none⟩ = some (.int .i64 (L u 9)) := fun w' h => by simpa using (h.range (KEEP2.out _ xr).2.1) 9 _ rfl
            have y9 : Ext wr wr.drew := (Ext.refl _).drew
            have F1 : Hid (∀ w, Calls Try.prog 22 #[.agg #[.int .i64 (L y3 0), .int .i64 (L y3 1), .int .i64 (L y3 2), .int .i64 (L y3 3), .int .i64 (L y3 4), .int .i64 (L y3 5), .int .i64 (L y3 6), .int .i64 (L y3 7), .int .i64 (L y3 8), .int .i64 (L y3 9)], .int .i64 (2 * ((lo + up + 1) / 2))] w (Ret w (.agg (f ((lo + up + 1) / 2)).toArray))) := Lib.hid (E1.out ((lo + up + 1) / 2) (by omega) (by omega))
            have F2 : Hid (∀ w, Calls Try.prog 25 #[.agg (f ((lo + up + 1) / 2)).toArray, .agg #[.int .i64 (L u 0), .int .i64 (L u 1), .int .i64 (L u 2), .int .i64 (L u 3), .int .i64 (L u 4), .int .i64 (L u 5), .int .i64 (L u 6), .int .i64 (L u 7), .int .i64 (L u 8), .int .i64 (L u 9)]] w (Ret w (.bool (decide (n < (lo + up + 1) / 2))))) := Lib.hid (E2.out ((lo + up + 1) / 2) (by omega) (by omega))
            go_upto_region 13 with (fail)
            have s1 : IntKind.i64.wrap (2 * ((lo + up + 1) / 2)) = 2 * ((lo + up + 1) / 2) := IntWalk.i64_in _ (by omega)
            by_cases ht : n < (lo + up + 1) / 2
            · have hd : decide (n < (lo + up + 1) / 2) = true := by simpa using ht
              go_region_with (first
                | (go_at_call 22; (with_reducible refine (F1.out _).mono ?_); rintro e w9 ⟨rfl, x9⟩; have y9 := Ext.trans (a := wr) (by with_reducible assumption) x9)
                | (go_at_call 25; (with_reducible refine (F2.out _).mono ?_); rintro e w9 ⟨rfl, x9⟩; have y9 := Ext.trans (a := wr) (by with_reducible assumption) x9))
              all_goals
                clear rR0 rR1 rR2 rR3 rR4 rR5 rR6 rR7 rR8 rR9 rB0 rB1 rB2 rB3 rB4 rB5 rB6 rB7 rB8 rB9
                have ye := xr.trans y9
                go_wp2_with fail
                go_roundw
                case rel =>
                  first
                    | exact ⟨lo, (lo + up + 1) / 2 - 1, by omega, by omega, by omega, by omega, rfl, rfl, ye⟩
                    | exact ⟨(lo + up + 1) / 2, up, by omega, by omega, by omega, by omega, rfl, rfl, ye⟩
                case measure => simp only [intOf]; omega
            · have hd : decide (n < (lo + up + 1) / 2) = false := by simpa using ht
              go_region_with (first
                | (go_at_call 22; (with_reducible refine (F1.out _).mono ?_); rintro e w9 ⟨rfl, x9⟩; have y9 := Ext.trans (a := wr) (by with_reducible assumption) x9)
                | (go_at_call 25; (with_reducible refine (F2.out _).mono ?_); rintro e w9 ⟨rfl, x9⟩; have y9 := Ext.trans (a := wr) (by with_reducible assumption) x9))
              all_goals
                clear rR0 rR1 rR2 rR3 rR4 rR5 rR6 rR7 rR8 rR9 rB0 rB1 rB2 rB3 rB4 rB5 rB6 rB7 rB8 rB9
                have ye := xr.trans y9
                go_wp2_with fail
                go_roundw
                case rel =>
                  first
                    | exact ⟨lo, (lo + up + 1) / 2 - 1, by omega, by omega, by omega, by omega, rfl, rfl, ye⟩
                    | exact ⟨(lo + up + 1) / 2, up, by omega, by omega, by omega, by omega, rfl, rfl, ye⟩
                case measure => simp only [intOf]; omega
          · go_wp2_with fail
            go_ret
            exact ⟨ret_int (by omega), XC.out.trans xr⟩
end L03
end Go.Proofs.Ytfooocfkfchihaa

