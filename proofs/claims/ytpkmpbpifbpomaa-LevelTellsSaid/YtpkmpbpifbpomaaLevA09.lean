/- The landed levels of layer 9: their small parts. -/
import Derived.Test.YtpkmpbpifbpomaaFace09
import Derived.Test.YtpkmpbpifbpomaaMulB02
import Derived.Test.YtpkmpbpifbpomaaTfmA07
import Derived.Test.YtpkmpbpifbpomaaFacts07
import Derived.Test.YtpkmpbpifbpomaaBytes
import Derived.Test.YtpkmpbpifbpomaaKeep
import Derived.Laws.EntriesVeiled
namespace Go.Proofs.Ytpkmpbpifbpomaa
open Go.RowKit
namespace L09
open L02 L07

theorem lwithin_any (n a b : Int) (w : World) : Calls Try.prog 62 #[.int .i64 n, .int .i64 a, .int .i64 b] w (fun e w' => e = .returned (.bool (wiB n a b)) ∧ w = w') := by
  by_cases h : a ≤ n
  · go_enter Try.func62, Try.ntmps62
    go_wp2_with fail
    go_ret
    exact ⟨ret_bool (by simp [wiB]; omega), rfl⟩
  · go_enter Try.func62, Try.ntmps62
    go_wp2_with fail
    go_ret
    exact ⟨ret_bool (by simp [wiB]; omega), rfl⟩

/-- The least code that a trait may have. -/
def leastT (T : FaceT) : Nat → Int
  | 0 => 0
  | k + 1 => T.trt k 0 + 1
/-- A trait may be, behind those ahead. -/
def trOk (T : FaceT) (k : Nat) : Bool := wiB (T.trt k 0) (leastT T k) 255 && (wiB (T.trt k 1) 0 1000 && (wiB (T.trt k 2) (-1000) 1000 && wiB (T.trt k 3) (-1000) 1000))
/-- All may be. -/
def traitsB (T : FaceT) : Bool := allB (trOk T) T.nt

set_option maxRecDepth 100000 in
set_option maxHeartbeats 4000000 in
theorem traits_any (T : FaceT) (Q : FaceQ) (w : World) (bt : ∀ i j, i < T.nt → j < 4 → Wide (T.trt i j)) (rt : T.nt ≤ Q.zt ∧ Q.zt ≤ maxLen) (ot : SeenN 4 w Q.xt T.nt T.trt) :
    Calls Try.prog 69 #[.slice Q.xt T.nt Q.zt] w (Ret w (.bool (traitsB T))) := by
  have hc : T.nt ≤ 9223372036854775807 := by have := rt.1; have := rt.2; unfold maxLen at *; omega
  have L : ∀ k, k ≤ T.nt → (k < T.nt → trOk T k = false → traitsB T = false) ∧ (k < T.nt → trOk T k = true → allB (trOk T) k = true → allB (trOk T) (k + 1) = true) := fun k _ =>
    ⟨fun h h' => allB_no h h', fun _ h h' => by rw [allB, h', h]; rfl⟩
  have HL := Lib.hid L
  have BT := Lib.hid bt
  clear L rt bt
  obtain ⟨n, hn⟩ : ∃ n, n = T.nt := ⟨_, rfl⟩
  have HN := Lib.hid hn
  have OT := Lib.hid ot
  rw [← hn] at hc ⊢
  clear hn ot
  go_enter Try.func69, Try.ntmps69
  go_wp2_with fail
  go_loopw [3, 8] (fun l i wr => ∃ k : Nat, k ≤ n ∧ l = .int .i64 (leastT T k) ∧ i = .int .i64 k ∧ Hid (allB (trOk T) k = true) ∧ Ext w wr) (fun _ i _ => n - (intOf i).toNat)
  case atStart => exact ⟨0, by omega, rfl, rfl, Lib.hid rfl, Ext.refl _⟩
  case round =>
    obtain ⟨k, hk, rfl, rfl, hall, X⟩ := hrel
    by_cases hlt : k < n
    · have hL := HL.out k (by rw [← HN.out]; exact hk)
      have hltT : k < T.nt := by rw [← HN.out]; exact hlt
      have hXX := X
      obtain ⟨ad, hA, u0, u1, u2, u3⟩ := row4 (OT.out.ext X) hltT
      have NO := Lib.hid (fun h : trOk T k = false => (hL.1 hltT h).symm)
      have YES := Lib.hid (fun h : trOk T k = true => hL.2 hltT h hall.out)
      have E : trOk T k = (wiB (T.trt k 0) (leastT T k) 255 && (wiB (T.trt k 1) 0 1000 && (wiB (T.trt k 2) (-1000) 1000 && wiB (T.trt k 3) (-1000) 1000))) := rfl
      have HE := Lib.hid E
      have C0 := Lib.hid (lwithin_any (T.trt k 0) (leastT T k) 255)
      have C1 := Lib.hid (lwithin_any (T.trt k 1) 0 1000)
      have C2 := Lib.hid (lwithin_any (T.trt k 2) (-1000) 1000)
      have C3 := Lib.hid (lwithin_any (T.trt k 3) (-1000) 1000)
      have B0 := Lib.hid (show wiB (T.trt k 0) (leastT T k) 255 = true → T.trt k 0 ≤ 255 by simp [wiB])
      have w0 := (BT.out k 0 hltT (by omega)).1
      have HS := Lib.hid (show T.trt k 0 + 1 = leastT T (k + 1) from rfl)
      have HX := Lib.hid X
      clear E hL X hXX
      generalize wiB (T.trt k 0) (leastT T k) 255 = b0 at *
      generalize wiB (T.trt k 1) 0 1000 = b1 at *
      generalize wiB (T.trt k 2) (-1000) 1000 = b2 at *
      generalize wiB (T.trt k 3) (-1000) 1000 = b3 at *
      generalize T.trt k 0 = z0 at *
      generalize T.trt k 1 = z1 at *
      generalize T.trt k 2 = z2 at *
      generalize T.trt k 3 = z3 at *
      generalize leastT T k = y at *
      obtain ⟨xt, zt⟩ := Q
      simp only at hA
      subst hA
      go_wp2_with fail
      refine (C0.out _).mono ?_; rintro e w' ⟨rfl, rfl⟩
      cases b0 with
      | false =>
        have H := Lib.hid (NO.out (by rw [HE.out]; rfl))
        go_wp2_with fail
        go_ret
        exact ⟨ret_bool H.out, HX.out.alloc _⟩
      | true =>
      have b0 := B0.out rfl
      go_wp2_with fail
      refine (C1.out _).mono ?_; rintro e w' ⟨rfl, rfl⟩
      cases b1 with
      | false =>
        have H := Lib.hid (NO.out (by rw [HE.out]; rfl))
        go_wp2_with fail
        go_ret
        exact ⟨ret_bool H.out, HX.out.alloc _⟩
      | true =>
      go_wp2_with fail
      refine (C2.out _).mono ?_; rintro e w' ⟨rfl, rfl⟩
      cases b2 with
      | false =>
        have H := Lib.hid (NO.out (by rw [HE.out]; rfl))
        go_wp2_with fail
        go_ret
        exact ⟨ret_bool H.out, HX.out.alloc _⟩
      | true =>
      go_wp2_with fail
      refine (C3.out _).mono ?_; rintro e w' ⟨rfl, rfl⟩
      cases b3 with
      | false =>
        have H := Lib.hid (NO.out (by rw [HE.out]; rfl))
        go_wp2_with fail
        go_ret
        exact ⟨ret_bool H.out, HX.out.alloc _⟩
      | true =>
      have H := Lib.hid (YES.out (by rw [HE.out]; rfl))
      go_wp2_with fail
      go_roundw
      case rel => exact ⟨k + 1, by omega, by rw [HS.out], by go_num, H, HX.out.alloc _⟩
      case measure => simp [intOf]; omega
    · obtain rfl : k = n := by omega
      have H := Lib.hid (show true = traitsB T by rw [traitsB, ← HN.out]; exact hall.out.symm)
      have HX := Lib.hid X
      clear X
      go_wp2_with fail
      go_ret
      exact ⟨ret_bool H.out, HX.out⟩

/-- Of numbers that are small enough. -/
theorem part_ok {a b c q : Int} (hm : mayB a b c = true) (hq : a * b / c = q) (hf : fitB q = true) (w : World) : Calls Try.prog 67 #[.int .i64 a, .int .i64 b, .int .i64 c] w (Ret w (.int .i64 q)) := by
  have F := Lib.hid (fun w => floor_ok hm hq hf w)
  clear hm hq hf
  go_enter Try.func67, Try.ntmps67
  go_wp2_with fail
  refine (F.out _).mono ?_; rintro e w1 ⟨rfl, x1⟩
  go_wp2_with fail
  go_ret
  exact ⟨rfl, x1⟩
end L09
end Go.Proofs.Ytpkmpbpifbpomaa

