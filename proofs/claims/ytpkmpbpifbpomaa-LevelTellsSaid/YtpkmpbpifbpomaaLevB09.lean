/- The landed levels of layer 9: a character's trait, and its width. -/
import Derived.Test.YtpkmpbpifbpomaaLevA09
namespace Go.Proofs.Ytpkmpbpifbpomaa
open Go.RowKit
namespace L09
open L02 L07

/-- The first trait of a code. -/
def atT (T : FaceT) (code : Int) : Option Nat := (List.range T.nt).find? (fun k => T.trt k 0 == code)
theorem at_hit {T : FaceT} {code : Int} {k : Nat} (hk : k < T.nt) (hb : ∀ j, j < k → T.trt j 0 ≠ code) (h : T.trt k 0 = code) : atT T code = some k := by
  rw [atT, List.find?_range_eq_some]
  exact ⟨by simpa using h, by simpa using hk, fun j hj => by simpa using hb j hj⟩
theorem at_none {T : FaceT} {code : Int} (hb : ∀ j, j < T.nt → T.trt j 0 ≠ code) : atT T code = none := by
  rw [atT, List.find?_range_eq_none]
  exact fun j hj => by simpa using hb j hj
theorem at_some {T : FaceT} {code : Int} {k : Nat} (h : atT T code = some k) : k < T.nt ∧ T.trt k 0 = code := by
  rw [atT, List.find?_range_eq_some] at h
  obtain ⟨h1, h2, _⟩ := h
  exact ⟨by simpa using h2, by simpa using h1⟩
/-- Its place, or -1. -/
def idxT (T : FaceT) (code : Int) : Int := match atT T code with
  | some k => k
  | none => -1
/-- A character's trait: its code, Stretch, Left, Right. -/
def trV (T : FaceT) (code : Int) (j : Nat) : Int := match atT T code with
  | some k => T.trt k j
  | none => if j = 0 then code else if j = 1 then 1000 else 0

theorem isit_any (p : Nat) (code z0 z1 z2 z3 : Int) (w : World) (hc : w.cell? ⟨p, 0, none⟩ = some (.int .i64 code)) :
    Calls Try.prog 97 #[.agg #[.int .i64 z0, .int .i64 z1, .int .i64 z2, .int .i64 z3], .pointer (some ⟨p, 0, none⟩)] w (Ret w (.bool (z0 == code))) := by
  have hlt := World.block_lt_of_cell? w _ hc
  simp only at hlt
  go_enter Try.func97, Try.ntmps97
  go_wp2_with fail
  go_ret
  exact ⟨rfl, (Ext.refl _).alloc _⟩

set_option maxRecDepth 100000 in
set_option maxHeartbeats 4000000 in
theorem index_any (T : FaceT) (Q : FaceQ) (code : Int) (p : Nat) (w : World) (rt : T.nt ≤ Q.zt ∧ Q.zt ≤ maxLen) (ot : SeenN 4 w Q.xt T.nt T.trt) (hc : w.cell? ⟨p, 0, none⟩ = some (.int .i64 code)) :
    Calls Try.prog 96 #[.slice Q.xt T.nt Q.zt, .func (.func 97) #[] #[.pointer (some ⟨p, 0, none⟩)]] w (Ret w (.int .i64 (idxT T code))) := by
  have hm : T.nt ≤ 9223372036854775807 := by have := rt.1; have := rt.2; unfold maxLen at *; omega
  clear rt
  obtain ⟨n, hn⟩ : ∃ n, n = T.nt := ⟨_, rfl⟩
  have HN := Lib.hid hn
  have OT := Lib.hid ot
  rw [← hn] at hm ⊢
  clear hn ot
  obtain ⟨xt, zt⟩ := Q
  simp only at OT ⊢
  go_enter Try.func96, Try.ntmps96
  go_wp2_with fail
  go_loopw [8] (fun i wr => ∃ k : Nat, k ≤ n ∧ i = .int .i64 k ∧ Hid (∀ j, j < k → T.trt j 0 ≠ code) ∧ Ext w wr) (fun i _ => n - (intOf i).toNat)
  case atStart => exact ⟨0, by omega, rfl, Lib.hid (fun j hj => absurd hj (by omega)), Ext.refl _⟩
  case round =>
    obtain ⟨k, hk, rfl, hall, X⟩ := hrel
    by_cases hlt : k < n
    · have hltT : k < T.nt := by rw [← HN.out]; exact hlt
      obtain ⟨ad, hA, u0, u1, u2, u3⟩ := row4 (OT.out.ext X) hltT
      have HX := Lib.hid X
      have hc := X.at hc
      have YES := Lib.hid (fun h : T.trt k 0 = code => show (k : Int) = idxT T code by rw [idxT, at_hit hltT hall.out h])
      have NO := Lib.hid (fun h : T.trt k 0 ≠ code => show ∀ j, j < k + 1 → T.trt j 0 ≠ code from fun j hj => if e : j = k then e ▸ h else hall.out j (by omega))
      have C := Lib.hid (isit_any p code (T.trt k 0) (T.trt k 1) (T.trt k 2) (T.trt k 3) wr hc)
      clear X
      generalize T.trt k 0 = z0 at *
      generalize T.trt k 1 = z1 at *
      generalize T.trt k 2 = z2 at *
      generalize T.trt k 3 = z3 at *
      subst hA
      go_wp2_with fail
      refine C.out.mono ?_; rintro e w' ⟨rfl, x1⟩
      by_cases h : z0 = code
      · have H := Lib.hid (YES.out h)
        have hb : (z0 == code) = true := by simpa using h
        rw [hb]
        clear h hb hc C u0 u1 u2 u3
        go_wp2_with fail
        go_ret
        exact ⟨ret_int H.out, HX.out.trans x1⟩
      · have H := Lib.hid (NO.out h)
        have hb : (z0 == code) = false := by simpa using h
        rw [hb]
        clear h hb hc C u0 u1 u2 u3
        go_wp2_with fail
        go_roundw
        case rel => exact ⟨k + 1, by omega, by go_num, H, HX.out.trans x1⟩
        case measure => simp [intOf]; omega
    · obtain rfl : k = n := by omega
      have H := Lib.hid (show -1 = idxT T code by rw [idxT, at_none (by rw [← HN.out]; exact hall.out)])
      have HX := Lib.hid X
      clear X hc
      go_wp2_with fail
      go_ret
      exact ⟨ret_int H.out, HX.out⟩
end L09
end Go.Proofs.Ytpkmpbpifbpomaa

