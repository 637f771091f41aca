/- What a font that may be has: its bounds. -/
import Derived.Test.YtggedodfkjdegaaRefChk07
namespace Go.Proofs.Ytggedodfkjdegaa
open Go.RowKit
namespace L07

structure FontIn (D : FontD) : Prop where
  sum : 0 ≤ D.sum ∧ D.sum < 4294967296
  design : 1048576 ≤ D.design ∧ D.design ≤ 2147483647
  first : 0 ≤ D.first ∧ D.first < 256
  nc : 1 ≤ (D.nc : Int) ∧ (D.nc : Int) ≤ 256 - D.first
  nw : 1 ≤ D.nw ∧ D.nw ≤ 256
  nh : 1 ≤ D.nh ∧ D.nh ≤ 16
  nd : 1 ≤ D.nd ∧ D.nd ≤ 16
  ni : 1 ≤ D.ni ∧ D.ni ≤ 64
  ns : D.ns ≤ 256
  nk : D.nk ≤ 256
  np : D.np ≤ 30
  wd : ∀ j, j < D.nw → -16777216 ≤ D.wd j ∧ D.wd j ≤ 16777215
  hd : ∀ j, j < D.nh → -16777216 ≤ D.hd j ∧ D.hd j ≤ 16777215
  dd : ∀ j, j < D.nd → -16777216 ≤ D.dd j ∧ D.dd j ≤ 16777215
  id : ∀ j, j < D.ni → -16777216 ≤ D.id j ∧ D.id j ≤ 16777215
  kd : ∀ j, j < D.nk → -16777216 ≤ D.kd j ∧ D.kd j ≤ 16777215
  pd : ∀ j, j < D.np → -16777216 ≤ D.pd j ∧ D.pd j ≤ 16777215
  w0 : D.wd 0 = 0
  h0 : D.hd 0 = 0
  d0 : D.dd 0 = 0
  i0 : D.id 0 = 0
  chr : ∀ j, j < D.nc → (0 ≤ D.chr j 0 ∧ D.chr j 0 < D.nw) ∧ (0 ≤ D.chr j 1 ∧ D.chr j 1 < D.nh) ∧ (0 ≤ D.chr j 2 ∧ D.chr j 2 < D.nd) ∧ (0 ≤ D.chr j 3 ∧ D.chr j 3 < D.ni) ∧ ((D.chr j 4 = 0 ∧ D.chr j 5 = 0) ∨ (D.chr j 4 = 1 ∧ 0 ≤ D.chr j 5 ∧ D.chr j 5 < D.ns))
  stp : ∀ j, j < D.ns → (0 ≤ D.stp j 0 ∧ D.stp j 0 < 256) ∧ (0 ≤ D.stp j 1 ∧ D.stp j 1 < 256) ∧ (0 ≤ D.stp j 2 ∧ D.stp j 2 < 256) ∧ (0 ≤ D.stp j 3 ∧ D.stp j 3 < 256)

theorem fixes_in {n : Nat} {f : Nat → Int} {a b : Int} {t : Bool} (h : fixesB n f a b t = true) : (a ≤ n ∧ (n : Int) ≤ b) ∧ (t = true → f 0 = 0) ∧ ∀ j, j < n → -16777216 ≤ f j ∧ f j ≤ 16777215 := by
  simp only [fixesB, Bool.and_eq_true, decide_eq_true_eq, allB_iff] at h
  obtain ⟨h1, h2, h3⟩ := h
  refine ⟨h1, fun ht => ?_, fun j hj => by simpa [fixB] using h3 j hj⟩
  subst ht
  simp at h2
  exact h2.2
theorem check_in {D : FontD} (h : checkB D = true) : FontIn D := by
  simp only [checkB, headB, tabsB, Bool.and_eq_true, decide_eq_true_eq, allB_iff, inB] at h
  obtain ⟨⟨h1, h2, h3, h4, h5⟩, ⟨t0, t1, t2, t3, t4, t5⟩, hc, hs⟩ := h
  obtain ⟨a0, b0, c0⟩ := fixes_in t0
  obtain ⟨a1, b1, c1⟩ := fixes_in t1
  obtain ⟨a2, b2, c2⟩ := fixes_in t2
  obtain ⟨a3, b3, c3⟩ := fixes_in t3
  obtain ⟨a4, _, c4⟩ := fixes_in t4
  obtain ⟨a5, _, c5⟩ := fixes_in t5
  refine ⟨h1, h2, h3, h4, by omega, by omega, by omega, by omega, h5, by omega, by omega, c0, c1, c2, c3, c4, c5, b0 rfl, b1 rfl, b2 rfl, b3 rfl, fun j hj => ?_, fun j hj => ?_⟩
  · have := hc j hj
    simpa [chrB, inB, tagB] using this
  · have := hs j hj
    simpa [stpB, inB] using this
end L07
end Go.Proofs.Ytggedodfkjdegaa

