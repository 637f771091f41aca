/- Contracts of layer 5's Least, of slices.Index at costs, and of the document's own. -/
import Derived.Test.YticnkdabaebifaaCost05
import Derived.Test.YticnkdabaebifaaPairs
import Derived.Lib.QuietBelow
import Derived.BigQuiet
namespace Go.Proofs.Yticnkdabaebifaa
open Go.RowKit Go.Lib
namespace L05

/-- The first place below n at which b holds, or -1. -/
def firstF (b : Nat → Bool) : Nat → Int
  | 0 => -1
  | n + 1 => if firstF b n = -1 then (if b n then (n : Int) else -1) else firstF b n
theorem firstF_no (b : Nat → Bool) : ∀ n, (∀ i, i < n → b i = false) → firstF b n = -1
  | 0, _ => rfl
  | n + 1, h => by rw [firstF, firstF_no b n (fun i hi => h i (by omega)), h n (by omega)]; simp
theorem firstF_at (b : Nat → Bool) : ∀ (n j : Nat), j < n → b j = true → (∀ i, i < j → b i = false) → firstF b n = (j : Int)
  | 0, j, h, _, _ => absurd h (by omega)
  | n + 1, j, h, hb, hn => by
    by_cases e : j = n
    · subst e
      rw [firstF, firstF_no b j hn, hb]; simp
    · rw [firstF, firstF_at b n j (by omega) hb hn, if_neg (by omega)]
theorem firstF_congr (b c : Nat → Bool) : ∀ n, (∀ i, i < n → b i = c i) → firstF b n = firstF c n
  | 0, _ => rfl
  | n + 1, h => by rw [firstF, firstF, firstF_congr b c n (fun i hi => h i (by omega)), h n (by omega)]
theorem firstF_in (b : Nat → Bool) : ∀ n, firstF b n = -1 ∧ (∀ i, i < n → b i = false) ∨ ∃ j : Nat, firstF b n = (j : Int) ∧ j < n ∧ b j = true ∧ ∀ i, i < j → b i = false
  | 0 => .inl ⟨rfl, fun i hi => absurd hi (by omega)⟩
  | n + 1 => by
    rcases firstF_in b n with ⟨h, hn⟩ | ⟨j, h, hj, hb, hn⟩
    · cases e : b n with
      | false =>
        refine .inl ⟨by rw [firstF, h, e]; simp, fun i hi => ?_⟩
        by_cases k : i = n
        · rw [k]; exact e
        · exact hn i (by omega)
      | true => exact .inr ⟨n, by rw [firstF, h, e]; simp, by omega, e, hn⟩
    · exact .inr ⟨j, by rw [firstF, h, if_neg (by omega)], by omega, hb, hn⟩

def sameB (f : Nat → Int × Int) (u d : Int) (i : Nat) : Bool := decide ((f i).1 = u ∧ (f i).2 = d)

theorem index_any (A : Option Addr) (n c : Nat) (f : Nat → Int × Int) (u d : Int) (w : World) (hs : SeenP w A n f) (hn : n ≤ 1000000) :
    Calls Try.prog 18 #[.slice A n c, .agg #[.int .i64 u, .int .i64 d]] w (Ret w (.int .i64 (firstF (sameB f u d) n))) := by
  go_enter Try.func18, Try.ntmps18
  go_wp2_with fail
  have hs1 := hs.ext ((Ext.refl w).alloc (.cells #[.int .i64 u, .int .i64 d] 23))
  have k0 : (w.alloc (.cells #[.int .i64 u, .int .i64 d] 23)).cell? ⟨w.heap.size, 0, none⟩ = some (.int .i64 u) := by simp
  have k1 : (w.alloc (.cells #[.int .i64 u, .int .i64 d] 23)).cell? ⟨w.heap.size, 1, none⟩ = some (.int .i64 d) := by simp
  have X : Ext w (w.alloc (.cells #[.int .i64 u, .int .i64 d] 23)) := (Ext.refl _).alloc _
  generalize w.alloc (.cells #[.int .i64 u, .int .i64 d] 23) = W at *
  generalize w.heap.size = R at *
  clear hs
  go_loopw [8] (fun i wr => ∃ k : Nat, k ≤ n ∧ i = .int .i64 k ∧ Hid (∀ j, j < k → sameB f u d j = false) ∧ Ext W wr) (fun i _ => n - (intOf i).toNat)
  case atStart => exact ⟨0, by omega, rfl, fun j hj => absurd hj (by omega), Ext.refl _⟩
  case round =>
    obtain ⟨k, hk, rfl, ha, x⟩ := hrel
    by_cases hlt : k < n
    · obtain ⟨ad, rfl, h0, h1⟩ := (hs1.ext x).get hlt
      have g0 := x.at k0
      have g1 := x.at k1
      by_cases h : u = (f k).1 ∧ d = (f k).2
      · obtain ⟨rfl, rfl⟩ := h
        have NO : Hid (((k : Nat) : Int) = firstF (sameB f (f k).1 (f k).2) n) := (firstF_at _ n k hlt (by simp [sameB]) ha.out).symm
        clear ha
        generalize (f k).1 = p at *
        generalize (f k).2 = q at *
        go_wp2_with fail
        go_quiet (fail)
        go_wp2_with fail
        go_ret
        exact ⟨ret_int NO.out, (X.trans x).drewN _⟩
      · have NO : Hid (sameB f u d k = false) := decide_eq_false fun e => h ⟨e.1.symm, e.2.symm⟩
        generalize gp : (f k).1 = p at *
        generalize gq : (f k).2 = q at *
        clear gp gq
        by_cases e : u = p
        · subst e
          have e' : ¬ d = q := fun e => h ⟨rfl, e⟩
          clear h
          go_wp2_with fail
          go_quiet (fail)
          go_wp2_with fail
          go_roundw
          case rel =>
            refine ⟨k + 1, by omega, by go_num, (show Hid (∀ j, _) from fun j hj => ?_), (x.drewN _)⟩
            by_cases ej : j = k
            · subst ej; exact NO.out
            · exact ha.out j (by omega)
          case measure => simp [intOf]; omega
        · clear h
          go_wp2_with fail
          go_quiet (fail)
          go_wp2_with fail
          go_roundw
          case rel =>
            refine ⟨k + 1, by omega, by go_num, (show Hid (∀ j, _) from fun j hj => ?_), (x.drewN _)⟩
            by_cases ej : j = k
            · subst ej; exact NO.out
            · exact ha.out j (by omega)
          case measure => simp [intOf]; omega
    · obtain rfl : k = n := by omega
      have NO : Hid ((-1 : Int) = firstF (sameB f u d) k) := (firstF_no _ k ha.out).symm
      go_wp2_with fail
      go_ret
      exact ⟨ret_int NO.out, X.trans x⟩

/-- The least one of the first ones, as the program keeps it. -/
def minF (f : Nat → Int × Int) : Nat → Int × Int
  | 0 => (0, 0)
  | k + 1 => if k = 0 ∨ lessB (f k).1 (f k).2 (minF f k).1 (minF f k).2 = true then f k else minF f k
/-- None of the n is less than number i. -/
def leastB (f : Nat → Int × Int) (n i : Nat) : Bool := decide (∀ k, k < n → lessB (f k).1 (f k).2 (f i).1 (f i).2 = false)

theorem lessB_no {u d u' d' : Int} : lessB u d u' d' = false ↔ u' < u ∨ u = u' ∧ d' ≤ d := by
  rw [← Bool.not_eq_true, lessB_iff]; omega
theorem lessB_eq {a b : Int × Int} (h : lessB a.1 a.2 b.1 b.2 = false) (k : lessB b.1 b.2 a.1 a.2 = false) : a = b := by
  rw [lessB_no] at h k
  exact Prod.ext (by omega) (by omega)
theorem minF_at (f : Nat → Int × Int) : ∀ n, 0 < n → ∃ j, j < n ∧ minF f n = f j
  | 0, h => absurd h (by omega)
  | k + 1, _ => by
    rw [minF]
    split
    · exact ⟨k, by omega, rfl⟩
    · rename_i h
      obtain ⟨j, hj, e⟩ := minF_at f k (by omega)
      exact ⟨j, by omega, e⟩
theorem minF_le (f : Nat → Int × Int) : ∀ n i, i < n → lessB (f i).1 (f i).2 (minF f n).1 (minF f n).2 = false
  | 0, _, h => absurd h (by omega)
  | k + 1, i, h => by
    rw [minF]
    split
    · rename_i c
      by_cases e : i = k
      · subst e; rw [lessB_no]; omega
      · have := minF_le f k i (by omega)
        rcases c with c | c
        · omega
        · rw [lessB_iff] at c
          rw [lessB_no] at this ⊢
          omega
    · rename_i c
      by_cases e : i = k
      · subst e
        exact Bool.not_eq_true _ ▸ fun h => c (.inr h)
      · exact minF_le f k i (by omega)
theorem leastB_min (f : Nat → Int × Int) (n i : Nat) (hi : i < n) : sameB f (minF f n).1 (minF f n).2 i = leastB f n i := by
  rw [Bool.eq_iff_iff]
  simp only [sameB, leastB, decide_eq_true_eq]
  constructor
  · intro h k hk
    rw [h.1, h.2]
    exact minF_le f n k hk
  · intro h
    obtain ⟨j, hj, e⟩ := minF_at f n (by omega)
    have := lessB_eq (minF_le f n i hi) (by rw [e]; exact h j hj)
    rw [this]; exact ⟨rfl, rfl⟩

theorem least_any (A : Option Addr) (n c : Nat) (f : Nat → Int × Int) (w : World) (hs : SeenP w A n f) (hn : n ≤ 1000000) :
    Calls Try.prog 16 #[.slice A n c] w (Ret w (.int .i64 (firstF (leastB f n) n))) := by
  go_enter Try.func16, Try.ntmps16
  go_wp2_with fail
  have X : Ext w (w.alloc (.cells #[.int .i64 0, .int .i64 0] 23)) := (Ext.refl _).alloc _
  obtain ⟨k0, k1, f0, f1⟩ := ext_new (Ext.refl (w.alloc (.cells #[.int .i64 0, .int .i64 0] 23)))
  generalize w.alloc (.cells #[.int .i64 0, .int .i64 0] 23) = W at *
  have hR : w.heap.size ≤ w.heap.size := Nat.le_refl _
  generalize gR : w.heap.size = R at k0 k1 f0 f1 ⊢
  have HR : Hid (w.heap.size ≤ R) := by show _ ≤ _; omega
  clear hR gR
  go_loopw [9] (fun i wr => ∃ (k : Nat) (a b : Int), k ≤ n ∧ i = .int .i64 k ∧ Hid ((a, b) = minF f k) ∧ Ext w wr ∧ wr.cell? ⟨R, 0, none⟩ = some (.int .i64 a) ∧ wr.cell? ⟨R, 1, none⟩ = some (.int .i64 b) ∧ wr.frozen? ⟨R, 0, none⟩ = false ∧ wr.frozen? ⟨R, 1, none⟩ = false) (fun i _ => n - (intOf i).toNat)
  case atStart => exact ⟨0, 0, 0, by omega, rfl, rfl, X, k0, k1, f0, f1⟩
  case round =>
    clear k0 k1 f0 f1 X
    obtain ⟨k, a, b, hk, rfl, ha, x, k0, k1, f0, f1⟩ := hrel
    by_cases hlt : k < n
    · obtain ⟨ad, rfl, h0, h1⟩ := (hs.ext x).get hlt
      have NK : minF f (k + 1) = if k = 0 ∨ lessB (f k).1 (f k).2 a b = true then ((f k).1, (f k).2) else (a, b) := by
        rw [minF, ← ha.out]
      have NK := Lib.hid NK
      clear ha hs
      have hRl : R < wr.heap.size := block_lt_of_cell k0
      generalize (f k).1 = p at *
      generalize (f k).2 = q at *
      by_cases hz : k = 0
      · subst hz
        have NO : Hid ((p, q) = minF f (0 + 1)) := by have := NK.out; simp only [true_or, if_true] at this; exact this.symm
        have e3 := stored2 (u := .int .i64 p) (l := .int .i64 q) k0 k1
        have E3 := Lib.hid e3
        clear e3
        have h0' : wr.cell? ad = some (.int .i64 p) := h0
        have h1' : wr.cell? ⟨ad.block, ad.off + 1, none⟩ = some (.int .i64 q) := h1
        clear h0 h1
        go_wp2_with fail
        go_roundw
        case rel =>
          have y := (Ext.refl ((wr.setCell ⟨R, 0, none⟩ (.int .i64 p)).setCell ⟨R, 1, none⟩ (.int .i64 q))).alloc (.cells #[.int .i64 p, .int .i64 q] 23)
          exact ⟨_, p, q, hlt, by go_num, NO, (Ext.setCell (Ext.setCell x HR.out _) HR.out _).alloc _, y.at E3.out.1, y.at E3.out.2, y.fz E3.out.1 (by simpa using f0), y.fz E3.out.2 (by simpa using f1)⟩
        case measure => simp [intOf]; omega
      · have hzb : ((k : Int) == 0) = false := by simpa using hz
        cases hl : lessB p q a b with
        | true =>
          have NO : Hid ((p, q) = minF f (k + 1)) := by have := NK.out; rw [hl, if_pos (.inr rfl)] at this; exact this.symm
          go_wp2_with fail
          refine (less_is hl _).mono ?_; rintro e w2 ⟨rfl, x2⟩
          have z2 : Ext wr w2 := ((Ext.refl _).alloc _).trans x2
          obtain ⟨n0, n1, _, _⟩ := ext_new x2
          have j0 := z2.at k0
          have j1 := z2.at k1
          have d0 := z2.fz k0 f0
          have d1 := z2.fz k1 f1
          have y2 := x.trans z2
          have e3 := stored2 (u := .int .i64 p) (l := .int .i64 q) j0 j1
          go_wp2_with fail
          go_roundw
          case rel =>
            refine ⟨_, p, q, hlt, by go_num, NO, ?_, e3.1, e3.2, (by simpa using d0), (by simpa using d1)⟩
            exact Ext.setCell (Ext.setCell y2 HR.out _) HR.out _
          case measure => simp [intOf]; omega
        | false =>
          have NO : Hid ((a, b) = minF f (k + 1)) := by have := NK.out; rw [hl, if_neg (by simpa using hz)] at this; exact this.symm
          go_wp2_with fail
          refine (less_is hl _).mono ?_; rintro e w2 ⟨rfl, x2⟩
          have z2 : Ext wr w2 := ((Ext.refl _).alloc _).trans x2
          have j0 := z2.at k0
          have j1 := z2.at k1
          have d0 := z2.fz k0 f0
          have d1 := z2.fz k1 f1
          go_wp2_with fail
          go_roundw
          case rel => exact ⟨_, a, b, hlt, by go_num, NO, x.trans z2, j0, j1, d0, d1⟩
          case measure => simp [intOf]; omega
    · obtain rfl : k = n := by omega
      have IX := index_any A k c f a b wr (hs.ext x) hn
      have NO : Hid (firstF (sameB f a b) k = firstF (leastB f k) k) := by
        have e1 : a = (minF f k).1 := by rw [← ha.out]
        have e2 : b = (minF f k).2 := by rw [← ha.out]
        show _ = _
        rw [e1, e2]
        exact firstF_congr _ _ k fun i hi => leastB_min f k i hi
      clear ha hs
      go_wp2_with fail
      refine IX.mono ?_; rintro e w2 ⟨rfl, x2⟩
      go_wp2_with fail
      go_ret
      exact ⟨ret_int NO.out, x.trans x2⟩

/-- None of the first k is less than number i. -/
def noneB (f : Nat → Int × Int) (i k : Nat) : Bool := decide (∀ m, m < k → lessB (f m).1 (f m).2 (f i).1 (f i).2 = false)
theorem noneB_succ (f : Nat → Int × Int) (i k : Nat) : noneB f i (k + 1) = (noneB f i k && !lessB (f k).1 (f k).2 (f i).1 (f i).2) := by
  rw [Bool.eq_iff_iff]
  simp only [noneB, decide_eq_true_eq, Bool.and_eq_true, Bool.not_eq_true']
  constructor
  · exact fun h => ⟨fun m hm => h m (by omega), h k (by omega)⟩
  · rintro ⟨h, e⟩ m hm
    by_cases c : m = k
    · subst c; exact e
    · exact h m (by omega)

theorem rless_is {u d u' d' : Int} {b : Bool} (h : lessB u d u' d' = b) (w : World) : Calls Try.prog 15 #[.agg #[.int .i64 u, .int .i64 d], .agg #[.int .i64 u', .int .i64 d']] w (Ret w (.bool b)) := h ▸ rless_any u d u' d' w
theorem leastB_of {f : Nat → Int × Int} {i n : Nat} {b : Bool} (h : b = noneB f i n) : leastB f n i = b := h.symm

theorem rleast_any (A : Option Addr) (n c : Nat) (f : Nat → Int × Int) (w : World) (hs : SeenP w A n f) (hn : n ≤ 1000000) :
    Calls Try.prog 17 #[.slice A n c] w (Ret w (.int .i64 (firstF (leastB f n) n))) := by
  go_enter Try.func17, Try.ntmps17
  go_wp2_with fail
  go_loopw [3] (fun i wr => ∃ (k : Nat), k ≤ n ∧ i = .int .i64 k ∧ Hid (∀ j, j < k → leastB f n j = false) ∧ Ext w wr) (fun i _ => n - (intOf i).toNat)
  case atStart => exact ⟨0, by omega, rfl, fun j hj => absurd hj (by omega), Ext.refl _⟩
  case round =>
    obtain ⟨i, hi, rfl, ha, x⟩ := hrel
    by_cases hlt : i < n
    · go_wp2_with fail
      go_loopw [4, 5] (fun b k wr => ∃ (k' : Nat) (b' : Bool), k' ≤ n ∧ k = .int .i64 k' ∧ b = .bool b' ∧ Hid (b' = noneB f i k') ∧ Ext w wr) (fun _ k _ => n - (intOf k).toNat)
      case atStart => exact ⟨0, true, by omega, rfl, rfl, by show _ = _; simp [noneB], x⟩
      case round =>
        rename_i wr'
        obtain ⟨k, b, hk, rfl, rfl, hb, y⟩ := hrel
        by_cases hlk : k < n
        · obtain ⟨ad, rfl, h0, h1⟩ := (hs.ext y).get hlk
          obtain ⟨ad', e, h2, h3⟩ := (hs.ext y).get hlt
          obtain rfl : ad = ad' := by simpa using e
          have g0 := cell_regrown h0
          have g1 := cell_regrown h1
          have g2 := cell_regrown h2
          have g3 := cell_regrown h3
          have SU := noneB_succ f i k
          rw [← hb.out] at SU
          have SU := Lib.hid SU
          clear h0 h1 h2 h3 hb hs e
          generalize (f k).1 = p at *
          generalize (f k).2 = q at *
          generalize (f i).1 = p' at *
          generalize (f i).2 = q' at *
          cases hl : lessB p q p' q' <;> cases b
          · have NB : Hid (false = noneB f i (k + 1)) := by have := SU.out; rw [hl] at this; exact this.symm
            go_wp2_with fail
            refine wp_region_quiet_below (by kernel_rfl) (by kernel_rfl) ?_
            repeat (go_big_quiet_step (exact Calls.regrown_of (rless_is hl _)))
            refine wpQuiet_nil ?_
            intro _ hw'
            obtain ⟨⟨dq, osq⟩, hw''⟩ := hw'
            subst hw''
            clear g0 g1 g2 g3
            go_wp2_with fail
            go_roundw
            case rel => exact ⟨k + 1, _, by omega, by go_num, rfl, NB, y.trans (below_regrown _ _ _)⟩
            case measure => simp [intOf]; omega
          · have NB : Hid (true = noneB f i (k + 1)) := by have := SU.out; rw [hl] at this; exact this.symm
            go_wp2_with fail
            refine wp_region_quiet_below (by kernel_rfl) (by kernel_rfl) ?_
            repeat (go_big_quiet_step (exact Calls.regrown_of (rless_is hl _)))
            refine wpQuiet_nil ?_
            intro _ hw'
            obtain ⟨⟨dq, osq⟩, hw''⟩ := hw'
            subst hw''
            clear g0 g1 g2 g3
            go_wp2_with fail
            go_roundw
            case rel => exact ⟨k + 1, _, by omega, by go_num, rfl, NB, y.trans (below_regrown _ _ _)⟩
            case measure => simp [intOf]; omega
          · have NB : Hid (false = noneB f i (k + 1)) := by have := SU.out; rw [hl] at this; exact this.symm
            go_wp2_with fail
            refine wp_region_quiet_below (by kernel_rfl) (by kernel_rfl) ?_
            repeat (go_big_quiet_step (exact Calls.regrown_of (rless_is hl _)))
            refine wpQuiet_nil ?_
            intro _ hw'
            obtain ⟨⟨dq, osq⟩, hw''⟩ := hw'
            subst hw''
            clear g0 g1 g2 g3
            go_wp2_with fail
            go_roundw
            case rel => exact ⟨k + 1, _, by omega, by go_num, rfl, NB, y.trans (below_regrown _ _ _)⟩
            case measure => simp [intOf]; omega
          · have NB : Hid (false = noneB f i (k + 1)) := by have := SU.out; rw [hl] at this; exact this.symm
            go_wp2_with fail
            refine wp_region_quiet_below (by kernel_rfl) (by kernel_rfl) ?_
            repeat (go_big_quiet_step (exact Calls.regrown_of (rless_is hl _)))
            refine wpQuiet_nil ?_
            intro _ hw'
            obtain ⟨⟨dq, osq⟩, hw''⟩ := hw'
            subst hw''
            clear g0 g1 g2 g3
            go_wp2_with fail
            go_roundw
            case rel => exact ⟨k + 1, _, by omega, by go_num, rfl, NB, y.trans (below_regrown _ _ _)⟩
            case measure => simp [intOf]; omega
        · obtain rfl : k = n := by omega
          have LB := leastB_of hb.out
          clear hb
          cases b with
          | true =>
            have NO : Hid ((i : Int) = firstF (leastB f k) k) := (firstF_at _ k i hlt LB ha.out).symm
            clear LB
            go_wp2_with fail
            go_ret
            exact ⟨ret_int NO.out, y⟩
          | false =>
            have LB := Lib.hid LB
            go_wp2_with fail
            go_roundw
            case rel =>
              refine ⟨i + 1, by omega, by go_num, (show Hid (∀ j, _) from fun j hj => ?_), y⟩
              by_cases ej : j = i
              · subst ej; exact LB.out
              · exact ha.out j (by omega)
            case measure => simp [intOf]; omega
    · obtain rfl : i = n := by omega
      have NO : Hid ((-1 : Int) = firstF (leastB f i) i) := (firstF_no _ i ha.out).symm
      go_wp2_with fail
      go_ret
      exact ⟨ret_int NO.out, x⟩
end L05
end Go.Proofs.Yticnkdabaebifaa

