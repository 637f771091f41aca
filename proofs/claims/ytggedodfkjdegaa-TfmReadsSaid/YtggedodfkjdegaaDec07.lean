/- The font that bytes tell of; two fonts that are the same may both be, and have the same bytes. -/
import Derived.Test.YtggedodfkjdegaaInj07
namespace Go.Proofs.Ytggedodfkjdegaa
open Go.RowKit
namespace L07
open L06

/-- Where a sequence of equally long lists stands within a list. -/
theorem catB_split {g : Nat → List UInt8} {k : Nat} (hg : ∀ j, (g j).length = k) : ∀ (n j : Nat), j < n → ∃ a b, catB g n = a ++ (g j ++ b) ∧ a.length = k * j
  | 0, j, hj => by omega
  | n + 1, j, hj => by
    by_cases e : j = n
    · subst e
      exact ⟨catB g j, [], by simp [catB], catB_length hg j⟩
    · obtain ⟨a, b, h1, h2⟩ := catB_split hg n j (by omega)
      exact ⟨a, b ++ g n, by rw [catB, h1]; simp, h2⟩
theorem cut_mid (a g b : List UInt8) (n k : Nat) (hn : a.length = n) (hk : g.length = k) : ((a ++ (g ++ b)).drop n).take k = g := by
  subst hn hk
  rw [List.drop_left, List.take_left]
theorem seg {g : Nat → List UInt8} {k n j : Nat} (hg : ∀ j, (g j).length = k) (hj : j < n) (p r : List UInt8) (m : Nat) (hm : m = p.length + k * j) : ((p ++ (catB g n ++ r)).drop m).take k = g j := by
  obtain ⟨a, b, h1, h2⟩ := catB_split hg n j hj
  rw [h1, show p ++ (a ++ (g j ++ b) ++ r) = (p ++ a) ++ (g j ++ (b ++ r)) by simp]
  exact cut_mid _ _ _ _ _ (by rw [List.length_append, h2, hm]) (hg j)

/-- The number of the two bytes at a place of halves; of the four at a place of words; as a fix; a byte of a word. -/
def half (l : List UInt8) (j : Nat) : Int := num ((l.drop (2 * j)).take 2)
def word4 (l : List UInt8) (k : Nat) : Int := num ((l.drop (4 * k)).take 4)
def fixA (l : List UInt8) (k : Nat) : Int := down32 (word4 l k)
def byteA (l : List UInt8) (k i : Nat) : Int := (((l.drop (4 * k)).take 4).getD i 0).toNat
/-- The font that bytes tell of; u: how the number of Design is read. -/
def decD (u : Int → Int) (l : List UInt8) : FontD where
  sum := word4 l 6
  design := u (word4 l 7)
  first := half l 2
  nc := (half l 3 - half l 2 + 1).toNat
  chr := fun k j => match j with
    | 0 => byteA l (8 + k) 0
    | 1 => byteA l (8 + k) 1 / 16
    | 2 => byteA l (8 + k) 1 % 16
    | 3 => byteA l (8 + k) 2 / 4
    | 4 => byteA l (8 + k) 2 % 4
    | _ => byteA l (8 + k) 3
  nw := (half l 4).toNat
  wd := fun j => fixA l (8 + (half l 3 - half l 2 + 1).toNat + j)
  nh := (half l 5).toNat
  hd := fun j => fixA l (8 + (half l 3 - half l 2 + 1).toNat + (half l 4).toNat + j)
  nd := (half l 6).toNat
  dd := fun j => fixA l (8 + (half l 3 - half l 2 + 1).toNat + (half l 4).toNat + (half l 5).toNat + j)
  ni := (half l 7).toNat
  id := fun j => fixA l (8 + (half l 3 - half l 2 + 1).toNat + (half l 4).toNat + (half l 5).toNat + (half l 6).toNat + j)
  ns := (half l 8).toNat
  stp := fun k j => byteA l (8 + (half l 3 - half l 2 + 1).toNat + (half l 4).toNat + (half l 5).toNat + (half l 6).toNat + (half l 7).toNat + k) j
  nk := (half l 9).toNat
  kd := fun j => fixA l (8 + (half l 3 - half l 2 + 1).toNat + (half l 4).toNat + (half l 5).toNat + (half l 6).toNat + (half l 7).toNat + (half l 8).toNat + j)
  np := (half l 11).toNat
  pd := fun j => fixA l (8 + (half l 3 - half l 2 + 1).toNat + (half l 4).toNat + (half l 5).toNat + (half l 6).toNat + (half l 7).toNat + (half l 8).toNat + (half l 9).toNat + j)

theorem num_two {x : Int} (h : 0 ≤ x ∧ x < 65536) : (num (twoW x) : Int) = x := by
  have h1 := b8_int (x / 256)
  have h2 := b8_int x
  have e : num (twoW x) = 256 * (256 * 0 + (b8 (x / 256)).toNat) + (b8 x).toNat := rfl
  rw [e]
  omega
theorem num_four' {x : Int} (h : 0 ≤ x ∧ x < 4294967296) : (num (fourW x) : Int) = x := by
  rw [fourW, if_neg (by omega), num_be _ _ (by omega)]; omega
theorem num_fix {x : Int} (h : -16777216 ≤ x ∧ x ≤ 16777215) : down32 (num (fourW x) : Int) = x := by
  rw [fourW]
  split
  · rw [num_be _ _ (by omega)]; unfold down32; split <;> omega
  · rw [num_be _ _ (by omega)]; unfold down32; split <;> omega
theorem b8_nat {x : Int} (h : 0 ≤ x ∧ x < 256) : ((b8 x).toNat : Int) = x := by rw [b8_int]; omega

theorem half_at (D : FontD) (I : FontIn D) (j : Nat) (hj : j < 12) : half (writeB D) j = headN D j := by
  have := seg (g := fun j => twoW (headN D j)) (k := 2) (fun _ => rfl) hj [] (bodyW D) (2 * j) (by simp)
  rw [List.nil_append] at this
  rw [half, writeB, this]
  exact num_two (head_le D I j hj)

set_option maxHeartbeats 1000000 in
theorem dec_same (u : Int → Int) (hu : ∀ n, 0 ≤ n → n ≤ 2147483647 → u n = n) (D : FontD) (h : checkB D = true) : sameFontB D (decD u (writeB D)) = true := by
  have I := check_in h
  have H := fun j hj => half_at D I j hj
  have e2 : half (writeB D) 2 = D.first := H 2 (by omega)
  have e3 : half (writeB D) 3 = D.first + D.nc - 1 := H 3 (by omega)
  have e4 : half (writeB D) 4 = D.nw := H 4 (by omega)
  have e5 : half (writeB D) 5 = D.nh := H 5 (by omega)
  have e6 : half (writeB D) 6 = D.nd := H 6 (by omega)
  have e7 : half (writeB D) 7 = D.ni := H 7 (by omega)
  have e8 : half (writeB D) 8 = D.ns := H 8 (by omega)
  have e9 : half (writeB D) 9 = D.nk := H 9 (by omega)
  have e11 : half (writeB D) 11 = D.np := H 11 (by omega)
  have ec : (half (writeB D) 3 - half (writeB D) 2 + 1).toNat = D.nc := by rw [e2, e3]; omega
  have l2 : ∀ n, (catB (fun j => twoW (headN D j)) n).length = 2 * n := fun n => catB_length (k := 2) (fun _ => rfl) n
  have lc : ∀ n, (catB (chrW D) n).length = 4 * n := fun n => catB_length (k := 4) (fun _ => rfl) n
  have ls : ∀ n, (catB (stpW D) n).length = 4 * n := fun n => catB_length (k := 4) (fun _ => rfl) n
  have a0 : ((writeB D).drop (4 * 6)).take 4 = fourW D.sum := by
    have := seg (g := fun _ => fourW D.sum) (k := 4) (j := 0) (n := 1) (fun _ => fourW_length _) (by omega) (catB (fun j => twoW (headN D j)) 12) (fourW D.design ++ (catB (chrW D) D.nc ++ (allW D.wd D.nw ++ (allW D.hd D.nh ++ (allW D.dd D.nd ++ (allW D.id D.ni ++ (catB (stpW D) D.ns ++ (allW D.kd D.nk ++ allW D.pd D.np)))))))) (4 * 6) (by rw [l2])
    simpa [writeB, bodyW, catB] using this
  have a1 : ((writeB D).drop (4 * 7)).take 4 = fourW D.design := by
    have := seg (g := fun _ => fourW D.design) (k := 4) (j := 0) (n := 1) (fun _ => fourW_length _) (by omega) (catB (fun j => twoW (headN D j)) 12 ++ fourW D.sum) (catB (chrW D) D.nc ++ (allW D.wd D.nw ++ (allW D.hd D.nh ++ (allW D.dd D.nd ++ (allW D.id D.ni ++ (catB (stpW D) D.ns ++ (allW D.kd D.nk ++ allW D.pd D.np))))))) (4 * 7) (by rw [List.length_append, l2, fourW_length])
    simpa [writeB, bodyW, catB] using this
  have ac : ∀ k, k < D.nc → ((writeB D).drop (4 * (8 + k))).take 4 = chrW D k := fun k hk => by
    have := seg (g := chrW D) (k := 4) (fun _ => rfl) hk (catB (fun j => twoW (headN D j)) 12 ++ (fourW D.sum ++ fourW D.design)) (allW D.wd D.nw ++ (allW D.hd D.nh ++ (allW D.dd D.nd ++ (allW D.id D.ni ++ (catB (stpW D) D.ns ++ (allW D.kd D.nk ++ allW D.pd D.np)))))) (4 * (8 + k)) (by simp only [List.length_append, l2, fourW_length]; omega)
    rw [writeB, bodyW, ← this]
    simp only [List.append_assoc]
  have aw : ∀ j, j < D.nw → ((writeB D).drop (4 * (8 + D.nc + j))).take 4 = fourW (D.wd j) := fun j hj => by
    have := seg (g := fun j => fourW (D.wd j)) (k := 4) (fun _ => fourW_length _) hj (catB (fun j => twoW (headN D j)) 12 ++ (fourW D.sum ++ (fourW D.design ++ catB (chrW D) D.nc))) (allW D.hd D.nh ++ (allW D.dd D.nd ++ (allW D.id D.ni ++ (catB (stpW D) D.ns ++ (allW D.kd D.nk ++ allW D.pd D.np))))) (4 * (8 + D.nc + j)) (by simp only [List.length_append, l2, lc, fourW_length]; omega)
    rw [writeB, bodyW, ← this, allW]
    simp only [List.append_assoc]
  have ah : ∀ j, j < D.nh → ((writeB D).drop (4 * (8 + D.nc + D.nw + j))).take 4 = fourW (D.hd j) := fun j hj => by
    have := seg (g := fun j => fourW (D.hd j)) (k := 4) (fun _ => fourW_length _) hj (catB (fun j => twoW (headN D j)) 12 ++ (fourW D.sum ++ (fourW D.design ++ (catB (chrW D) D.nc ++ allW D.wd D.nw)))) (allW D.dd D.nd ++ (allW D.id D.ni ++ (catB (stpW D) D.ns ++ (allW D.kd D.nk ++ allW D.pd D.np)))) (4 * (8 + D.nc + D.nw + j)) (by simp only [List.length_append, l2, lc, fourW_length, allW_length]; omega)
    rw [writeB, bodyW, ← this, allW, allW]
    simp only [List.append_assoc]
  have ad : ∀ j, j < D.nd → ((writeB D).drop (4 * (8 + D.nc + D.nw + D.nh + j))).take 4 = fourW (D.dd j) := fun j hj => by
    have := seg (g := fun j => fourW (D.dd j)) (k := 4) (fun _ => fourW_length _) hj (catB (fun j => twoW (headN D j)) 12 ++ (fourW D.sum ++ (fourW D.design ++ (catB (chrW D) D.nc ++ (allW D.wd D.nw ++ allW D.hd D.nh))))) (allW D.id D.ni ++ (catB (stpW D) D.ns ++ (allW D.kd D.nk ++ allW D.pd D.np))) (4 * (8 + D.nc + D.nw + D.nh + j)) (by simp only [List.length_append, l2, lc, fourW_length, allW_length]; omega)
    rw [writeB, bodyW, ← this, allW, allW, allW]
    simp only [List.append_assoc]
  have ai : ∀ j, j < D.ni → ((writeB D).drop (4 * (8 + D.nc + D.nw + D.nh + D.nd + j))).take 4 = fourW (D.id j) := fun j hj => by
    have := seg (g := fun j => fourW (D.id j)) (k := 4) (fun _ => fourW_length _) hj (catB (fun j => twoW (headN D j)) 12 ++ (fourW D.sum ++ (fourW D.design ++ (catB (chrW D) D.nc ++ (allW D.wd D.nw ++ (allW D.hd D.nh ++ allW D.dd D.nd)))))) (catB (stpW D) D.ns ++ (allW D.kd D.nk ++ allW D.pd D.np)) (4 * (8 + D.nc + D.nw + D.nh + D.nd + j)) (by simp only [List.length_append, l2, lc, fourW_length, allW_length]; omega)
    rw [writeB, bodyW, ← this, allW, allW, allW, allW]
    simp only [List.append_assoc]
  have ast : ∀ k, k < D.ns → ((writeB D).drop (4 * (8 + D.nc + D.nw + D.nh + D.nd + D.ni + k))).take 4 = stpW D k := fun k hk => by
    have := seg (g := stpW D) (k := 4) (fun _ => rfl) hk (catB (fun j => twoW (headN D j)) 12 ++ (fourW D.sum ++ (fourW D.design ++ (catB (chrW D) D.nc ++ (allW D.wd D.nw ++ (allW D.hd D.nh ++ (allW D.dd D.nd ++ allW D.id D.ni))))))) (allW D.kd D.nk ++ allW D.pd D.np) (4 * (8 + D.nc + D.nw + D.nh + D.nd + D.ni + k)) (by simp only [List.length_append, l2, lc, fourW_length, allW_length]; omega)
    rw [writeB, bodyW, ← this]
    simp only [List.append_assoc]
  have ak : ∀ j, j < D.nk → ((writeB D).drop (4 * (8 + D.nc + D.nw + D.nh + D.nd + D.ni + D.ns + j))).take 4 = fourW (D.kd j) := fun j hj => by
    have := seg (g := fun j => fourW (D.kd j)) (k := 4) (fun _ => fourW_length _) hj (catB (fun j => twoW (headN D j)) 12 ++ (fourW D.sum ++ (fourW D.design ++ (catB (chrW D) D.nc ++ (allW D.wd D.nw ++ (allW D.hd D.nh ++ (allW D.dd D.nd ++ (allW D.id D.ni ++ catB (stpW D) D.ns)))))))) (allW D.pd D.np) (4 * (8 + D.nc + D.nw + D.nh + D.nd + D.ni + D.ns + j)) (by simp only [List.length_append, l2, lc, ls, fourW_length, allW_length]; omega)
    rw [writeB, bodyW, ← this]
    simp only [List.append_assoc, allW]
  have ap : ∀ j, j < D.np → ((writeB D).drop (4 * (8 + D.nc + D.nw + D.nh + D.nd + D.ni + D.ns + D.nk + j))).take 4 = fourW (D.pd j) := fun j hj => by
    have := seg (g := fun j => fourW (D.pd j)) (k := 4) (fun _ => fourW_length _) hj (catB (fun j => twoW (headN D j)) 12 ++ (fourW D.sum ++ (fourW D.design ++ (catB (chrW D) D.nc ++ (allW D.wd D.nw ++ (allW D.hd D.nh ++ (allW D.dd D.nd ++ (allW D.id D.ni ++ (catB (stpW D) D.ns ++ allW D.kd D.nk))))))))) [] (4 * (8 + D.nc + D.nw + D.nh + D.nd + D.ni + D.ns + D.nk + j)) (by simp only [List.length_append, l2, lc, ls, fourW_length, allW_length]; omega)
    rw [writeB, bodyW, ← this]
    simp only [List.append_assoc, allW, List.append_nil]
  have i1 := I.nw; have i2 := I.nh; have i3 := I.nd; have i4 := I.ni; have i7 := I.ns
  unfold sameFontB decD
  rw [ec]
  simp only [e2, e4, e5, e6, e7, e8, e9, e11, Int.toNat_natCast]
  have s0 : D.sum = word4 (writeB D) 6 := by rw [word4, a0, num_four' I.sum]
  have s1 : D.design = u (word4 (writeB D) 7) := by
    have := I.design
    rw [word4, a1, num_four' (by omega), hu _ (by omega) (by omega)]
  have rc : rowsB 6 D.nc D.chr (fun k j => match j with
    | 0 => byteA (writeB D) (8 + k) 0
    | 1 => byteA (writeB D) (8 + k) 1 / 16
    | 2 => byteA (writeB D) (8 + k) 1 % 16
    | 3 => byteA (writeB D) (8 + k) 2 / 4
    | 4 => byteA (writeB D) (8 + k) 2 % 4
    | _ => byteA (writeB D) (8 + k) 3) = true := decide_eq_true fun k hk j hj => by
    obtain ⟨p0, p1, p2, p3, p4⟩ := I.chr k hk
    have b0 : byteA (writeB D) (8 + k) 0 = D.chr k 0 := by rw [byteA, ac k hk]; exact b8_nat (by omega)
    have b1 : byteA (writeB D) (8 + k) 1 = 16 * D.chr k 1 + D.chr k 2 := by rw [byteA, ac k hk]; exact b8_nat (by omega)
    have b2 : byteA (writeB D) (8 + k) 2 = 4 * D.chr k 3 + D.chr k 4 := by rw [byteA, ac k hk]; exact b8_nat (by omega)
    have b3 : byteA (writeB D) (8 + k) 3 = D.chr k 5 := by rw [byteA, ac k hk]; exact b8_nat (by omega)
    match j, hj with
    | 0, _ => exact b0.symm
    | 1, _ => simp only [b1]; omega
    | 2, _ => simp only [b1]; omega
    | 3, _ => simp only [b2]; omega
    | 4, _ => simp only [b2]; omega
    | 5, _ => exact b3.symm
  have rs : rowsB 4 D.ns D.stp (fun k j => byteA (writeB D) (8 + D.nc + D.nw + D.nh + D.nd + D.ni + k) j) = true := decide_eq_true fun k hk j hj => by
    obtain ⟨p0, p1, p2, p3⟩ := I.stp k hk
    show D.stp k j = byteA (writeB D) (8 + D.nc + D.nw + D.nh + D.nd + D.ni + k) j
    rw [byteA, ast k hk]
    match j, hj with
    | 0, _ => exact (b8_nat p0).symm
    | 1, _ => exact (b8_nat p1).symm
    | 2, _ => exact (b8_nat p2).symm
    | 3, _ => exact (b8_nat p3).symm
  have fx : ∀ {n b : Nat} {f : Nat → Int}, (∀ j, j < n → ((writeB D).drop (4 * (b + j))).take 4 = fourW (f j)) → (∀ j, j < n → -16777216 ≤ f j ∧ f j ≤ 16777215) → L04.sameB n n f (fun j => fixA (writeB D) (b + j)) = true := fun ha hf =>
    decide_eq_true ⟨rfl, fun j hj => by show _ = fixA (writeB D) (_ + j); rw [fixA, word4, ha j hj, num_fix (hf j hj)]⟩
  rw [rc, rs, fx aw I.wd, fx ah I.hd, fx ad I.dd, fx ai I.id, fx ak I.kd, fx ap I.pd, ← s0, ← s1]
  simp

theorem catB_congr {g h : Nat → List UInt8} : ∀ n, (∀ j, j < n → g j = h j) → catB g n = catB h n
  | 0, _ => rfl
  | n + 1, e => by rw [catB, catB, catB_congr n (fun j hj => e j (by omega)), e n (by omega)]
theorem allB_congr {p q : Nat → Bool} : ∀ n, (∀ j, j < n → p j = q j) → allB p n = allB q n
  | 0, _ => rfl
  | n + 1, e => by rw [allB, allB, allB_congr n (fun j hj => e j (by omega)), e n (by omega)]
theorem fixesB_congr {n : Nat} {f g : Nat → Int} {a b : Int} {t : Bool} (h : ∀ j, j < n → f j = g j) : fixesB n f a b t = fixesB n g a b t := by
  unfold fixesB
  rw [allB_congr n (fun j hj => by rw [h j hj])]
  by_cases h0 : 0 < n
  · rw [h 0 h0]
  · simp [h0]

structure Alike (D E : FontD) : Prop where
  sum : D.sum = E.sum
  design : D.design = E.design
  first : D.first = E.first
  nc : D.nc = E.nc
  ns : D.ns = E.ns
  chr : ∀ i, i < D.nc → ∀ j, j < 6 → D.chr i j = E.chr i j
  stp : ∀ i, i < D.ns → ∀ j, j < 4 → D.stp i j = E.stp i j
  nw : D.nw = E.nw
  nh : D.nh = E.nh
  nd : D.nd = E.nd
  ni : D.ni = E.ni
  nk : D.nk = E.nk
  np : D.np = E.np
  wd : ∀ j, j < D.nw → D.wd j = E.wd j
  hd : ∀ j, j < D.nh → D.hd j = E.hd j
  dd : ∀ j, j < D.nd → D.dd j = E.dd j
  id : ∀ j, j < D.ni → D.id j = E.id j
  kd : ∀ j, j < D.nk → D.kd j = E.kd j
  pd : ∀ j, j < D.np → D.pd j = E.pd j
theorem alike {D E : FontD} (h : sameFontB D E = true) : Alike D E := by
  simp only [sameFontB, rowsB, L04.sameB, Bool.and_eq_true, decide_eq_true_eq] at h
  obtain ⟨⟨a0, a1, a2, a3, a4⟩, a5, a6, ⟨b0, c0⟩, ⟨b1, c1⟩, ⟨b2, c2⟩, ⟨b3, c3⟩, ⟨b4, c4⟩, ⟨b5, c5⟩⟩ := h
  exact ⟨a0, a1, a2, a3, a4, a5, a6, b0, b1, b2, b3, b4, b5, c0, c1, c2, c3, c4, c5⟩
theorem Alike.check {D E : FontD} (h : Alike D E) : checkB D = checkB E := by
  unfold checkB headB tabsB
  rw [fixesB_congr h.wd, fixesB_congr h.hd, fixesB_congr h.dd, fixesB_congr h.id, fixesB_congr h.kd, fixesB_congr h.pd, h.sum, h.design, h.first, h.nw, h.nh, h.nd, h.ni, h.nk, h.np,
    allB_congr D.nc (fun j hj => show chrB D j = chrB E j by unfold chrB; rw [h.chr j hj 0 (by omega), h.chr j hj 1 (by omega), h.chr j hj 2 (by omega), h.chr j hj 3 (by omega), h.chr j hj 4 (by omega), h.chr j hj 5 (by omega), h.nw, h.nh, h.nd, h.ni, h.ns]),
    allB_congr D.ns (fun j hj => show stpB D j = stpB E j by unfold stpB; rw [h.stp j hj 0 (by omega), h.stp j hj 1 (by omega), h.stp j hj 2 (by omega), h.stp j hj 3 (by omega)]), h.nc, h.ns]
theorem allW_congr {f g : Nat → Int} {n : Nat} (h : ∀ j, j < n → f j = g j) : allW f n = allW g n := catB_congr n fun j hj => by rw [h j hj]
theorem Alike.write {D E : FontD} (h : Alike D E) : writeB D = writeB E := by
  have hb : bodyW D = bodyW E := by
    unfold bodyW
    rw [allW_congr h.wd, allW_congr h.hd, allW_congr h.dd, allW_congr h.id, allW_congr h.kd, allW_congr h.pd, h.sum, h.design, h.nw, h.nh, h.nd, h.ni, h.nk, h.np,
      catB_congr D.nc (fun j hj => show chrW D j = chrW E j by unfold chrW; rw [h.chr j hj 0 (by omega), h.chr j hj 1 (by omega), h.chr j hj 2 (by omega), h.chr j hj 3 (by omega), h.chr j hj 4 (by omega), h.chr j hj 5 (by omega)]),
      catB_congr D.ns (fun j hj => show stpW D j = stpW E j by unfold stpW; rw [h.stp j hj 0 (by omega), h.stp j hj 1 (by omega), h.stp j hj 2 (by omega), h.stp j hj 3 (by omega)]), h.nc, h.ns]
  have hh : ∀ j, headN D j = headN E j := fun j => by unfold headN; split <;> simp only [h.first, h.nc, h.nw, h.nh, h.nd, h.ni, h.ns, h.nk, h.np]
  rw [writeB, writeB, hb, catB_congr 12 (fun j _ => by rw [hh j])]

/-- These bytes are a font's that may be. -/
def FontOf (l : List UInt8) : Prop := ∃ D, checkB D = true ∧ writeB D = l
theorem dec_of {l : List UInt8} (h : FontOf l) (u : Int → Int) (hu : ∀ n, 0 ≤ n → n ≤ 2147483647 → u n = n) : checkB (decD u l) = true ∧ writeB (decD u l) = l := by
  obtain ⟨D, hD, rfl⟩ := h
  have A := alike (dec_same u hu D hD)
  exact ⟨A.check.symm.trans hD, A.write.symm⟩
/-- What such bytes begin with. -/
theorem heads_of {l : List UInt8} (h : FontOf l) : 32 ≤ l.length ∧ l.length ≤ 262140 ∧ l.length % 4 = 0 ∧ 1 ≤ half l 3 - half l 2 + 1 ∧
    8 + (half l 3 - half l 2 + 1) + half l 4 + half l 5 + half l 6 + half l 7 + half l 8 + half l 9 + half l 11 = (l.length : Int) / 4 := by
  obtain ⟨D, hD, rfl⟩ := h
  have I := check_in hD
  have H := fun j hj => half_at D I j hj
  have e2 : half (writeB D) 2 = D.first := H 2 (by omega)
  have e3 : half (writeB D) 3 = D.first + D.nc - 1 := H 3 (by omega)
  have e4 : half (writeB D) 4 = D.nw := H 4 (by omega)
  have e5 : half (writeB D) 5 = D.nh := H 5 (by omega)
  have e6 : half (writeB D) 6 = D.nd := H 6 (by omega)
  have e7 : half (writeB D) 7 = D.ni := H 7 (by omega)
  have e8 : half (writeB D) 8 = D.ns := H 8 (by omega)
  have e9 : half (writeB D) 9 = D.nk := H 9 (by omega)
  have e11 : half (writeB D) 11 = D.np := H 11 (by omega)
  have hl : (writeB D).length = 24 + 4 * (2 + D.nc + D.nw + D.nh + D.nd + D.ni + D.ns + D.nk + D.np) := by
    rw [writeB, List.length_append, bodyW_length, catB_length (k := 2) (fun _ => rfl)]
  have i1 := I.nw; have i2 := I.nh; have i3 := I.nd; have i4 := I.ni; have i5 := I.nk; have i6 := I.np; have i7 := I.ns; have i8 := I.nc; have i9 := I.first
  rw [hl, e2, e3, e4, e5, e6, e7, e8, e9, e11]
  omega
theorem half_le (l : List UInt8) (j : Nat) : 0 ≤ half l j ∧ half l j ≤ 65535 := by
  have h := num_lt ((l.drop (2 * j)).take 2)
  have h2 : ((l.drop (2 * j)).take 2).length ≤ 2 := by rw [List.length_take]; omega
  have h3 : 256 ^ ((l.drop (2 * j)).take 2).length ≤ 256 ^ 2 := Nat.pow_le_pow_right (by decide) h2
  unfold half
  omega
theorem word_le (l : List UInt8) (j : Nat) : 0 ≤ word4 l j ∧ word4 l j ≤ 4294967295 := by
  have h := num_lt ((l.drop (4 * j)).take 4)
  have h2 : ((l.drop (4 * j)).take 4).length ≤ 4 := by rw [List.length_take]; omega
  have h3 : 256 ^ ((l.drop (4 * j)).take 4).length ≤ 256 ^ 4 := Nat.pow_le_pow_right (by decide) h2
  unfold word4
  omega
theorem fix_le (l : List UInt8) (j : Nat) : -2147483648 ≤ fixA l j ∧ fixA l j ≤ 2147483647 := by
  have := word_le l j
  unfold fixA down32
  split <;> omega
theorem byte_le (l : List UInt8) (k i : Nat) : 0 ≤ byteA l k i ∧ byteA l k i ≤ 255 := by
  unfold byteA
  have := (((l.drop (4 * k)).take 4).getD i 0).toNat_lt
  omega
theorem byte_get {l : List UInt8} {k i m : Nat} (hm : m = 4 * k + i) (hi : i < 4) (h : m < l.length) : byteA l k i = (l[m]'h).toNat := by
  subst hm
  unfold byteA
  rw [List.getD_eq_getElem?_getD, List.getElem?_take_of_lt hi, List.getElem?_drop, List.getElem?_eq_getElem h]
  rfl
theorem half_get {l : List UInt8} {j : Nat} (h : 2 * j + 1 < l.length) : half l j = 256 * (l[2 * j]'(by omega)).toNat + (l[2 * j + 1]'h).toNat := by
  have e : (l.drop (2 * j)).take 2 = [l[2 * j]'(by omega), l[2 * j + 1]'h] := by
    rw [List.drop_eq_getElem_cons (by omega : 2 * j < l.length), List.drop_eq_getElem_cons h]
    rfl
  have e2 : num [l[2 * j]'(by omega), l[2 * j + 1]'h] = 256 * (256 * 0 + (l[2 * j]'(by omega)).toNat) + (l[2 * j + 1]'h).toNat := rfl
  rw [half, e, e2]
  omega
end L07
end Go.Proofs.Ytggedodfkjdegaa

