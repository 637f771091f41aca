/- The landed Read of layer 7: the font that bytes tell of: ahead of its characters. -/
import Derived.Test.YtggedodfkjdegaaTakeC07
import Derived.Test.YtggedodfkjdegaaChunk07
import Derived.Test.YtggedodfkjdegaaDec07
namespace Go.Proofs.Ytggedodfkjdegaa
open Go.RowKit Go.Deep
namespace L07
open L06

/-- An empty font. -/
def noD : FontD := { sum := 0, design := 0, first := 0, nc := 0, chr := fun _ _ => 0, nw := 0, wd := fun _ => 0, nh := 0, hd := fun _ => 0, nd := 0, dd := fun _ => 0, ni := 0, id := fun _ => 0, ns := 0, stp := fun _ _ => 0, nk := 0, kd := fun _ => 0, np := 0, pd := fun _ => 0 }
def noP : FontP := { xc := none, zc := 0, xw := none, zw := 0, xh := none, zh := 0, xd := none, zd := 0, xi := none, zi := 0, xs := none, zs := 0, xk := none, zk := 0, xp := none, zp := 0 }
theorem no_ok : FontOk noD noP := by
  constructor <;> simp [noD, noP, Wide]
theorem no_seen (w : World) : SeenFont w noD noP := ⟨SeenN.nil, SeenF.none, SeenF.none, SeenF.none, SeenF.none, SeenN.nil, SeenF.none, SeenF.none⟩
theorem no_no : checkB noD = false := by rfl

/-- What 'taken' answers. -/
def TakenF (w : World) (l : List UInt8) (e : Ending) (w' : World) : Prop :=
  (∃ P, e = .returned (.tuple #[fontV (decD (fun n => n) l) P, .int .i64 0]) ∧ FontOk (decD (fun n => n) l) P ∧ (∀ (T : Addr → Prop) (M : Nat) (w2 : World), (∀ p, T p → p.block < w.heap.size) → Chg T M w' w2 → SeenFont w2 (decD (fun n => n) l) P) ∧ Ext w w') ∨
    (e = .returned (.tuple #[fontV noD noP, .int .i64 60]) ∧ ¬ FontOf l ∧ Ext w w')

/-- The parts of the two calls. -/
def ps1 (b : Nat) (_ : Nat) : Part := ⟨12, 26, b, 0⟩
def ps2 (l : List UInt8) (bs bc bt F : Nat) (j : Nat) : Part := match j with
  | 0 => ⟨2, 27, bs, 0⟩
  | 1 => ⟨4 * (half l 3 - half l 2 + 1), 28, bc, 0⟩
  | 2 => ⟨half l 4, 29, F, 4⟩
  | 3 => ⟨half l 5, 29, F, 5⟩
  | 4 => ⟨half l 6, 29, F, 6⟩
  | 5 => ⟨half l 7, 29, F, 7⟩
  | 6 => ⟨4 * half l 8, 28, bt, 0⟩
  | 7 => ⟨half l 9, 29, F, 9⟩
  | _ => ⟨half l 11, 29, F, 10⟩

theorem fits1 {l : List UInt8} {b : Nat} : fitsP (ps1 b) l 1 ↔ 24 ≤ l.length := by
  constructor
  · intro h; have := h 0 (by omega); simpa [ps1, szF, remP] using this
  · intro h j hj
    obtain rfl : j = 0 := by omega
    simpa [ps1, szF, remP] using h
theorem row1 (l : List UInt8) (b i : Nat) : rowP (ps1 b) l 0 i = half l i := by simp [rowP, ps1, rdF, szF, remP, half]
/-- Where part j of the second call begins, in words. -/
def wordOf (l : List UInt8) (j : Nat) : Nat := match j with
  | 0 => 6
  | 1 => 8
  | 2 => 8 + (half l 3 - half l 2 + 1).toNat
  | 3 => 8 + (half l 3 - half l 2 + 1).toNat + (half l 4).toNat
  | 4 => 8 + (half l 3 - half l 2 + 1).toNat + (half l 4).toNat + (half l 5).toNat
  | 5 => 8 + (half l 3 - half l 2 + 1).toNat + (half l 4).toNat + (half l 5).toNat + (half l 6).toNat
  | 6 => 8 + (half l 3 - half l 2 + 1).toNat + (half l 4).toNat + (half l 5).toNat + (half l 6).toNat + (half l 7).toNat
  | 7 => 8 + (half l 3 - half l 2 + 1).toNat + (half l 4).toNat + (half l 5).toNat + (half l 6).toNat + (half l 7).toNat + (half l 8).toNat
  | 8 => 8 + (half l 3 - half l 2 + 1).toNat + (half l 4).toNat + (half l 5).toNat + (half l 6).toNat + (half l 7).toNat + (half l 8).toNat + (half l 9).toNat
  | _ => 8 + (half l 3 - half l 2 + 1).toNat + (half l 4).toNat + (half l 5).toNat + (half l 6).toNat + (half l 7).toNat + (half l 8).toNat + (half l 9).toNat + (half l 11).toNat
theorem size2 (l : List UInt8) (bs bc bt F : Nat) (j : Nat) (hj : j < 9) : 4 * wordOf l j + szF (ps2 l bs bc bt F j).k * (ps2 l bs bc bt F j).n.toNat = 4 * wordOf l (j + 1) := by
  have h8 := half_le l 8
  match j, hj with
  | 0, _ => simp [ps2, szF, wordOf]
  | 1, _ => simp only [ps2, szF, wordOf]; simp; omega
  | 2, _ => simp only [ps2, szF, wordOf]; simp; omega
  | 3, _ => simp only [ps2, szF, wordOf]; simp; omega
  | 4, _ => simp only [ps2, szF, wordOf]; simp; omega
  | 5, _ => simp only [ps2, szF, wordOf]; simp; omega
  | 6, _ => simp only [ps2, szF, wordOf]; simp; omega
  | 7, _ => simp only [ps2, szF, wordOf]; simp; omega
  | 8, _ => simp only [ps2, szF, wordOf]; simp; omega
theorem rem2 (l : List UInt8) (bs bc bt F : Nat) : ∀ j, j ≤ 9 → remP (ps2 l bs bc bt F) (l.drop 24) j = l.drop (4 * wordOf l j)
  | 0, _ => rfl
  | j + 1, h => by rw [remP, rem2 l bs bc bt F j (by omega), List.drop_drop, size2 l bs bc bt F j (by omega)]
theorem fits2 {l : List UInt8} {bs bc bt F : Nat} (hn : ¬ fitsP (ps2 l bs bc bt F) (l.drop 24) 9) : ¬ FontOf l := fun h => hn fun j hj => by
  obtain ⟨h1, h2, h3, h4, h5⟩ := heads_of h
  rw [rem2 l bs bc bt F j (by omega), List.length_drop]
  have e := size2 l bs bc bt F j hj
  have a4 := half_le l 4; have a5 := half_le l 5; have a6 := half_le l 6; have a7 := half_le l 7; have a8 := half_le l 8; have a9 := half_le l 9; have a11 := half_le l 11
  have hw : wordOf l (j + 1) ≤ wordOf l 9 := by
    match j, hj with
    | 0, _ => simp only [wordOf]; omega
    | 1, _ => simp only [wordOf]; omega
    | 2, _ => simp only [wordOf]; omega
    | 3, _ => simp only [wordOf]; omega
    | 4, _ => simp only [wordOf]; omega
    | 5, _ => simp only [wordOf]; omega
    | 6, _ => simp only [wordOf]; omega
    | 7, _ => simp only [wordOf]; omega
    | 8, _ => simp only [wordOf]; omega
  have h9 : 4 * wordOf l 9 ≤ l.length := by simp only [wordOf]; omega
  omega

/-- What a function answers whose first result is a font's box. -/
theorem results_font {fn : Func} (h : fn.results = #[.cell 2 28, .tmp 3]) (tmps : Array Value) (W : World) (R : Nat) (t : TypeId) (e v0 v1 v2 v3 v4 v5 v6 v7 v8 v9 v10 : Value) (h2 : tmps[2]? = some (.pointer (some ⟨R, 0, none⟩))) (h3 : tmps[3]? = some e)
    (hb : Blk W R t [v0, v1, v2, v3, v4, v5, v6, v7, v8, v9, v10]) : (results fn tmps).run Try.prog W = .ok (.tuple #[.agg #[v0, v1, v2, v3, v4, v5, v6, v7, v8, v9, v10], e]) W := by
  have r0 : W.cell? ⟨R, 0, none⟩ = some v0 := hb.cell 0
  have r1 : W.cell? ⟨R, 1, none⟩ = some v1 := hb.cell 1
  have r2 : W.cell? ⟨R, 2, none⟩ = some v2 := hb.cell 2
  have r3 : W.cell? ⟨R, 3, none⟩ = some v3 := hb.cell 3
  have r4 : W.cell? ⟨R, 4, none⟩ = some v4 := hb.cell 4
  have r5 : W.cell? ⟨R, 5, none⟩ = some v5 := hb.cell 5
  have r6 : W.cell? ⟨R, 6, none⟩ = some v6 := hb.cell 6
  have r7 : W.cell? ⟨R, 7, none⟩ = some v7 := hb.cell 7
  have r8 : W.cell? ⟨R, 8, none⟩ = some v8 := hb.cell 8
  have r9 : W.cell? ⟨R, 9, none⟩ = some v9 := hb.cell 9
  have r10 : W.cell? ⟨R, 10, none⟩ = some v10 := hb.cell 10
  simp only [results, h]
  simp [go_sem, loadVar, asAddr, *]

theorem drop_add (l : List UInt8) (a b c : Nat) (h : c = a + b) : (l.drop a).drop b = l.drop c := by rw [List.drop_drop, h]
theorem row2_w (l : List UInt8) (bs bc bt F i : Nat) : rowP (ps2 l bs bc bt F) (l.drop 24) 0 i = word4 l (6 + i) := by
  rw [rowP, rem2 l bs bc bt F 0 (by omega), drop_add l _ _ (4 * (6 + i)) (by simp [ps2, szF, wordOf]; omega)]
  rfl
theorem num_one (l : List UInt8) (m : Nat) : (num ((l.drop m).take 1) : Int) = ((l.getD m 0).toNat : Int) := by
  by_cases h : m < l.length
  · rw [List.drop_eq_getElem_cons h, List.getD_eq_getElem?_getD, List.getElem?_eq_getElem h]
    show ((256 * 0 + (l[m]).toNat : Nat) : Int) = _
    simp
  · rw [List.drop_eq_nil_of_le (by omega), List.getD_eq_getElem?_getD, List.getElem?_eq_none (by omega)]
    rfl
theorem byteA_is (l : List UInt8) (k i : Nat) (hi : i < 4) : byteA l k i = ((l.getD (4 * k + i) 0).toNat : Int) := by
  unfold byteA
  rw [List.getD_eq_getElem?_getD, List.getElem?_take_of_lt hi, List.getElem?_drop, List.getD_eq_getElem?_getD]
theorem row2_b (l : List UInt8) (bs bc bt F j k i m : Nat) (hj : j = 1 ∨ j = 6) (hi : i < 4) (hm : m = 4 * k + i) : rowP (ps2 l bs bc bt F) (l.drop 24) j m = byteA l (wordOf l j + k) i := by
  subst hm
  rw [byteA_is l _ _ hi]
  rcases hj with rfl | rfl
  · rw [rowP, rem2 l bs bc bt F 1 (by omega), drop_add l _ _ (4 * (wordOf l 1 + k) + i) (by simp [ps2, szF]; omega), ← num_one]
    rfl
  · rw [rowP, rem2 l bs bc bt F 6 (by omega), drop_add l _ _ (4 * (wordOf l 6 + k) + i) (by simp [ps2, szF]; omega), ← num_one]
    rfl
theorem row2_f (l : List UInt8) (bs bc bt F j i : Nat) (hj : j = 2 ∨ j = 3 ∨ j = 4 ∨ j = 5 ∨ j = 7 ∨ j = 8) : rowP (ps2 l bs bc bt F) (l.drop 24) j i = fixA l (wordOf l j + i) := by
  rcases hj with rfl | rfl | rfl | rfl | rfl | rfl
  · rw [rowP, rem2 l bs bc bt F 2 (by omega), drop_add l _ _ (4 * (wordOf l 2 + i)) (by simp [ps2, szF]; omega)]; rfl
  · rw [rowP, rem2 l bs bc bt F 3 (by omega), drop_add l _ _ (4 * (wordOf l 3 + i)) (by simp [ps2, szF]; omega)]; rfl
  · rw [rowP, rem2 l bs bc bt F 4 (by omega), drop_add l _ _ (4 * (wordOf l 4 + i)) (by simp [ps2, szF]; omega)]; rfl
  · rw [rowP, rem2 l bs bc bt F 5 (by omega), drop_add l _ _ (4 * (wordOf l 5 + i)) (by simp [ps2, szF]; omega)]; rfl
  · rw [rowP, rem2 l bs bc bt F 7 (by omega), drop_add l _ _ (4 * (wordOf l 7 + i)) (by simp [ps2, szF]; omega)]; rfl
  · rw [rowP, rem2 l bs bc bt F 8 (by omega), drop_add l _ _ (4 * (wordOf l 8 + i)) (by simp [ps2, szF]; omega)]; rfl

theorem laid1 (w0 w1 : World) (g bh pb : Nat) (hs : w0.heap.size ≤ g) (h1 : g < bh) (h2 : bh < pb) (h3 : pb < w1.heap.size)
    (k : Blk w1 pb 62 [.int .i64 12, .func (.func 26) #[.pointer (some ⟨g, 0, none⟩)] #[], .pointer (some ⟨bh, 0, none⟩)])
    (e : w1.cell? ⟨bh, 0, none⟩ = some (.slice none 0 0) ∧ w1.frozen? ⟨bh, 0, none⟩ = false) : Laid w0 w1 g pb 1 (ps1 bh) := by
  constructor
  · omega
  · omega
  · omega
  · omega
  · intro j _; show w0.heap.size ≤ bh; omega
  · intro j _; show bh < w1.heap.size; omega
  · intro j _; show bh ≠ pb; omega
  · intro j _; show bh ≠ g; omega
  · intro i j hi hj hne; omega
  · intro j _; exact .inr (.inl rfl)
  · intro j _; show (-1000000 : Int) ≤ 12 ∧ (12 : Int) ≤ 1000000; omega
  · intro j hj; obtain rfl : j = 0 := by omega
    exact k.cell 0
  · intro j hj; obtain rfl : j = 0 := by omega
    exact k.cell 1
  · intro j hj; obtain rfl : j = 0 := by omega
    exact k.cell 2
  · intro j hj; exact e
theorem key2 (l : List UInt8) (bs bc bt F : Nat) (j : Nat) (hj : j < 9) : (j = 0 ∧ (ps2 l bs bc bt F j).b = bs ∧ (ps2 l bs bc bt F j).o = 0) ∨ (j = 1 ∧ (ps2 l bs bc bt F j).b = bc ∧ (ps2 l bs bc bt F j).o = 0) ∨ (j = 2 ∧ (ps2 l bs bc bt F j).b = F ∧ (ps2 l bs bc bt F j).o = 4) ∨
    (j = 3 ∧ (ps2 l bs bc bt F j).b = F ∧ (ps2 l bs bc bt F j).o = 5) ∨ (j = 4 ∧ (ps2 l bs bc bt F j).b = F ∧ (ps2 l bs bc bt F j).o = 6) ∨ (j = 5 ∧ (ps2 l bs bc bt F j).b = F ∧ (ps2 l bs bc bt F j).o = 7) ∨
    (j = 6 ∧ (ps2 l bs bc bt F j).b = bt ∧ (ps2 l bs bc bt F j).o = 0) ∨ (j = 7 ∧ (ps2 l bs bc bt F j).b = F ∧ (ps2 l bs bc bt F j).o = 9) ∨ (j = 8 ∧ (ps2 l bs bc bt F j).b = F ∧ (ps2 l bs bc bt F j).o = 10) := by
  match j, hj with
  | 0, _ => simp [ps2]
  | 1, _ => simp [ps2]
  | 2, _ => simp [ps2]
  | 3, _ => simp [ps2]
  | 4, _ => simp [ps2]
  | 5, _ => simp [ps2]
  | 6, _ => simp [ps2]
  | 7, _ => simp [ps2]
  | 8, _ => simp [ps2]
/-- The second call's parts, as they lie. -/
def parts2 (l : List UInt8) (g bs bc bt F : Nat) : List Value :=
  [.int .i64 2, .func (.func 27) #[.pointer (some ⟨g, 0, none⟩)] #[], .pointer (some ⟨bs, 0, none⟩),
   .int .i64 (4 * (half l 3 - half l 2 + 1)), .func (.func 28) #[.pointer (some ⟨g, 0, none⟩)] #[], .pointer (some ⟨bc, 0, none⟩),
   .int .i64 (half l 4), .func (.func 29) #[.pointer (some ⟨g, 0, none⟩)] #[], .pointer (some ⟨F, 4, none⟩),
   .int .i64 (half l 5), .func (.func 29) #[.pointer (some ⟨g, 0, none⟩)] #[], .pointer (some ⟨F, 5, none⟩),
   .int .i64 (half l 6), .func (.func 29) #[.pointer (some ⟨g, 0, none⟩)] #[], .pointer (some ⟨F, 6, none⟩),
   .int .i64 (half l 7), .func (.func 29) #[.pointer (some ⟨g, 0, none⟩)] #[], .pointer (some ⟨F, 7, none⟩),
   .int .i64 (4 * half l 8), .func (.func 28) #[.pointer (some ⟨g, 0, none⟩)] #[], .pointer (some ⟨bt, 0, none⟩),
   .int .i64 (half l 9), .func (.func 29) #[.pointer (some ⟨g, 0, none⟩)] #[], .pointer (some ⟨F, 9, none⟩),
   .int .i64 (half l 11), .func (.func 29) #[.pointer (some ⟨g, 0, none⟩)] #[], .pointer (some ⟨F, 10, none⟩)]
theorem laid2 (w0 w1 : World) (l : List UInt8) (g bs bc bt F pb : Nat) (h0 : w0.heap.size ≤ g) (h1 : g < bs) (h2 : bs < bc) (h3 : bc < bt) (h4 : bt < F) (h5 : F < pb) (h6 : pb < w1.heap.size)
    (k : Blk w1 pb 62 (parts2 l g bs bc bt F)) (es : w1.cell? ⟨bs, 0, none⟩ = some (.slice none 0 0) ∧ w1.frozen? ⟨bs, 0, none⟩ = false) (ec : w1.cell? ⟨bc, 0, none⟩ = some (.slice none 0 0) ∧ w1.frozen? ⟨bc, 0, none⟩ = false)
    (et : w1.cell? ⟨bt, 0, none⟩ = some (.slice none 0 0) ∧ w1.frozen? ⟨bt, 0, none⟩ = false) (x : Value)
    (kF : Blk w1 F 28 [.int .i64 0, .int .i64 0, x, .slice none 0 0, .slice none 0 0, .slice none 0 0, .slice none 0 0, .slice none 0 0, .slice none 0 0, .slice none 0 0, .slice none 0 0]) : Laid w0 w1 g pb 9 (ps2 l bs bc bt F) := by
  have K := key2 l bs bc bt F
  have a2 := half_le l 2; have a3 := half_le l 3; have a4 := half_le l 4; have a5 := half_le l 5; have a6 := half_le l 6; have a7 := half_le l 7; have a8 := half_le l 8; have a9 := half_le l 9; have a11 := half_le l 11
  constructor
  · omega
  · omega
  · omega
  · omega
  · intro j hj; have := K j hj; omega
  · intro j hj; have := K j hj; omega
  · intro j hj; have := K j hj; omega
  · intro j hj; have := K j hj; omega
  · intro i j hi hj hne h
    have k1 := K i hi; have k2 := K j hj
    have e1 : (ps2 l bs bc bt F i).b = (ps2 l bs bc bt F j).b := congrArg Addr.block h
    have e2 : (ps2 l bs bc bt F i).o = (ps2 l bs bc bt F j).o := congrArg Addr.off h
    omega
  · intro j hj
    match j, hj with
    | 0, _ => exact .inr (.inr (.inl rfl))
    | 1, _ => exact .inl rfl
    | 2, _ => exact .inr (.inr (.inr rfl))
    | 3, _ => exact .inr (.inr (.inr rfl))
    | 4, _ => exact .inr (.inr (.inr rfl))
    | 5, _ => exact .inr (.inr (.inr rfl))
    | 6, _ => exact .inl rfl
    | 7, _ => exact .inr (.inr (.inr rfl))
    | 8, _ => exact .inr (.inr (.inr rfl))
  · intro j hj
    match j, hj with
    | 0, _ => simp only [ps2]; omega
    | 1, _ => simp only [ps2]; omega
    | 2, _ => simp only [ps2]; omega
    | 3, _ => simp only [ps2]; omega
    | 4, _ => simp only [ps2]; omega
    | 5, _ => simp only [ps2]; omega
    | 6, _ => simp only [ps2]; omega
    | 7, _ => simp only [ps2]; omega
    | 8, _ => simp only [ps2]; omega
  · intro j hj
    match j, hj with
    | 0, _ => exact k.cell 0
    | 1, _ => exact k.cell 3
    | 2, _ => exact k.cell 6
    | 3, _ => exact k.cell 9
    | 4, _ => exact k.cell 12
    | 5, _ => exact k.cell 15
    | 6, _ => exact k.cell 18
    | 7, _ => exact k.cell 21
    | 8, _ => exact k.cell 24
  · intro j hj
    match j, hj with
    | 0, _ => exact k.cell 1
    | 1, _ => exact k.cell 4
    | 2, _ => exact k.cell 7
    | 3, _ => exact k.cell 10
    | 4, _ => exact k.cell 13
    | 5, _ => exact k.cell 16
    | 6, _ => exact k.cell 19
    | 7, _ => exact k.cell 22
    | 8, _ => exact k.cell 25
  · intro j hj
    match j, hj with
    | 0, _ => exact k.cell 2
    | 1, _ => exact k.cell 5
    | 2, _ => exact k.cell 8
    | 3, _ => exact k.cell 11
    | 4, _ => exact k.cell 14
    | 5, _ => exact k.cell 17
    | 6, _ => exact k.cell 20
    | 7, _ => exact k.cell 23
    | 8, _ => exact k.cell 26
  · intro j hj
    match j, hj with
    | 0, _ => exact es
    | 1, _ => exact ec
    | 2, _ => exact ⟨kF.cell 4, kF.free 4⟩
    | 3, _ => exact ⟨kF.cell 5, kF.free 5⟩
    | 4, _ => exact ⟨kF.cell 6, kF.free 6⟩
    | 5, _ => exact ⟨kF.cell 7, kF.free 7⟩
    | 6, _ => exact et
    | 7, _ => exact ⟨kF.cell 9, kF.free 9⟩
    | 8, _ => exact ⟨kF.cell 10, kF.free 10⟩
end L07
end Go.Proofs.Ytggedodfkjdegaa

