/- ShareScales: by weights that are all so many times as great parts are the same, and a total that weights go into has just them as parts (at most sixty weights, below 2^20; a factor up to a hundred): for every input. -/
import Derived.Test.YtnkomnmdmbegiaaAwake04
import Derived.OpenShut
namespace Go.Proofs.Ytnkomnmdmbegiaa
open Go.ChangeShapes Go.WideShapes Go.ChangeAt Go.RowKit
namespace ShareScales
open L04

/-- Two rows of one's own that do not lie in one block. -/
def Apart (a b : Value) : Prop := ∀ g, a.ownBlock = some g → b.ownBlock ≠ some g
theorem Apart.symm {a b : Value} (h : Apart a b) : Apart b a := fun g h1 h2 => h g h2 h1
theorem Apart.kept {a b : Value} (h : Apart a b) : b.ownBlock = none ∨ b.ownBlock ≠ a.ownBlock := by
  cases e : b.ownBlock with
  | none => exact .inl rfl
  | some g => exact .inr fun k => h g k.symm e
theorem Apart.next {a b a' : Value} {s : Nat} (h : Apart a b) (k : a'.ownBlock = a.ownBlock ∨ a'.ownBlock = some s) (hb : ∀ g, b.ownBlock = some g → g < s) : Apart a' b := fun g h1 h2 => by
  rcases k with k | k
  · exact h g (k.symm.trans h1) h2
  · rw [k] at h1
    have := hb g h2
    cases h1
    omega
theorem apart_nil (b : Value) : Apart (.slice none 0 0) b := fun g h => by cases h

theorem int_slice : SliceOf Try.prog 22 3 1 8 :=
  slice_of (z := .int .i64 0) Try.underlying22 (by kernel_rfl) rfl (by decide)

/-- The weights. -/
def wts (l : List Int) (C : Int) (j : Nat) : List Int := (l.take j).map fun x => x % 1048576 * C
theorem wts_next (l : List Int) (C : Int) {j : Nat} (hj : j < l.length) : (wts l C j).map (Value.int .i64) ++ [.int .i64 (l.getD j 0 % 1048576 * C)] = (wts l C (j + 1)).map (Value.int .i64) := by
  unfold wts
  have e : l.getD j 0 = l[j] := by simp [hj]
  rw [e, List.take_succ_eq_append_getElem hj]
  simp only [List.map_append, List.map_cons, List.map_nil]
theorem wts_len (l : List Int) (C : Int) (j : Nat) (hj : j ≤ l.length) : (wts l C j).length = j := by simp [wts]; omega
theorem wts_at (l : List Int) (C : Int) {i : Nat} (hi : i < l.length) : (wts l C l.length).getD i 0 = l.getD i 0 % 1048576 * C := by
  unfold wts
  simp [List.getD_eq_getElem?_getD, hi]

theorem may_scale {t : Int} {n : Nat} {f : Nat → Int} {C : Int} (hn : n ≤ 60) (ht : 0 ≤ t ∧ t ≤ 1073741823) (hf : ∀ j, j < n → 0 ≤ f j ∧ f j ≤ 1048575) (hC : 1 ≤ C ∧ C ≤ 100) :
    (MayP t n f ↔ (t = 0 ∨ 0 < sumF f n)) ∧ (MayP t n (fun j => f j * C) ↔ (t = 0 ∨ 0 < sumF f n)) := by
  have hs : sumF (fun j => f j * C) n = sumF f n * C := sumF_times C
  constructor
  · exact ⟨fun h => h.2.2, fun h => ⟨⟨ht.1, ht.2, by omega⟩, fun j hj => by have := hf j hj; omega, h⟩⟩
  · have hp : 0 < sumF f n * C ↔ 0 < sumF f n := by
      constructor
      · intro h
        rcases Int.lt_or_le 0 (sumF f n) with c | c
        · exact c
        · have := Int.mul_nonpos_of_nonpos_of_nonneg c (show 0 ≤ C by omega); omega
      · exact fun h => Int.mul_pos h (by omega)
    refine ⟨fun h => ?_, fun h => ⟨⟨ht.1, ht.2, by omega⟩, fun j hj => ?_, ?_⟩⟩
    · have := h.2.2; rw [hs, hp] at this; exact this
    · have h1 := hf j hj
      have h2 : f j * C ≤ 1048575 * C := Int.mul_le_mul_of_nonneg_right h1.2 (by omega)
      have h3 : 0 ≤ f j * C := Int.mul_nonneg h1.1 (by omega)
      show 0 ≤ f j * C ∧ f j * C ≤ 1073741823
      omega
    · show t = 0 ∨ 0 < sumF (fun j => f j * C) n
      rw [hs, hp]; exact h
theorem own_parts {n : Nat} {f : Nat → Int} (hf : ∀ j, j < n → 0 ≤ f j) (i : Nat) (hi : i < n) : partF (sumF f n) n f i = f i := by
  by_cases h : 0 < sumF f n
  · exact part_own h i
  · have h1 := sumF_one n i hf hi
    have h2 := hf i hi
    have h3 : sumF f n = 0 := by omega
    unfold partF
    rw [if_pos h3]; omega
theorem same_rows (n : Nat) (f : Nat → Int) (A B : Option Addr) (c d : Nat) (w : World) (hs : SeenF w A n f) (ht : SeenF w B n f) (hn : n ≤ 1000) :
    Calls Try.prog 13 #[.slice A n c, .slice B n d] w (Ret w (.bool true)) := by
  have h := same_any A B n n c d f f w hs ht (by omega)
  rwa [show sameB n n f f = true from decide_eq_true ⟨rfl, fun _ _ => rfl⟩] at h

set_option maxHeartbeats 8000000 in
theorem few (a : Int) (ha : 0 ≤ a ∧ a ≤ 4294967295) (A : Option Addr) (l : List Int) (c : Nat) (hl : l.length ≤ 60) (hw : ∀ n ∈ l, (Lit.int .u32 n).wf = true) (k : Int) (hk : 0 ≤ k ∧ k ≤ 255) (w : World) (hs : Seen w.heap.size w A (l.map (.int .u32))) :
    Calls Try.prog 5 #[.int .u32 a, .slice A l.length c, .int .u8 k] w (Ret w (.bool true)) := by
  have hlz : ¬ (60 < (l.length : Int)) := by omega
  obtain ⟨ha1, ha2⟩ := ha
  obtain ⟨hk1, hk2⟩ := hk
  obtain ⟨C, hC⟩ : ∃ C, 1 + k % 100 = C := ⟨_, rfl⟩
  have hC1 : 1 ≤ C ∧ C ≤ 100 := by omega
  have LB : Hid (∀ j, j < l.length → 0 ≤ l.getD j 0 ∧ l.getD j 0 ≤ 4294967295) := fun j hj => by
    have := bounds_u32 (hw (l.getD j 0) (by rw [List.getD_eq_getElem?_getD]; simp [hj]))
    exact this
  have HS := Lib.hid hs
  clear hs hw
  go_enter Try.func5, Try.ntmps5
  go_wp2_with fail
  refine (L04.awake_any _).mono ?_; rintro e w1 ⟨rfl, x1⟩
  go_wp2_with fail
  go_loopw [8, 9, 10, 11] (fun va vb s i wr => ∃ (j : Nat) (z : Int), j ≤ l.length ∧ i = .int .i64 j ∧ s = .int .i64 z ∧ Hid (z = sumF (fun j => l.getD j 0 % 1048576) j) ∧ Hid (wr.ownsRow w.heap.size 3 1 va j ((wts l 1 j).map (.int .i64))) ∧
    Hid (wr.ownsRow w.heap.size 3 1 vb j ((wts l C j).map (.int .i64))) ∧ Hid (Apart va vb) ∧ Hid (Ext w wr)) (fun _ _ _ i _ => l.length - (intOf i).toNat)
  case atStart => exact ⟨0, 0, by omega, rfl, rfl, rfl, World.ownsRow_nil _ _ _ _, World.ownsRow_nil _ _ _ _, apart_nil _, x1⟩
  case round =>
    obtain ⟨j, z, hj, rfl, rfl, hz, HA, HB, AP, HX⟩ := hrel
    by_cases hlt : j < l.length
    · have hvb := LB.out j hlt
      have hcell : ∃ ad, A = some ad ∧ wr.cell? (ad.add j) = some (.int .u32 (l.getD j 0)) := by
        obtain ⟨ad, e, hb, hc⟩ := Seen.get (HS.out.ext HX.out) (k := j) (by simpa using hlt)
        exact ⟨ad, e, by rw [hc]; simp [hlt]⟩
      obtain ⟨ad, rfl, hcl⟩ := hcell
      have N1 := wts_next l 1 hlt
      have N2 := wts_next l C hlt
      rw [Int.mul_one] at N1
      have hz2 : z + l.getD j 0 % 1048576 = sumF (fun j => l.getD j 0 % 1048576) (j + 1) := by rw [hz.out, sumF]
      have hzb : 0 ≤ z ∧ z ≤ 1048575 * (j : Int) := by
        rw [hz.out]; exact sumF_bounds j (fun i _ => by omega)
      have hzb2 : z ≤ 62914500 := by
        have : (1048575 : Int) * (j : Int) ≤ 1048575 * 60 := Int.mul_le_mul_of_nonneg_left (by omega) (by omega)
        omega
      obtain ⟨hz0, hz1⟩ := hzb
      clear hz1
      generalize l.getD j 0 = v at *
      obtain ⟨x, hx⟩ : ∃ x, v % 1048576 = x := ⟨_, rfl⟩
      have hxb : 0 ≤ x ∧ x ≤ 1048575 := by omega
      rw [hx] at N1 N2 hz2
      obtain ⟨p, hp⟩ : ∃ p, x * C = p := ⟨_, rfl⟩
      have hpb : 0 ≤ p ∧ p ≤ 104857500 := by
        rw [← hp]
        have h2 : x * C ≤ 1048575 * C := Int.mul_le_mul_of_nonneg_right hxb.2 (by omega)
        exact ⟨Int.mul_nonneg hxb.1 (by omega), by omega⟩
      rw [hp] at N2
      have N1H := Lib.hid N1
      have N2H := Lib.hid N2
      have ZH := Lib.hid hz2
      clear N1 N2 hz2 hz
      have hrow := Lib.hid (HA.out.alloc (.cells #[.int .i64 x] 3))
      have hrowb := Lib.hid (HB.out.alloc (.cells #[.int .i64 x] 3))
      have hnew := Lib.hid (seen_new wr [.int .i64 x] 3)
      have hx1 : Hid (Ext w (wr.alloc (.cells #[.int .i64 x] 3))) := HX.out.alloc _
      clear HA HB HX
      have hlow := fun g hg => (hrowb.out.lt g hg).2
      have LOW := Lib.hid hlow
      clear hlow
      go_wp2_with (first
        | (at_builtin
           refine wpList_put int_slice rfl (.tmp 37) (.tmp 39) rfl rfl hrow.out hx1.out rfl rfl hnew.out (by simp [Value.oneCell']) (by omega) (by omega) ?_
           intro v2 w2 own2 x2 gr2 at2
           rw [N1H.out] at own2
           have HA2 := Lib.hid (own2.alloc (.cells #[.int .i64 p] 3))
           have HB2 := Lib.hid ((hrowb.out.kept gr2 AP.out.kept).alloc (.cells #[.int .i64 p] 3))
           have HX2 := Lib.hid (x2.alloc (.cells #[.int .i64 p] 3))
           have AP2 := Lib.hid (AP.out.next at2 LOW.out)
           have hnew2 := Lib.hid (seen_new w2 [.int .i64 p] 3)
           clear own2 x2 gr2 at2)
        | (at_builtin
           refine wpList_put int_slice rfl (.tmp 41) (.tmp 48) rfl rfl HB2.out HX2.out rfl rfl hnew2.out (by simp [Value.oneCell']) (by omega) (by omega) ?_
           intro v3 w3 own3 x3 gr3 at3
           rw [N2H.out] at own3
           have HB3 := Lib.hid own3
           have HA3 := Lib.hid (HA2.out.kept gr3 AP2.out.symm.kept)
           have AP3 := Lib.hid (AP2.out.symm.next at3 (fun g hg => (HA2.out.lt g hg).2)).symm
           have HX3 := Lib.hid x3
           clear own3 x3 gr3 at3))
      go_roundw
      case rel => exact ⟨j + 1, z + x, by omega, by go_num, rfl, ZH.out, HA3.out, HB3.out, AP3, HX3.out⟩
      case measure => simp [intOf]; omega
    · obtain rfl : j = l.length := by omega
      obtain ⟨A1, c1, rfl, s1⟩ := own_seen HA.out
      obtain ⟨A2, c2, rfl, s2⟩ := own_seen HB.out
      have F1 : SeenF wr A1 l.length (fun j => l.getD j 0 % 1048576) := by
        have := Seen.fn s1
        rw [wts_len l 1 l.length (Nat.le_refl _)] at this
        exact this.congr fun i hi => by rw [wts_at l 1 hi, Int.mul_one]
      have F2 : SeenF wr A2 l.length (fun j => l.getD j 0 % 1048576 * C) := by
        have := Seen.fn s2
        rw [wts_len l C l.length (Nat.le_refl _)] at this
        exact this.congr fun i hi => by rw [wts_at l C hi]
      have hfb : ∀ j, j < l.length → 0 ≤ l.getD j 0 % 1048576 ∧ l.getD j 0 % 1048576 ≤ 1048575 := fun j _ => by omega
      have hzz := hz.out
      have hz0 : 0 ≤ z ∧ z ≤ 1073741823 := by
        have h1 := sumF_bounds l.length hfb
        have h2 : (1048575 : Int) * (l.length : Int) ≤ 1048575 * 60 := Int.mul_le_mul_of_nonneg_left (by omega) (by omega)
        rw [hzz]; omega
      obtain ⟨t, ht⟩ : ∃ t, a % 1073741824 = t := ⟨_, rfl⟩
      have ht0 : 0 ≤ t ∧ t ≤ 1073741823 := by omega
      obtain ⟨m1, m2⟩ := may_scale (t := t) hl ht0 hfb hC1
      have m3 := (may_scale (t := z) (C := C) hl hz0 hfb hC1).1
      have hmz : MayP z l.length (fun j => l.getD j 0 % 1048576) := m3.2 (by rw [← hzz]; omega)
      have hown : ∀ i, i < l.length → partF z l.length (fun j => l.getD j 0 % 1048576) i = l.getD i 0 % 1048576 := fun i hi => by
        rw [hzz]; exact own_parts (fun j hj => (hfb j hj).1) i hi
      have hsc : ∀ i, partF t l.length (fun j => l.getD j 0 % 1048576 * C) i = partF t l.length (fun j => l.getD j 0 % 1048576) i := fun i => part_scale (f := fun j => l.getD j 0 % 1048576) (by omega) i
      have X0 := Lib.hid HX.out
      obtain ⟨f, g, F1, F2, M1, M2, MZ, OWN, SC⟩ : ∃ f g : Nat → Int, Hid (SeenF wr A1 l.length f) ∧ Hid (SeenF wr A2 l.length g) ∧ Hid (MayP t l.length f ↔ (t = 0 ∨ 0 < sumF f l.length)) ∧ Hid (MayP t l.length g ↔ (t = 0 ∨ 0 < sumF f l.length)) ∧
        Hid (MayP z l.length f) ∧ Hid (∀ i, i < l.length → partF z l.length f i = f i) ∧ Hid (∀ i, partF t l.length g i = partF t l.length f i) := ⟨_, _, F1, F2, m1, m2, hmz, hown, hsc⟩
      clear hz HA HB AP HX s1 s2 hzz m1 m2 hmz hown hsc hfb x1
      by_cases hM : t = 0 ∨ 0 < sumF f l.length
      · have Y1 : Hid (MayP t l.length f) := M1.out.2 hM
        have Y2 : Hid (MayP t l.length g) := M2.out.2 hM
        clear hM
        go_wp2_with fail
        refine (split_yes t A1 l.length c1 f wr F1.out Y1.out).mono ?_; rintro e w2 ⟨x2, b2, _, _, rfl, r2⟩
        go_wp2_with fail
        refine (split_yes t A2 l.length c2 g w2 (F2.out.ext x2) Y2.out).mono ?_; rintro e w3 ⟨x3, b3, _, _, rfl, r3⟩
        go_wp2_with fail
        refine (split_yes z A1 l.length c1 f w3 (F1.out.ext (x2.trans x3)) MZ.out).mono ?_; rintro e w4 ⟨x4, b4, _, _, rfl, r4⟩
        have q2 := (r2.ext x3).ext x4
        have q3 := (r3.ext x4).congr fun i _ => SC.out i
        have q4 := r4.congr OWN.out
        have q1 := F1.out.ext ((x2.trans x3).trans x4)
        go_wp2_with fail
        refine (same_rows l.length _ _ _ _ _ _ q2.seen q3.seen (by omega)).mono ?_; rintro e w5 ⟨rfl, x5⟩
        go_wp2_with fail
        refine (same_rows l.length _ _ _ _ _ _ (q4.ext x5).seen (q1.ext x5) (by omega)).mono ?_; rintro e w6 ⟨rfl, x6⟩
        go_wp2_with fail
        go_ret
        exact ⟨rfl, ((((X0.out.trans x2).trans x3).trans x4).trans x5).trans x6⟩
      · have Y1 : Hid (¬ MayP t l.length f) := fun h => hM (M1.out.1 h)
        have Y2 : Hid (¬ MayP t l.length g) := fun h => hM (M2.out.1 h)
        clear hM
        go_wp2_with fail
        refine (split_no t A1 l.length c1 f wr F1.out (by omega) Y1.out).mono ?_; rintro e w2 ⟨rfl, x2⟩
        go_wp2_with fail
        refine (split_no t A2 l.length c2 g w2 (F2.out.ext x2) (by omega) Y2.out).mono ?_; rintro e w3 ⟨rfl, x3⟩
        go_wp2_with fail
        refine (split_yes z A1 l.length c1 f w3 (F1.out.ext (x2.trans x3)) MZ.out).mono ?_; rintro e w4 ⟨x4, b4, _, _, rfl, r4⟩
        have q4 := r4.congr OWN.out
        have q1 := F1.out.ext ((x2.trans x3).trans x4)
        go_wp2_with fail
        refine (same_rows 0 (fun _ => 0) none none 0 0 _ SeenF.none SeenF.none (by omega)).mono ?_; rintro e w5 ⟨rfl, x5⟩
        go_wp2_with fail
        refine (same_rows l.length _ _ _ _ _ _ (q4.ext x5).seen (q1.ext x5) (by omega)).mono ?_; rintro e w6 ⟨rfl, x6⟩
        go_wp2_with fail
        go_ret
        exact ⟨rfl, ((((X0.out.trans x2).trans x3).trans x4).trans x5).trans x6⟩

theorem walk (a : Int) (ha : 0 ≤ a ∧ a ≤ 4294967295) (A : Option Addr) (l : List Int) (c : Nat) (hc : l.length ≤ c) (hcm : c ≤ maxLen) (hw : ∀ n ∈ l, (Lit.int .u32 n).wf = true) (k : Int) (hk : 0 ≤ k ∧ k ≤ 255) (w : World)
    (hs : Seen w.heap.size w A (l.map (.int .u32))) :
    Calls Try.prog 5 #[.int .u32 a, .slice A l.length c, .int .u8 k] w (Ret w (.bool true)) := by
  by_cases hl : l.length ≤ 60
  · exact few a ha A l c hl hw k hk w hs
  · have h0 : 60 < (l.length : Int) := by omega
    have h1 : l.length ≤ 9223372036854775807 := by unfold maxLen at hcm; omega
    clear hs hcm hl hw
    go_enter Try.func5, Try.ntmps5
    go_wp2_with fail
    refine (L04.awake_any _).mono ?_; rintro e w1 ⟨rfl, x1⟩
    go_wp2_with fail
    go_ret
    exact ⟨rfl, x1⟩

set_option maxRecDepth 100000 in
theorem lifted (os : Os) (started : os.Started) (H : Type) (enc : TypeId × Value → H) :
    ReturnsInHanded {} Try.checked os 5 .any (Rows.shareScalesSpec.pre6 enc Try.prog Try.f5 [] false) (Rows.shareScalesSpec.post enc Try.prog Try.f5 false true false false) := by
  refine law_lift (C := Try.checked) own started (by kernel_rfl) Try.func5 laidOut rfl rfl Try.underlying4 (by kernel_rfl) ?_
    (ChangeSpec.witness6 (enc := enc) (C := Try.checked) false ⟨#[], #[.int .u32 0, .slice none 0 0, .int .u8 0], []⟩ 8 (by kernel_rfl) (by kernel_rfl) (by kernel_rfl) (by kernel_rfl)) ?_
  · intro H ds h
    match ds, h with
    | [_, _, _], _ => rfl
  · intro W base args ds p hval hA hlt hwt hsh
    rw [Try.params5] at hA hval
    obtain ⟨v0, vs0, d0, ds0, p0, q0, hargs, rfl, rfl, h0, r0⟩ := trodAll_cons hA
    obtain ⟨v1, vs1, d1, ds1, p1, q1, rfl, rfl, rfl, h1, r1⟩ := trodAll_cons r0
    obtain ⟨v2, vs2, d2, ds2, p2, q2, rfl, rfl, rfl, h2, r2⟩ := trodAll_cons r1
    obtain ⟨rfl, rfl, rfl⟩ := trodAll_nil r2
    obtain rfl : args = #[v0, v1, v2] := by cases args; simp_all
    obtain ⟨a0, rfl, rfl, rfl, wf0⟩ := open_int Try.underlying29 (hval 0 29 v0 rfl rfl) h0
    obtain ⟨A1, l1, c1, rfl, hc1, hm1, wf1, hs1⟩ := seen_ints Try.underlying30 Try.underlying29 (by kernel_rfl) (hval 1 30 v1 rfl rfl) h1
    obtain ⟨a2, rfl, rfl, rfl, wf2⟩ := open_int Try.underlying5 (hval 2 5 v2 rfl rfl) h2
    exact walk a0 (bounds_u32 wf0) A1 l1 c1 hc1 hm1 wf1 a2 (bounds_u8 wf2) W hs1

theorem holds : Rows.ShareScalesSaid :=
  OpenClaim.holds_of_wide 5 Try.f5 rfl rfl rfl rfl rfl rfl rfl ⟨rfl, rfl, rfl, rfl, rfl⟩ rfl rfl rfl rfl rfl (by kernel_rfl) Try.func5 (by kernel_rfl)
    (of_decide_eq_true (by kernel_rfl)) (by unfold Func.isWrapper; first | (rw [if_pos (by decide +kernel)]; kernel_rfl) | (rw [if_neg (by decide +kernel)]; exact ⟨rfl, rfl⟩))
    (fun os started H enc _ => lifted os started H enc)
end ShareScales
end Go.Proofs.Ytnkomnmdmbegiaa

