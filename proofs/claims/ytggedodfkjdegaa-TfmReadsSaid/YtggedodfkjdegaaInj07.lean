/- Two fonts that may be, and have the same bytes, are the same. -/
import Derived.Test.YtggedodfkjdegaaFacts07
import Derived.Test.YtggedodfkjdegaaRefSameC07
import Derived.Test.YtggedodfkjdegaaBytesW07
namespace Go.Proofs.Ytggedodfkjdegaa
open Go.RowKit
namespace L07
open L06

/-- Of equal sequences of equally long lists each one is equal. -/
theorem catB_inj {g h : Nat → List UInt8} {k : Nat} (hg : ∀ j, (g j).length = k) (hh : ∀ j, (h j).length = k) : ∀ n, catB g n = catB h n → ∀ j, j < n → g j = h j
  | 0, _, j, hj => by omega
  | n + 1, e, j, hj => by
    rw [catB, catB] at e
    obtain ⟨e1, e2⟩ := List.append_inj e (by rw [catB_length hg, catB_length hh])
    by_cases hjn : j = n
    · subst hjn; exact e2
    · exact catB_inj hg hh n e1 j (by omega)
theorem b8_inj {x y : Int} (h : b8 x = b8 y) : x % 256 = y % 256 := by rw [← b8_int x, ← b8_int y, h]
theorem twoW_inj {x y : Int} (hx : 0 ≤ x ∧ x < 65536) (hy : 0 ≤ y ∧ y < 65536) (h : twoW x = twoW y) : x = y := by
  simp only [twoW, List.cons.injEq, and_true] at h
  have h1 := b8_inj h.1
  have h2 := b8_inj h.2
  omega
theorem fourW_inj {x y : Int} (hx : -16777216 ≤ x ∧ x ≤ 16777215) (hy : -16777216 ≤ y ∧ y ≤ 16777215) (h : fourW x = fourW y) : x = y := by
  have e : ∀ z : Int, -16777216 ≤ z ∧ z ≤ 16777215 → num (fourW z) = (if z < 0 then z + 4294967296 else z).toNat := fun z hz => by
    rw [fourW, num_be]; split <;> omega
  have := congrArg num h
  rw [e x hx, e y hy] at this
  split at this <;> split at this <;> omega
theorem fourW_inj' {x y : Int} (hx : 0 ≤ x ∧ x < 4294967296) (hy : 0 ≤ y ∧ y < 4294967296) (h : fourW x = fourW y) : x = y := by
  have e : ∀ z : Int, 0 ≤ z ∧ z < 4294967296 → num (fourW z) = z.toNat := fun z hz => by
    rw [fourW, if_neg (by omega), num_be]; omega
  have := congrArg num h
  rw [e x hx, e y hy] at this
  omega
theorem head_le (D : FontD) (I : FontIn D) (j : Nat) (hj : j < 12) : 0 ≤ headN D j ∧ headN D j < 65536 := by
  have i1 := I.nw; have i2 := I.nh; have i3 := I.nd; have i4 := I.ni; have i5 := I.nk; have i6 := I.np; have i7 := I.ns; have i8 := I.nc; have i9 := I.first
  match j, hj with
  | 0, _ => simp only [headN]; omega
  | 1, _ => simp only [headN]; omega
  | 2, _ => simp only [headN]; omega
  | 3, _ => simp only [headN]; omega
  | 4, _ => simp only [headN]; omega
  | 5, _ => simp only [headN]; omega
  | 6, _ => simp only [headN]; omega
  | 7, _ => simp only [headN]; omega
  | 8, _ => simp only [headN]; omega
  | 9, _ => simp only [headN]; omega
  | 10, _ => simp only [headN]; omega
  | 11, _ => simp only [headN]; omega
theorem allW_inj {f g : Nat → Int} {n : Nat} (hf : ∀ j, j < n → -16777216 ≤ f j ∧ f j ≤ 16777215) (hg : ∀ j, j < n → -16777216 ≤ g j ∧ g j ≤ 16777215) (h : allW f n = allW g n) : L04.sameB n n f g = true :=
  decide_eq_true ⟨rfl, fun j hj => fourW_inj (hf j hj) (hg j hj) (catB_inj (k := 4) (fun _ => fourW_length _) (fun _ => fourW_length _) n h j hj)⟩
theorem write_inj {D E : FontD} (hD : checkB D = true) (hE : checkB E = true) (h : writeB D = writeB E) : sameFontB D E = true := by
  have I := check_in hD
  have J := check_in hE
  obtain ⟨h1, h2⟩ := List.append_inj h (by rw [catB_length (k := 2) (fun _ => rfl), catB_length (k := 2) (fun _ => rfl)])
  have hh : ∀ j, j < 12 → headN D j = headN E j := fun j hj => twoW_inj (head_le D I j hj) (head_le E J j hj) (catB_inj (k := 2) (fun _ => rfl) (fun _ => rfl) 12 h1 j hj)
  have n2 : D.first = E.first := hh 2 (by omega)
  have n3 : D.first + D.nc - 1 = E.first + E.nc - 1 := hh 3 (by omega)
  have n4 : (D.nw : Int) = E.nw := hh 4 (by omega)
  have n5 : (D.nh : Int) = E.nh := hh 5 (by omega)
  have n6 : (D.nd : Int) = E.nd := hh 6 (by omega)
  have n7 : (D.ni : Int) = E.ni := hh 7 (by omega)
  have n8 : (D.ns : Int) = E.ns := hh 8 (by omega)
  have n9 : (D.nk : Int) = E.nk := hh 9 (by omega)
  have n11 : (D.np : Int) = E.np := hh 11 (by omega)
  have mc : E.nc = D.nc := by omega
  have mw : E.nw = D.nw := by omega
  have mh : E.nh = D.nh := by omega
  have md : E.nd = D.nd := by omega
  have mi : E.ni = D.ni := by omega
  have ms : E.ns = D.ns := by omega
  have mk : E.nk = D.nk := by omega
  have mp : E.np = D.np := by omega
  have W := J.wd; have H := J.hd; have DD := J.dd; have II := J.id; have K := J.kd; have PP := J.pd; have CC := J.chr; have SS := J.stp
  rw [mw] at W; rw [mh] at H; rw [md] at DD; rw [mi] at II; rw [mk] at K; rw [mp] at PP
  rw [mc] at CC; rw [ms] at SS
  unfold bodyW at h2
  rw [mc, mw, mh, md, mi, ms, mk, mp] at h2
  obtain ⟨b1, h2⟩ := List.append_inj h2 (by rw [fourW_length, fourW_length])
  obtain ⟨b2, h2⟩ := List.append_inj h2 (by rw [fourW_length, fourW_length])
  obtain ⟨b3, h2⟩ := List.append_inj h2 (by rw [catB_length (k := 4) (fun _ => rfl), catB_length (k := 4) (fun _ => rfl)])
  obtain ⟨b4, h2⟩ := List.append_inj h2 (by rw [allW_length, allW_length])
  obtain ⟨b5, h2⟩ := List.append_inj h2 (by rw [allW_length, allW_length])
  obtain ⟨b6, h2⟩ := List.append_inj h2 (by rw [allW_length, allW_length])
  obtain ⟨b7, h2⟩ := List.append_inj h2 (by rw [allW_length, allW_length])
  obtain ⟨b8', h2⟩ := List.append_inj h2 (by rw [catB_length (k := 4) (fun _ => rfl), catB_length (k := 4) (fun _ => rfl)])
  obtain ⟨b9, b10⟩ := List.append_inj h2 (by rw [allW_length, allW_length])
  have s0 := fourW_inj' I.sum J.sum b1
  have s1 := fourW_inj' (by have := I.design; omega) (by have := J.design; omega) b2
  have rc : rowsB 6 D.nc D.chr E.chr = true := decide_eq_true fun i hi => by
    have e := catB_inj (k := 4) (fun _ => rfl) (fun _ => rfl) D.nc b3 i hi
    simp only [chrW, List.cons.injEq, and_true] at e
    obtain ⟨c0, c1, c2, c3⟩ := e
    have c0 := b8_inj c0; have c1 := b8_inj c1; have c2 := b8_inj c2; have c3 := b8_inj c3
    obtain ⟨p0, p1, p2, p3, p4⟩ := I.chr i hi
    obtain ⟨q0, q1, q2, q3, q4⟩ := CC i hi
    have i1 := I.nw; have i2 := I.nh; have i3 := I.nd; have i4 := I.ni; have i7 := I.ns
    intro j hj
    match j, hj with
    | 0, _ => omega
    | 1, _ => omega
    | 2, _ => omega
    | 3, _ => omega
    | 4, _ => omega
    | 5, _ => omega
  have rs : rowsB 4 D.ns D.stp E.stp = true := decide_eq_true fun i hi => by
    have e := catB_inj (k := 4) (fun _ => rfl) (fun _ => rfl) D.ns b8' i hi
    simp only [stpW, List.cons.injEq, and_true] at e
    obtain ⟨c0, c1, c2, c3⟩ := e
    have c0 := b8_inj c0; have c1 := b8_inj c1; have c2 := b8_inj c2; have c3 := b8_inj c3
    obtain ⟨p0, p1, p2, p3⟩ := I.stp i hi
    obtain ⟨q0, q1, q2, q3⟩ := SS i hi
    intro j hj
    match j, hj with
    | 0, _ => omega
    | 1, _ => omega
    | 2, _ => omega
    | 3, _ => omega
  rw [sameFontB, decide_eq_true ⟨s0, s1, n2, mc.symm, ms.symm⟩, rc, rs, mw, mh, md, mi, mk, mp, allW_inj I.wd W b4, allW_inj I.hd H b5, allW_inj I.dd DD b6, allW_inj I.id II b7, allW_inj I.kd K b9, allW_inj I.pd PP b10]
  rfl
end L07
end Go.Proofs.Ytggedodfkjdegaa

