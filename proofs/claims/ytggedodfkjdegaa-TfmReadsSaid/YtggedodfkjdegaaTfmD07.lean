/- The landed Write of layer 7: its parts. -/
import Derived.Test.YtggedodfkjdegaaBytesW07
import Derived.Test.YtggedodfkjdegaaPackLib
import Derived.Test.YtggedodfkjdegaaFacts07
import Derived.Test.YtggedodfkjdegaaKeep
import Derived.Test.YtggedodfkjdegaaRowF
namespace Go.Proofs.Ytggedodfkjdegaa
open Go.RowKit
namespace L07
open L06

theorem be_one {x : Int} (h : 0 ≤ x) : be x.toNat 1 = [b8 x] := by
  simp only [be, b8]
  congr 1
  apply UInt8.toNat_inj.1
  simp
  omega
theorem be_two {x : Int} (h : 0 ≤ x) : be x.toNat 2 = twoW x := by
  simp only [be, b8, twoW]
  congr 1
  · apply UInt8.toNat_inj.1
    simp
    omega
  · congr 1
    apply UInt8.toNat_inj.1
    simp
    omega
theorem be_four {x : Int} (h : 0 ≤ x) : be x.toNat 4 = fourW x := by rw [fourW, if_neg (by omega)]
theorem up_four (x : Int) : be (up32 x).toNat 4 = fourW x := rfl

/-- So many numbers, each in z bytes. -/
def numsW (f : Nat → Int) (z n : Nat) : List UInt8 := catB (fun j => be (f j).toNat z) n
theorem numsW_length (f : Nat → Int) (z n : Nat) : (numsW f z n).length = z * n := catB_length (fun _ => be_length _ _) n

abbrev BoxP (w0 w : World) (g : Nat) (l : List UInt8) : Prop := BoxB 5 48 w0 w g l
abbrev KeepP (w0 : World) (g : Nat) (w w' : World) : Prop := Keep 5 g w0.heap.size w w'

set_option maxRecDepth 100000 in
set_option maxHeartbeats 4000000 in
theorem numbers_any (g z n c : Nat) (zi : Int) (A : Option Addr) (f : Nat → Int) (w0 w : World) (l : List UInt8) (hzi : zi = z) (hp : BoxP w0 w g l) (hg : w0.heap.size ≤ g) (hs : ∀ w', KeepP w0 g w w' → SeenF w' A n f)
    (h1 : 1 ≤ z) (h2 : z ≤ 4) (hf : ∀ j, j < n → 0 ≤ f j ∧ f j < 256 ^ z) (hn : n ≤ 1000) (hl : l.length ≤ 100000) :
    Calls Try.prog 17 #[.pointer (some ⟨g, 0, none⟩), .int .i64 zi, .slice A n c] w
      (fun e w' => e = .returned (.tuple #[]) ∧ BoxP w0 w' g (l ++ numsW f z n) ∧ KeepP w0 g w w') := by
  subst hzi
  have HF := Lib.hid hf
  have HS := Lib.hid hs
  have HP := Lib.hid hp
  clear hf hs hp
  go_enter Try.func17, Try.ntmps17
  go_wp2_with fail
  go_loopw [12] (fun i wr => ∃ k : Nat, k ≤ n ∧ i = .int .i64 k ∧ Hid (BoxP w0 wr g (l ++ numsW f z k) ∧ KeepP w0 g w wr)) (fun i _ => n - (intOf i).toNat)
  case atStart => exact ⟨0, by omega, rfl, Lib.hid ⟨by rw [numsW, catB, List.append_nil]; exact HP.out, Keep.refl _ _ _ _⟩⟩
  case round =>
    obtain ⟨k, hk, rfl, hh⟩ := hrel
    by_cases hlt : k < n
    · obtain ⟨hb, hkp⟩ := hh.out
      obtain ⟨ad, hA, gk⟩ := (HS.out wr hkp).get hlt
      first | subst hA | (obtain rfl := Option.some.inj hA)
      obtain ⟨f0, f1⟩ := HF.out k hlt
      obtain ⟨v, bx, ow⟩ := hb
      obtain ⟨x, hx⟩ : ∃ x, x = f k := ⟨_, rfl⟩
      rw [← hx] at gk f0 f1
      have T := Lib.hid (put_yes none [] 0 z x wr SeenB.nil (by simp) h1 h2 f0 f1)
      have HX := Lib.hid hx
      have OW := Lib.hid ow
      have BX := Lib.hid bx
      have HK := Lib.hid hkp
      clear hx f0 f1 hh ow bx hkp
      go_wp2_with fail
      refine T.out.mono ?_; intro e w1 hw1
      obtain ⟨A1, c1, rfl, hc1, s1, x1⟩ := GivesB.open (l := []) hw1
      simp only [List.nil_append, List.length_nil, Nat.zero_add] at s1 hc1 ⊢
      have bx1 : Boxed w1 g 48 v := (x1.block g BX.out.lt).trans BX.out
      obtain ⟨A2, n2, m2, w2, r2, c2, f2, b2, k2⟩ := BoxB.put (P := Try.prog) (T := 22) (ty := 22) bx1 (OW.out.over x1) (by decide) hg Try.underlying22 uint8_info A1 (be x.toNat z) z c1 s1 (be_length _ _).symm
        (by rw [List.length_append, numsW_length, be_length]; have : z * k ≤ 4 * 1000 := Nat.mul_le_mul h2 (by omega); omega)
      have c1' := bx1.cell
      have B2 := Lib.hid b2
      have K2 := Lib.hid ((HK.out.trans (Keep.of_ext x1)).trans k2)
      clear b2 k2 hc1 s1
      go_wp2_with (at_builtin; refine wpList_ran rfl _ _ rfl r2 ?_)
      go_roundw
      case rel => exact ⟨k + 1, by omega, by go_num, Lib.hid ⟨by rw [numsW, catB, ← List.append_assoc, ← HX.out]; exact B2.out, K2.out⟩⟩
      case measure => simp [intOf]; omega
    · have ek : k = n := by omega
      subst ek
      go_wp2_with fail
      go_end0
      exact ⟨rfl, hh.out.1, hh.out.2⟩

set_option maxRecDepth 100000 in
set_option maxHeartbeats 4000000 in
theorem pfixes_any (g n c : Nat) (A : Option Addr) (f : Nat → Int) (w0 w : World) (l : List UInt8) (hp : BoxP w0 w g l) (hg : w0.heap.size ≤ g) (hs : ∀ w', KeepP w0 g w w' → SeenF w' A n f)
    (hf : ∀ j, j < n → -16777216 ≤ f j ∧ f j ≤ 16777215) (hn : n ≤ 1000) (hl : l.length ≤ 100000) :
    Calls Try.prog 19 #[.pointer (some ⟨g, 0, none⟩), .slice A n c] w
      (fun e w' => e = .returned (.tuple #[]) ∧ BoxP w0 w' g (l ++ allW f n) ∧ KeepP w0 g w w') := by
  have HF := Lib.hid hf
  have HS := Lib.hid hs
  have HP := Lib.hid hp
  clear hf hs hp
  go_enter Try.func19, Try.ntmps19
  go_wp2_with fail
  go_loopw [10] (fun i wr => ∃ k : Nat, k ≤ n ∧ i = .int .i64 k ∧ Hid (BoxP w0 wr g (l ++ allW f k) ∧ KeepP w0 g w wr)) (fun i _ => n - (intOf i).toNat)
  case atStart => exact ⟨0, by omega, rfl, Lib.hid ⟨by rw [allW, catB, List.append_nil]; exact HP.out, Keep.refl _ _ _ _⟩⟩
  case round =>
    obtain ⟨k, hk, rfl, hh⟩ := hrel
    by_cases hlt : k < n
    · obtain ⟨hb, hkp⟩ := hh.out
      obtain ⟨ad, hA, gk⟩ := (HS.out wr hkp).get hlt
      first | subst hA | (obtain rfl := Option.some.inj hA)
      obtain ⟨f0, f1⟩ := HF.out k hlt
      obtain ⟨v, bx, ow⟩ := hb
      obtain ⟨x, hx⟩ : ∃ x, x = f k := ⟨_, rfl⟩
      rw [← hx] at gk f0 f1
      have T := Lib.hid (putfix_yes none [] 0 0 x wr SeenB.nil rfl (by simp) (by omega) (by omega))
      have HX := Lib.hid hx
      have OW := Lib.hid ow
      have BX := Lib.hid bx
      have HK := Lib.hid hkp
      clear hx f0 f1 hh ow bx hkp
      go_wp2_with fail
      refine T.out.mono ?_; intro e w1 hw1
      obtain ⟨A1, c1, rfl, hc1, s1, x1⟩ := GivesB.open (l := []) hw1
      simp only [List.nil_append, List.length_nil, Nat.zero_add] at s1 hc1 ⊢
      rw [up_four] at s1
      have bx1 : Boxed w1 g 48 v := (x1.block g BX.out.lt).trans BX.out
      obtain ⟨A2, n2, m2, w2, r2, c2, f2, b2, k2⟩ := BoxB.put (P := Try.prog) (T := 22) (ty := 22) bx1 (OW.out.over x1) (by decide) hg Try.underlying22 uint8_info A1 (fourW x) 4 c1 s1 (fourW_length _).symm
        (by rw [List.length_append, allW_length, fourW_length]; omega)
      have c1' := bx1.cell
      have B2 := Lib.hid b2
      have K2 := Lib.hid ((HK.out.trans (Keep.of_ext x1)).trans k2)
      clear b2 k2 hc1 s1
      go_wp2_with (at_builtin; refine wpList_ran rfl _ _ rfl r2 ?_)
      go_roundw
      case rel => exact ⟨k + 1, by omega, by go_num, Lib.hid ⟨by rw [allW, catB, ← List.append_assoc, ← HX.out]; exact B2.out, K2.out⟩⟩
      case measure => simp [intOf]; omega
    · have ek : k = n := by omega
      subst ek
      go_wp2_with fail
      go_end0
      exact ⟨rfl, hh.out.1, hh.out.2⟩

set_option maxRecDepth 100000 in
set_option maxHeartbeats 4000000 in
theorem thead_any (D : FontD) (P : FontP) (w : World) (I : FontIn D) :
    Calls Try.prog 18 #[fontV D P] w (fun e w' => ∃ b cs, e = .returned (.slice (some ⟨b, 0, none⟩) 12 12) ∧ Ext w w' ∧ w.heap.size ≤ b ∧ Blk w' b 3 cs ∧ ∀ j, j < 12 → cs[j]? = some (.int .i64 (headN D j))) := by
  have i1 := I.nw; have i2 := I.nh; have i3 := I.nd; have i4 := I.ni; have i5 := I.nk; have i6 := I.np; have i7 := I.ns; have i8 := I.nc; have i9 := I.first
  obtain ⟨f0, f1⟩ := i9
  obtain ⟨n0, n1⟩ := i8
  obtain ⟨_, j1⟩ := i1
  obtain ⟨_, j2⟩ := i2
  obtain ⟨_, j3⟩ := i3
  obtain ⟨_, j4⟩ := i4
  clear I
  unfold fontV
  go_enter Try.func18, Try.ntmps18
  go_wp2_with fail
  go_ret
  refine ⟨_, _, rfl, ((Ext.refl _).alloc _).alloc _, by simp, Blk.lit _ _ _ _ (by simp), fun j hj => ?_⟩
  match j, hj with
  | 0, _ => simp [headN]; omega
  | 1, _ => rfl
  | 2, _ => rfl
  | 3, _ => rfl
  | 4, _ => rfl
  | 5, _ => rfl
  | 6, _ => rfl
  | 7, _ => rfl
  | 8, _ => rfl
  | 9, _ => rfl
  | 10, _ => rfl
  | 11, _ => rfl
theorem seen_blk {w : World} {b n : Nat} {t : TypeId} {cs : List Value} {f : Nat → Int} (h : Blk w b t cs) (hf : ∀ j, j < n → cs[j]? = some (.int .i64 (f j))) : SeenF w (some ⟨b, 0, none⟩) n f := fun j hj =>
  ⟨_, rfl, h.lt, by rw [add_zero_addr, h.cell]; exact hf j hj⟩
end L07
end Go.Proofs.Ytggedodfkjdegaa

