/- The landed decimal: a number that is written so, and whether there is one. -/
import Derived.Test.YteflkagilhmeiaaDoorLay14
import Derived.Test.YteflkagilhmeiaaDoorHome14
import Derived.Test.YteflkagilhmeiaaDoorShelf
import Derived.Lib.AtoiAllCases
namespace Go.Proofs.YteflkagilhmeiaaDoor
open Go.RowKit
namespace L14

/-- The number that bytes are the decimal form of. -/
def decB (l : List UInt8) : Option Int := match Lib.atoiAll l with
  | .ok v => if Lib.itoa v = l then some v else none
  | _ => none
/-- What decimal answers. -/
def DecQ (w : World) (r : Option Int) (e : Ending) (w' : World) : Prop := (∃ n, e = .returned (.tuple #[.int .i64 n, .bool r.isSome]) ∧ ∀ v, r = some v → n = v) ∧ Ext w w'
theorem decB_wide {l : List UInt8} {v : Int} (h : decB l = some v) : Wide v := by
  unfold decB at h
  split at h
  · rename_i v' hv
    split at h
    · cases h; exact Lib.atoiAll_bounds hv
    · cases h
  · cases h

theorem ext_bytes (w : World) (s : ByteArray) : Ext w (Lib.bytesWorld w 5 s) := Lib.bytesWorld_below _ _ _
set_option maxRecDepth 100000 in
theorem decimal_any (s : ByteArray) (w : World) (hs : s.size ≤ 1000000) (hH : Home w) : Calls Tryd.prog 26 #[.string s] w (DecQ w (decB s.data.toList)) := by
  cases ha : Lib.atoiAll s.data.toList with
  | ok v =>
    have hb := Lib.atoiAll_bounds ha
    have A1 := Lib.hid (Tryd.strconv_Atoi_ok s (by omega) v ha w)
    by_cases hi : Lib.itoa v = s.data.toList
    · have hd := Lib.hid (show decB s.data.toList = some v by rw [decB, ha]; exact if_pos hi)
      have hq : (⟨(Lib.itoa v).toArray⟩ : ByteArray) = s := by cases s; rename_i a; simp only at hi; rw [hi]
      rw [hd.out]
      go_enter Tryd.func26, Tryd.ntmps26
      go_wp2_with fail
      refine A1.out.mono ?_
      rintro e w1 ⟨rfl, hw1⟩
      have x1 : Ext w w1 := by
        rcases hw1 with rfl | ⟨t, rfl⟩
        · exact Ext.refl _
        · exact ext_bytes _ _
      have I1 := Lib.hid (Tryd.strconv_Itoa v hb.1 hb.2 w1 (hH.ext x1).tab)
      rw [hq] at I1
      clear hw1
      go_wp2_with fail
      refine I1.out.mono ?_
      rintro e w2 ⟨rfl, k, os, rfl⟩
      have x2 := x1.trans (show Ext w1 _ from Lib.below_grow _ _ (Nat.le_refl _) k os)
      go_wp2_with fail
      go_ret2
      exact ⟨⟨v, rfl, fun u hu => by cases hu; rfl⟩, x2⟩
    · have hd := Lib.hid (show decB s.data.toList = none by rw [decB, ha]; exact if_neg hi)
      have hq : ((⟨(Lib.itoa v).toArray⟩ : ByteArray) = s) = False := by
        simp only [eq_iff_iff, iff_false]
        rintro rfl
        exact hi rfl
      rw [hd.out]
      go_enter Tryd.func26, Tryd.ntmps26
      go_wp2_with fail
      refine A1.out.mono ?_
      rintro e w1 ⟨rfl, hw1⟩
      have x1 : Ext w w1 := by
        rcases hw1 with rfl | ⟨t, rfl⟩
        · exact Ext.refl _
        · exact ext_bytes _ _
      have I1 := Lib.hid (Tryd.strconv_Itoa v hb.1 hb.2 w1 (hH.ext x1).tab)
      clear hw1
      go_wp2_with fail
      refine I1.out.mono ?_
      rintro e w2 ⟨rfl, k, os, rfl⟩
      have x2 := x1.trans (show Ext w1 _ from Lib.below_grow _ _ (Nat.le_refl _) k os)
      go_wp2_with fail
      go_ret2
      exact ⟨⟨v, by simp [ByteArray.toList_eq, hi], fun u hu => by cases hu⟩, x2⟩
  | «syntax» =>
    have hd := Lib.hid (show decB s.data.toList = none by rw [decB, ha])
    obtain ⟨tp, p, hv⟩ := hH.syn
    have A1 := Lib.hid (Tryd.strconv_Atoi_syntax s (by omega) ha _ w hv (.inr ⟨_, _, rfl⟩))
    rw [hd.out]
    go_enter Tryd.func26, Tryd.ntmps26
    go_wp2_with fail
    refine A1.out.mono ?_
    rintro e w1 ⟨N, rfl, _, _, x1⟩
    have x1 : Ext w w1 := x1
    go_wp2_with fail
    go_ret2
    exact ⟨⟨0, rfl, fun u hu => by cases hu⟩, x1⟩
  | range =>
    have hd := Lib.hid (show decB s.data.toList = none by rw [decB, ha])
    obtain ⟨tp, p, hv⟩ := hH.rng
    have A1 := Lib.hid (Tryd.strconv_Atoi_range s (by omega) ha _ w hv (.inr ⟨_, _, rfl⟩))
    rw [hd.out]
    generalize Lib.atoiSat s.data.toList = z at A1
    go_enter Tryd.func26, Tryd.ntmps26
    go_wp2_with fail
    refine A1.out.mono ?_
    rintro e w1 ⟨N, rfl, _, _, x1⟩
    have x1 : Ext w w1 := x1
    go_wp2_with fail
    go_ret2
    exact ⟨⟨z, rfl, fun u hu => by cases hu⟩, x1⟩
end L14
end Go.Proofs.YteflkagilhmeiaaDoor

