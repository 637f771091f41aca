/- The landed places of layer 12: an exception's, or those of odd numbers. -/
import Derived.Test.YtenajekmnggkeaaCoreB12
import Derived.Test.YtenajekmnggkeaaOwnI12
import Derived.Test.YtenajekmnggkeaaSameL11
namespace Go.Proofs.Ytenajekmnggkeaa
open Go.RowKit
open Go.Lib hiding intOf
namespace L12
open L10 (TN plainB patB tn)
open L11 (valsL TrieAt vals_any)

/-- Is it the exception at k? -/
def hitE (l : List WP) (t : List UInt8) (k : Nat) : Bool := (l[k]?).any fun x => decide (x.s.data.toList = t)
theorem hitE_at {l : List WP} {t : List UInt8} {k : Nat} (h : k < l.length) : hitE l t k = decide (l[k].s.data.toList = t) := by
  rw [hitE, List.getElem?_eq_getElem h]; rfl
def atE (l : List WP) (t : List UInt8) : Nat := firstF (hitE l t) l.length
def idxE (l : List WP) (t : List UInt8) : Int := if atE l t < l.length then (atE l t : Int) else -1
theorem places_hit {p : List TN} {l : List WP} {t : List UInt8} (h : atE l t < l.length) : placesL p (l.map tn) t = l[atE l t].ns := by
  obtain ⟨_, h2, h3⟩ := firstF_spec (hitE l t) l.length
  have e : (l.map tn).find? (fun x => decide (x.1 = t)) = some (tn l[atE l t]) := by
    rw [List.find?_eq_some_iff_getElem]
    have h4 : hitE l t (atE l t) = true := h3 h
    rw [hitE_at h] at h4
    refine ⟨h4, atE l t, by simpa using h, by simp, fun j hj => ?_⟩
    have h5 := h2 j hj
    rw [hitE_at (by have : j < atE l t := hj; omega)] at h5
    simp only [List.getElem_map, tn]
    simpa using h5
  rw [placesL, e]
  rfl
theorem places_none {p : List TN} {l : List WP} {t : List UInt8} (h : ¬ atE l t < l.length) : placesL p (l.map tn) t = oddL p t := by
  obtain ⟨h1, h2, _⟩ := firstF_spec (hitE l t) l.length
  have h0 : atE l t = l.length := by
    have : atE l t ≤ l.length := h1
    omega
  have e : (l.map tn).find? (fun x => decide (x.1 = t)) = none := by
    rw [List.find?_eq_none]
    intro x hx
    obtain ⟨y, hy, rfl⟩ := List.mem_map.1 hx
    obtain ⟨i, hi, rfl⟩ := List.getElem_of_mem hy
    have h5 := h2 i (by rw [show firstF (hitE l t) l.length = l.length from h0]; exact hi)
    rw [hitE_at hi] at h5
    show ¬ (decide (l[i].s.data.toList = t) = true)
    rw [h5]
    simp
  rw [placesL, e]
theorem bytes_eq (s t : ByteArray) : (s.toList == t.toList) = decide (s.data.toList = t.data.toList) := by
  rw [ByteArray.toList_eq, ByteArray.toList_eq]
  by_cases e : s.data.toList = t.data.toList
  · rw [decide_eq_true e]; simpa using e
  · rw [decide_eq_false e]; simpa using e
/-- The closure. -/
theorem isx_any (s t : ByteArray) (u : Value) (r : Nat) (w : World) (hr : w.cell? ⟨r, 0, none⟩ = some (.string t)) :
    Calls Try.prog 33 #[.agg #[.string s, u], .pointer (some ⟨r, 0, none⟩)] w (Ret w (.bool (decide (s.data.toList = t.data.toList)))) := by
  have hlt := World.block_lt_of_cell? w _ hr
  simp only at hlt
  go_enter Try.func33, Try.ntmps33
  go_wp2_with fail
  go_ret
  exact ⟨L04.ret_b (bytes_eq s t), (Ext.refl _).alloc _⟩
set_option maxRecDepth 100000 in
set_option maxHeartbeats 4000000 in
theorem index_any (A : Option Addr) (l : List WP) (n c : Nat) (t : ByteArray) (r : Nat) (w : World) (hs : SeenW w A l) (hn : n = l.length) (hm : n ≤ 9223372036854775807) (hr : w.cell? ⟨r, 0, none⟩ = some (.string t)) :
    Calls Try.prog 32 #[.slice A n c, .func (.func 33) #[] #[.pointer (some ⟨r, 0, none⟩)]] w (Ret w (.int .i64 (idxE l t.data.toList))) := by
  have SN := Lib.hid hs
  have HN := Lib.hid hn
  have HR := Lib.hid hr
  clear hs hn hr
  go_enter Try.func32, Try.ntmps32
  go_wp2_with fail
  go_loopw [8] (fun i wr => ∃ k : Nat, k ≤ n ∧ i = .int .i64 k ∧ Hid (∀ j, j < k → hitE l t.data.toList j = false) ∧ Hid (Ext w wr)) (fun i _ => n - (intOf i).toNat)
  case atStart => exact ⟨0, by omega, rfl, Lib.hid (fun j hj => absurd hj (by omega)), Lib.hid (Ext.refl _)⟩
  case round =>
    obtain ⟨k, hk, rfl, hall, X⟩ := hrel
    by_cases hlt : k < n
    · have hlt' : k < l.length := by rw [← HN.out]; exact hlt
      obtain ⟨⟨ad, hA, u0, u1⟩, _⟩ := (SN.out.ext X.out).get hlt'
      have YES := Lib.hid (fun h : hitE l t.data.toList k = true => show (k : Int) = idxE l t.data.toList by
        have e : atE l t.data.toList = k := firstF_eq (by omega) hall.out (fun _ => h)
        rw [idxE, e, if_pos hlt'])
      have NO := Lib.hid (fun h : hitE l t.data.toList k = false => show ∀ j, j < k + 1 → hitE l t.data.toList j = false from fun j hj => if e : j = k then e ▸ h else hall.out j (by omega))
      rw [hitE_at hlt'] at YES NO
      have C := Lib.hid (fun u => isx_any l[k].s t u r wr (X.out.at HR.out))
      generalize decide (l[k].s.data.toList = t.data.toList) = b at *
      generalize l[k].s = xs at *
      generalize l[k].A = xA at *
      generalize l[k].ns.length = xn at *
      generalize l[k].c = xc at *
      subst hA
      go_wp2_with fail
      refine (C.out _).mono ?_; rintro e w' ⟨rfl, x1⟩
      have X1 := Lib.hid (X.out.trans x1)
      clear x1 C u0 u1 X
      cases b with
      | true =>
        have H := Lib.hid (YES.out rfl)
        clear YES NO
        go_wp2_with fail
        go_ret
        exact ⟨ret_int H.out, X1.out⟩
      | false =>
        have H := Lib.hid (NO.out rfl)
        clear YES NO
        go_wp2_with fail
        go_roundw
        case rel => exact ⟨k + 1, by omega, by go_num, H, X1⟩
        case measure => simp [intOf]; omega
    · obtain rfl : k = n := by omega
      have H := Lib.hid (show -1 = idxE l t.data.toList by
        have e : atE l t.data.toList = l.length := firstF_eq (Nat.le_refl _) (by rw [← HN.out]; exact hall.out) (fun h => absurd h (by omega))
        rw [idxE, e, if_neg (by omega)])
      go_wp2_with fail
      go_ret
      exact ⟨ret_int H.out, X.out⟩
end L12
end Go.Proofs.Ytenajekmnggkeaa

