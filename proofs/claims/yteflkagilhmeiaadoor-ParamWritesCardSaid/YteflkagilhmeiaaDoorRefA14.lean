/- The document's answers of layer 14: a number within bounds, its digits, a line. -/
import Derived.Lib.ItoaLen
import Derived.Test.YteflkagilhmeiaaDoorDig14
import Derived.Test.YteflkagilhmeiaaDoorChk14
namespace Go.Proofs.YteflkagilhmeiaaDoor
open Go.RowKit
namespace L14

/-- Within bounds. -/
def inB (n a b : Int) : Bool := decide (a ≤ n) && decide (n ≤ b)
theorem in_any (n a b : Int) (w : World) : Calls Tryd.prog 17 #[.int .i64 n, .int .i64 a, .int .i64 b] w (fun e w' => e = .returned (.bool (inB n a b)) ∧ w = w') := by
  by_cases h : a ≤ n
  · go_enter Tryd.func17, Tryd.ntmps17
    go_wp2_with fail
    go_ret
    exact ⟨ret_bool (by simp [inB]; omega), rfl⟩
  · go_enter Tryd.func17, Tryd.ntmps17
    go_wp2_with fail
    go_ret
    exact ⟨ret_bool (by simp [inB]; omega), rfl⟩

/-- A number's digits, as a string. -/
def digS (n : Int) : ByteArray := ⟨(Lib.itoa n).toArray⟩
theorem digS_size {n : Int} (h : Wide n) : (digS n).size ≤ 21 := by
  show (Lib.itoa n).toArray.size ≤ 21
  rw [List.size_toArray]
  exact Lib.itoa_length_le n h.1 h.2
theorem str_app (l m : List UInt8) : (⟨l.toArray⟩ : ByteArray) ++ ⟨m.toArray⟩ = ⟨(l ++ m).toArray⟩ := by
  apply ByteArray.ext
  simp [ByteArray.data_append]
theorem dig_small (n : Nat) (h : n < 10) (w : World) : Calls Tryd.prog 22 #[.int .i64 (n : Int)] w (Ret w (.string (digS n))) := by
  obtain ⟨b, hb⟩ : ∃ b, b = UInt8.ofNat (48 + n) := ⟨_, rfl⟩
  have e : digS n = ⟨#[b]⟩ := by rw [digS, Lib.itoa_nonneg, dec_small h, hb]
  have hbn : (b.toNat : Int) = 48 + n := by rw [hb, digit_nat h]; omega
  have ee := Lib.hid e
  have h1 : (n : Int) < 10 := by omega
  have h0 : ¬ (n : Int) < 0 := by omega
  have v1 : IntKind.i64.wrap (48 + (n : Int)) = 48 + (n : Int) := IntWalk.i64_in _ (by omega)
  have v2 : IntKind.u8.wrap (48 + (n : Int)) = 48 + (n : Int) := IntWalk.u8_in _ (by omega)
  have x1 : Ext w (w.alloc (.cells #[.int .u8 (48 + (n : Int))] 5)) := (Ext.refl _).alloc _
  have S := Lib.hid (Blk.seen (Blk.new w 5 #[.int .u8 (48 + (n : Int))]) (l := [b]) (by show [_] = [Value.int .u8 (b.toNat : Int)]; rw [hbn]))
  have cv := SeenB.str (P := Tryd.prog) S.out 26 9 5 1 1 Tryd.underlying26 Tryd.underlying5 Tryd.underlying9 rfl
  have X := Lib.hid x1
  clear x1 e S hb hbn
  go_enter Tryd.func22, Tryd.ntmps22
  go_wp2_with fail
  go_ret
  exact ⟨by rw [ee.out]; rfl, X.out⟩
theorem dig_pos : ∀ (n : Nat), (n : Int) ≤ 9223372036854775807 → ∀ w : World, Calls Tryd.prog 22 #[.int .i64 (n : Int)] w (Ret w (.string (digS n))) := by
  intro n
  induction n using Nat.strongRecOn with
  | _ n ih =>
    intro hn w
    by_cases h : n < 10
    · exact dig_small n h w
    · have e : digS n = digS ((n / 10 : Nat) : Int) ++ digS ((n % 10 : Nat) : Int) := by
        rw [digS, digS, digS, str_app, Lib.itoa_nonneg, Lib.itoa_nonneg, Lib.itoa_nonneg, dec_big h, dec_small (Nat.mod_lt _ (by decide))]
      have ee := Lib.hid e
      have h1 : ¬ (n : Int) < 10 := by omega
      have h0 : ¬ (n : Int) < 0 := by omega
      have v1 : IntKind.i64.wrap ((n / 10 : Nat) : Int) = ((n / 10 : Nat) : Int) := IntWalk.i64_in _ (by omega)
      have v2 : IntKind.i64.wrap ((n % 10 : Nat) : Int) = ((n % 10 : Nat) : Int) := IntWalk.i64_in _ (by omega)
      have C1 := Lib.hid (ih (n / 10) (by omega) (by omega) w)
      have C2 := Lib.hid (fun w' => dig_small (n % 10) (Nat.mod_lt _ (by decide)) w')
      have d1 : Int.tdiv (n : Int) 10 = ((n / 10 : Nat) : Int) := by rw [Int.tdiv_eq_ediv_of_nonneg (by omega)]; rfl
      have d2 : Int.tmod (n : Int) 10 = ((n % 10 : Nat) : Int) := by rw [Int.tmod_eq_emod_of_nonneg (by omega)]; rfl
      have d3 : (n : Int) / 10 = ((n / 10 : Nat) : Int) := rfl
      have d4 : (n : Int) % 10 = ((n % 10 : Nat) : Int) := rfl
      have z1 := digS_size (n := ((n / 10 : Nat) : Int)) ⟨by omega, by omega⟩
      have z2 := digS_size (n := ((n % 10 : Nat) : Int)) ⟨by omega, by omega⟩
      have zz : ¬ 9223372036854775807 < (digS ((n / 10 : Nat) : Int)).size + (digS ((n % 10 : Nat) : Int)).size := by omega
      clear e ih z1 z2
      generalize digS ((n / 10 : Nat) : Int) = s1 at *
      generalize digS ((n % 10 : Nat) : Int) = s2 at *
      generalize ((n / 10 : Nat) : Int) = p at *
      generalize ((n % 10 : Nat) : Int) = q at *
      generalize (n : Int) = m at *
      go_enter Tryd.func22, Tryd.ntmps22
      go_wp2_with fail
      refine C1.out.mono ?_
      rintro e w1 ⟨rfl, x1⟩
      go_wp2_with fail
      refine (C2.out _).mono ?_
      rintro e w2 ⟨rfl, x2⟩
      have X := Lib.hid (x1.trans x2)
      clear x1 x2 C1 C2
      go_wp2_with fail
      go_ret
      exact ⟨by rw [ee.out]; rfl, X.out⟩
theorem dig_neg1 (n : Nat) (h0 : 0 < n) (h : n < 10) (w : World) : Calls Tryd.prog 22 #[.int .i64 (-(n : Int))] w (Ret w (.string (digS (-(n : Int))))) := by
  have e : digS (-(n : Int)) = ⟨#[45]⟩ ++ digS (n : Int) := by
    rw [digS, digS, show (⟨#[45]⟩ : ByteArray) = ⟨[45].toArray⟩ from rfl, str_app, Lib.itoa_nonneg, Lib.itoa_neg n h0]
    rfl
  have ee := Lib.hid e
  obtain ⟨m, hm⟩ : ∃ m : Int, m = -(n : Int) := ⟨_, rfl⟩
  have h1 : m < 0 := by omega
  have h2 : -10 < m := by omega
  have v1 : IntKind.i64.wrap (-m) = (n : Int) := by rw [IntWalk.i64_in _ (by omega)]; omega
  have C1 := Lib.hid (dig_small n h w)
  have z1 := digS_size (n := (n : Int)) ⟨by omega, by omega⟩
  have zz : ¬ 9223372036854775807 < (⟨#[45]⟩ : ByteArray).size + (digS (n : Int)).size := by show ¬ _ < 1 + _; omega
  have zz2 : ¬ 9223372036854775807 < 1 + (digS (n : Int)).size := by omega
  rw [← hm] at ee ⊢
  generalize digS (n : Int) = s1 at *
  clear e hm z1
  generalize (n : Int) = p at *
  go_enter Tryd.func22, Tryd.ntmps22
  go_wp2_with fail
  refine C1.out.mono ?_
  rintro e w1 ⟨rfl, x1⟩
  have X := Lib.hid x1
  clear x1 C1
  go_wp2_with fail
  go_ret
  exact ⟨by rw [ee.out]; rfl, X.out⟩
theorem dig_neg : ∀ (n : Nat), 0 < n → (n : Int) ≤ 9223372036854775808 → ∀ w : World, Calls Tryd.prog 22 #[.int .i64 (-(n : Int))] w (Ret w (.string (digS (-(n : Int))))) := by
  intro n
  induction n using Nat.strongRecOn with
  | _ n ih =>
    intro h0 hn w
    by_cases h : n < 10
    · exact dig_neg1 n h0 h w
    · have e : digS (-(n : Int)) = digS (-((n / 10 : Nat) : Int)) ++ digS ((n % 10 : Nat) : Int) := by
        rw [digS, digS, digS, str_app, Lib.itoa_nonneg, Lib.itoa_neg n h0, Lib.itoa_neg (n / 10) (by omega), dec_big h, dec_small (Nat.mod_lt _ (by decide)), List.cons_append]
      have ee := Lib.hid e
      obtain ⟨m, hm⟩ : ∃ m : Int, m = -(n : Int) := ⟨_, rfl⟩
      have h1 : m < 0 := by omega
      have h2 : ¬ -10 < m := by omega
      have d1 : Int.tdiv m 10 = -((n / 10 : Nat) : Int) := by rw [hm, Int.neg_tdiv, Int.tdiv_eq_ediv_of_nonneg (by omega)]; rfl
      have d2 : Int.tmod m 10 = -((n % 10 : Nat) : Int) := by rw [hm, Int.neg_tmod, Int.tmod_eq_emod_of_nonneg (by omega)]; rfl
      have v1 : IntKind.i64.wrap (-((n / 10 : Nat) : Int)) = -((n / 10 : Nat) : Int) := IntWalk.i64_in _ (by omega)
      have v2 : IntKind.i64.wrap (-((n % 10 : Nat) : Int)) = -((n % 10 : Nat) : Int) := IntWalk.i64_in _ (by omega)
      have v3 : IntKind.i64.wrap ((n % 10 : Nat) : Int) = ((n % 10 : Nat) : Int) := IntWalk.i64_in _ (by omega)
      have C1 := Lib.hid (ih (n / 10) (by omega) (by omega) (by omega) w)
      have C2 := Lib.hid (fun w' => dig_small (n % 10) (Nat.mod_lt _ (by decide)) w')
      have z1 := digS_size (n := -((n / 10 : Nat) : Int)) ⟨by omega, by omega⟩
      have z2 := digS_size (n := ((n % 10 : Nat) : Int)) ⟨by omega, by omega⟩
      have zz : ¬ 9223372036854775807 < (digS (-((n / 10 : Nat) : Int))).size + (digS ((n % 10 : Nat) : Int)).size := by omega
      rw [← hm] at ee ⊢
      generalize digS (-((n / 10 : Nat) : Int)) = s1 at *
      generalize digS ((n % 10 : Nat) : Int) = s2 at *
      clear e ih hm z1 z2
      generalize ((n % 10 : Nat) : Int) = q at *
      obtain ⟨p, hp⟩ : ∃ p : Int, p = -((n / 10 : Nat) : Int) := ⟨_, rfl⟩
      rw [← hp] at *
      clear hp
      go_enter Tryd.func22, Tryd.ntmps22
      go_wp2_with fail
      refine C1.out.mono ?_
      rintro e w1 ⟨rfl, x1⟩
      go_wp2_with fail
      refine (C2.out _).mono ?_
      rintro e w2 ⟨rfl, x2⟩
      have X := Lib.hid (x1.trans x2)
      clear x1 x2 C1 C2
      go_wp2_with fail
      go_ret
      exact ⟨by rw [ee.out]; rfl, X.out⟩
theorem dig_any {n : Int} (h : Wide n) (w : World) : Calls Tryd.prog 22 #[.int .i64 n] w (Ret w (.string (digS n))) := by
  obtain ⟨h0, h1⟩ := h
  rcases Int.lt_or_le n 0 with hn | hn
  · obtain ⟨k, rfl⟩ : ∃ k : Nat, n = -(k : Int) := ⟨n.natAbs, by omega⟩
    exact dig_neg k (by omega) (by omega) w
  · obtain ⟨k, rfl⟩ : ∃ k : Nat, n = (k : Int) := ⟨n.toNat, by omega⟩
    exact dig_pos k (by omega) w

/-- A line's bytes: its name, its numbers. -/
def restS (l : List Int) : List UInt8 := l.flatMap fun n => 32 :: Lib.itoa n
def lineS (nm : List UInt8) (l : List Int) : List UInt8 := nm ++ restS l ++ [10]
def strS (l : List UInt8) : ByteArray := ⟨l.toArray⟩
theorem strS_size (l : List UInt8) : (strS l).size = l.length := by show l.toArray.size = _; rw [List.size_toArray]
theorem strS_app (l m : List UInt8) : strS l ++ strS m = strS (l ++ m) := str_app l m
theorem restS_len : ∀ (l : List Int), (∀ n ∈ l, Wide n) → (restS l).length ≤ 22 * l.length
  | [], _ => Nat.le_refl _
  | n :: l, h => by
    have h1 := restS_len l (fun m hm => h m (by simp [hm]))
    have h2 := h n (by simp)
    have h3 := Lib.itoa_length_le n h2.1 h2.2
    show ((32 :: Lib.itoa n) ++ restS l).length ≤ _
    rw [List.length_append, List.length_cons, List.length_cons]
    omega
theorem restS_next {l : List Int} {k : Nat} (hk : k < l.length) : restS (l.take (k + 1)) = restS (l.take k) ++ 32 :: Lib.itoa l[k] := by
  rw [List.take_add_one, List.getElem?_eq_getElem hk, Option.toList_some, restS, restS, List.flatMap_append, List.flatMap_singleton]
set_option maxHeartbeats 1000000 in
theorem line_any (nm : List UInt8) (hn : nm.length ≤ 100) (l : List Int) (hl : l.length ≤ 100) (hw : ∀ n ∈ l, Wide n) (g n c : Nat) (w : World) (hg : Blk w g 3 (l.map (.int .i64))) (hnl : n = l.length) (_ : n ≤ c) :
    Calls Tryd.prog 16 #[.string (strS nm), .slice (some ⟨g, 0, none⟩) n c] w (Ret w (.string (strS (lineS nm l)))) := by
  have LEN := Lib.hid (fun k => show (strS (nm ++ restS (l.take k))).size ≤ 2400 by
    rw [strS_size, List.length_append]
    have := restS_len (l.take k) (fun m hm => hw m (List.mem_of_mem_take hm))
    rw [List.length_take] at this
    omega)
  have NEXT := Lib.hid (fun k (hk : k < l.length) => show strS (nm ++ restS (l.take k)) ++ ⟨#[32]⟩ ++ digS l[k] = strS (nm ++ restS (l.take (k + 1))) by
    rw [show (⟨#[32]⟩ : ByteArray) = strS [32] from rfl, show digS l[k] = strS (Lib.itoa l[k]) from rfl, strS_app, strS_app, restS_next hk]
    simp)
  have LAST := Lib.hid (show strS (nm ++ restS (l.take l.length)) ++ ⟨#[10]⟩ = strS (lineS nm l) by
    rw [show (⟨#[10]⟩ : ByteArray) = strS [10] from rfl, strS_app, List.take_length, lineS])
  have DIG := Lib.hid (fun k (hk : k < l.length) w' => dig_any (hw l[k] (List.getElem_mem hk)) w')
  have DSZ := Lib.hid (fun k (hk : k < l.length) => digS_size (hw l[k] (List.getElem_mem hk)))
  have HG := Lib.hid hg
  have n64 : (n : Int) ≤ 100 := by omega
  have START := Lib.hid (show strS nm = strS (nm ++ restS (l.take 0)) by simp [restS])
  have HNL := Lib.hid hnl
  clear hg hw hnl
  go_enter Tryd.func16, Tryd.ntmps16
  go_wp2_with fail
  go_loopw [0, 5] (fun vs vi wr => ∃ k : Nat, k ≤ n ∧ vs = .string (strS (nm ++ restS (l.take k))) ∧ vi = .int .i64 (k : Int) ∧ Hid (Ext w wr)) (fun _ i _ => 101 - (intOf i).toNat)
  case atStart => exact ⟨0, Nat.zero_le _, by rw [START.out], rfl, Lib.hid (Ext.refl _)⟩
  case round =>
    obtain ⟨k, hk, rfl, rfl, X⟩ := hrel
    by_cases hlt : k < n
    · have hkl : k < l.length := by rw [← HNL.out]; exact hlt
      have hk64 : (k : Int) < (n : Int) := by omega
      have cl := (HG.out.ext X.out).cell k
      rw [List.getElem?_map, List.getElem?_eq_getElem hkl, Option.map_some] at cl
      have D := Lib.hid (DIG.out k hkl wr)
      have E := Lib.hid (NEXT.out k hkl)
      have z0 := LEN.out k
      have z1 := DSZ.out k hkl
      have z2 : ¬ 9223372036854775807 < (strS (nm ++ restS (l.take k))).size + 1 := by omega
      have z3 : ¬ 9223372036854775807 < (strS (nm ++ restS (l.take k))).size + 1 + (digS l[k]).size := by omega
      generalize strS (nm ++ restS (l.take k)) = s0 at *
      generalize digS l[k] = s1 at *
      generalize l[k] = v at *
      clear z0 z1 hkl
      go_wp2_with fail
      refine D.out.mono ?_
      rintro e w1 ⟨rfl, x1⟩
      have X := Lib.hid (X.out.trans x1)
      clear D x1
      go_wp2_with fail
      go_roundw
      case rel => exact ⟨k + 1, hlt, by rw [← E.out], by go_num, X⟩
      case measure => simp [intOf]; omega
    · obtain rfl : k = n := by omega
      have E := Lib.hid (show strS (nm ++ restS (l.take k)) ++ ⟨#[10]⟩ = strS (lineS nm l) by rw [HNL.out]; exact LAST.out)
      have z0 := LEN.out k
      have z2 : ¬ 9223372036854775807 < (strS (nm ++ restS (l.take k))).size + 1 := by omega
      generalize strS (nm ++ restS (l.take k)) = s0 at *
      clear z0
      go_wp2_with fail
      go_ret
      exact ⟨by rw [← E.out]; rfl, X.out⟩
end L14
end Go.Proofs.YteflkagilhmeiaaDoor

