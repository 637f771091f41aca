/- LiangGaps: it does not matter by which bytes words are parted: for every input. -/
import Derived.Test.YtijhabhnhglhgaaDoorAwakeB10
namespace Go.Proofs.YtijhabhnhglhgaaDoor
open Go.ChangeShapes Go.WideShapes Go.ChangeAt Go.RowKit Go.Deep
namespace LiangGaps
open L10

/-! ### Plain -/
def pieceN (m : Nat) : List UInt8 := if m = 0 then [9] else if m = 1 then [10] else if m = 2 then [13, 32] else [32]
def pieceB (m : Nat) (b : UInt8) : List UInt8 := if gapB b = true then pieceN m else [b]
def otherN (f : Nat → Nat) (l : List UInt8) : Nat → List UInt8
  | 0 => []
  | k + 1 => otherN f l k ++ pieceB (f k) (l.getD k 0)
abbrev St := List (List UInt8) × List UInt8
def stepW (s : St) (b : UInt8) : St := if gapB b = true then (if s.2 = [] then s.1 else s.1 ++ [s.2], []) else (s.1, s.2 ++ [b])
def finW (s : St) : List (List UInt8) := s.1 ++ if s.2 = [] then [] else [s.2]
theorem words_fold : ∀ (l : List UInt8) (s : St), s.1 ++ wordsGo s.2 l = finW (l.foldl stepW s)
  | [], s => rfl
  | b :: r, s => by
    rw [List.foldl_cons, ← words_fold r, wordsGo, stepW]
    split
    · split <;> simp
    · rfl
theorem wordsL_fold (l : List UInt8) : wordsL l = finW (l.foldl stepW ([], [])) := by rw [← words_fold]; rfl
theorem step_gap {s : St} {b : UInt8} (h : gapB b = true) : stepW s b = (if s.2 = [] then s.1 else s.1 ++ [s.2], []) := if_pos h
theorem piece_gap (m : Nat) {b : UInt8} (h : gapB b = true) (s : St) : (pieceN m).foldl stepW s = stepW s b := by
  rw [step_gap h]
  have g9 : gapB 9 = true := by decide
  have g10 : gapB 10 = true := by decide
  have g13 : gapB 13 = true := by decide
  have g32 : gapB 32 = true := by decide
  unfold pieceN
  split
  · rw [List.foldl_cons, List.foldl_nil, step_gap g9]
  · split
    · rw [List.foldl_cons, List.foldl_nil, step_gap g10]
    · split
      · rw [List.foldl_cons, List.foldl_cons, List.foldl_nil, step_gap g13, step_gap g32]; simp
      · rw [List.foldl_cons, List.foldl_nil, step_gap g32]
theorem other_fold (f : Nat → Nat) (l : List UInt8) : ∀ k, k ≤ l.length → (otherN f l k).foldl stepW ([], []) = (l.take k).foldl stepW ([], [])
  | 0, _ => rfl
  | k + 1, h => by
    rw [otherN, List.foldl_append, other_fold f l k (by omega), List.take_succ_eq_append_getElem (by omega), List.foldl_append]
    rw [List.getD, List.getElem?_eq_getElem (by omega)]
    simp only [Option.getD_some]
    unfold pieceB
    split
    · rename_i hg
      rw [piece_gap _ hg]; rfl
    · rfl
theorem other_words (f : Nat → Nat) (l : List UInt8) : wordsL (otherN f l l.length) = wordsL l := by
  rw [wordsL_fold, wordsL_fold, other_fold f l _ (Nat.le_refl _), List.take_length]
theorem other_parse (f : Nat → Nat) (l : List UInt8) : parseV (otherN f l l.length) = parseV l := by
  unfold parseV; rw [other_words]
theorem piece_len (m : Nat) (b : UInt8) : (pieceB m b).length ≤ 2 := by
  unfold pieceB pieceN
  split
  · split
    · simp
    · split
      · simp
      · split <;> simp
  · simp
theorem other_len (f : Nat → Nat) (l : List UInt8) : ∀ k, (otherN f l k).length ≤ 2 * k
  | 0 => by simp [otherN]
  | k + 1 => by
    have := other_len f l k
    have := piece_len (f k) (l.getD k 0)
    rw [otherN, List.length_append]
    omega

/-! ### Memory -/
theorem seenB_lit (w : World) (cs : Array Value) (l : List UInt8) (t : TypeId) (h : cs = (bv l).toArray) : SeenB (w.alloc (.cells cs t)) (some ⟨w.heap.size, 0, none⟩) l :=
  Blk.seen (Blk.lit w w.heap.size t cs rfl) (by rw [h])
theorem run_more {w w0 : World} {v : Value} {m : List UInt8} (h : OwnB 5 w0 w v m) {a : Option Addr} (n : Nat) (l : List UInt8) (hs : SeenB w a l) (hn : n = l.length) (hm : m.length + l.length ≤ 1000000) (ty : TypeId) :
    ∃ v' w', (Builtin.append_ #[22, 22] ty #[v, .slice a n n]).run Tryd.prog w = .ok v' w' ∧ OwnB 5 w0 w' v' (m ++ l) := by
  obtain ⟨v', w', h1, h2, _⟩ := run_putB (P := Tryd.prog) 22 ty 5 Tryd.underlying22 byte_info h a l n n hs hn hm
  exact ⟨v', w', h1, h2⟩
/-- What both texts tell. -/
theorem both (A0 : Option Addr) (l : List UInt8) (c0 : Nat) (f : Nat → Nat) (hl : l.length ≤ 5000) (w : World) (hb : SeenB w A0 l) (hT : Tabs w) :
    Calls Tryd.prog 10 #[.slice A0 l.length c0] w fun e w1 => Ext w w1 ∧ ∃ a n ca b q cb E, e = .returned (.tuple #[.agg #[.slice a n ca, .slice b q cb], .int .i64 E]) ∧
      ∀ w2 A c, Ext w1 w2 → SeenB w2 A (otherN f l l.length) → Calls Tryd.prog 10 #[.slice A (otherN f l l.length).length c] w2 fun e w3 => Ext w2 w3 ∧ ∃ a' n' ca' b' q' cb', e = .returned (.tuple #[.agg #[.slice a' n' ca', .slice b' q' cb'], .int .i64 E]) ∧
        ∀ w4, Ext w3 w4 → Calls Tryd.prog 12 #[.agg #[.slice a n ca, .slice b q cb], .agg #[.slice a' n' ca', .slice b' q' cb']] w4 (Ret w4 (.bool true)) := by
  refine (parse_all A0 l c0 w hb (by omega) hT).mono ?_
  rintro e w1 ⟨y, ⟨l1, m1⟩, ⟨a, ca, b, cb⟩, rfl, hd, g⟩
  have hp := other_parse f l
  have hE : parseE (otherN f l l.length) = parseE l := by unfold parseE; rw [hp]
  have hD : parseD (otherN f l l.length) = parseD l := by unfold parseD; rw [hp]
  refine ⟨y, a, l1.length, ca, b, m1.length, cb, parseE l, rfl, fun w2 A c x2 sb => ?_⟩
  have := other_len f l l.length
  refine (parse_all A _ c w2 sb (by omega) ((hT.ext y).ext x2)).mono ?_
  rintro e w3 ⟨y3, ⟨l2, m2⟩, ⟨a', ca', b', cb'⟩, rfl, hd', g'⟩
  refine ⟨y3, a', l2.length, ca', b', m2.length, cb', by rw [hE]; rfl, fun w4 x4 => ?_⟩
  have S := same_all ((g.ext x2).ext (y3.trans x4)) (g'.sn.ext x4)
  rwa [hd', hD, hd, decide_eq_true rfl] at S

set_option maxRecDepth 100000 in
set_option maxHeartbeats 16000000 in
theorem core (A0 : Option Addr) (l : List UInt8) (c0 : Nat) (A1 : Option Addr) (y : List UInt8) (c1 : Nat) (w : World) (h0 : SeenB w A0 l) (h1 : SeenB w A1 y) (hT : Tabs w) (hl : (l.length : Int) ≤ 5000) (hy1 : 1 ≤ (y.length : Int)) (hy2 : (y.length : Int) ≤ 100) :
    Calls Tryd.prog 7 #[.slice A0 l.length c0, .slice A1 y.length c1] w (Ret w (.bool true)) := by
  obtain ⟨F, hF⟩ : ∃ F : Nat → Nat, F = fun i => (y.getD (i % y.length) 0).toNat % 4 := ⟨_, rfl⟩
  have HB := Lib.hid (fun w' (x : Ext w w') => both A0 l c0 F (by omega) w' (h0.ext x) (hT.ext x))
  have HO := Lib.hid (fun k => show otherN F l (k + 1) = otherN F l k ++ pieceB (F k) (l.getD k 0) from rfl)
  have HZ := Lib.hid (show otherN F l 0 = [] from rfl)
  have HL := Lib.hid (fun k => other_len F l k)
  have HF := Lib.hid (fun k => show F k = (y.getD (k % y.length) 0).toNat % 4 by rw [hF])
  have S0 := Lib.hid (fun w' (x : Ext w w') => h0.ext x)
  have S1 := Lib.hid (fun w' (x : Ext w w') => h1.ext x)
  have AW := Lib.hid (awake_any w hT)
  obtain ⟨n, hn⟩ : ∃ n, n = l.length := ⟨_, rfl⟩
  obtain ⟨q, hq⟩ : ∃ q, q = y.length := ⟨_, rfl⟩
  rw [← hn] at HB hl ⊢
  rw [← hq] at HF hy1 hy2 ⊢
  have HN := Lib.hid hn
  have HQ := Lib.hid hq
  have hq0 : (q : Int) ≠ 0 := by omega
  have hq1 : ((q : Int) == 0) = false := by simpa using hq0
  clear hn hq h0 h1 hT hF
  generalize otherN F l = T at *
  go_enter Tryd.func7, Tryd.ntmps7
  go_wp2_with fail
  refine AW.out.mono ?_; rintro e V ⟨rfl, x1⟩
  have HX := Lib.hid x1
  clear x1 AW
  go_wp2_with fail
  go_loopw [6, 7] (fun v i wr => ∃ (vv : Value) (k : Nat), vv = v ∧ k ≤ n ∧ i = .int .i64 k ∧ Hid (OwnB 5 V wr vv (T k))) (fun _ i _ => n - (intOf i).toNat)
  case atStart => exact ⟨_, 0, rfl, Nat.zero_le _, rfl, Lib.hid (by rw [HZ.out]; exact OwnB.nil _ _ _ (Ext.refl _))⟩
  case round =>
    obtain ⟨vv, k, hvv, hk, rfl, ho⟩ := hrel
    subst hvv
    by_cases hlt : k < n
    · have hlt' : k < l.length := by rw [← HN.out]; exact hlt
      have X := ho.out.2
      obtain ⟨ad, rfl, _, hc⟩ := (S0.out wr (HX.out.trans X)).get hlt'
      have hk64 : (k : Int) < (n : Int) := by omega
      have hTl := HL.out k
      have hb0 : l.getD k 0 = l[k] := by rw [List.getD, List.getElem?_eq_getElem hlt']; rfl
      have HOK := Lib.hid (show T (k + 1) = T k ++ pieceB (F k) l[k] by rw [HO.out, hb0])
      obtain ⟨b, hb⟩ : ∃ b, l[k] = b := ⟨_, rfl⟩
      rw [hb] at hc HOK
      clear hb0 hb
      obtain ⟨z, hz⟩ : ∃ z : Int, z = (b.toNat : Int) := ⟨_, rfl⟩
      rw [← hz] at hc
      have HZB := Lib.hid hz
      clear hz
      by_cases hg : gapB b = true
      · have HK0 := Lib.hid (show T (k + 1) = T k ++ pieceN (F k) by rw [HOK.out, pieceB, if_pos hg])
        have hrq : (k : Int).tmod q = ((k % q : Nat) : Int) := by
          rw [Int.tmod_eq_emod_of_nonneg (by omega)]; omega
        have hrq' : (k : Int) % (q : Int) = ((k % q : Nat) : Int) := by omega
        have hrl : k % q < y.length := by rw [← HQ.out]; exact Nat.mod_lt _ (by omega)
        obtain ⟨be, rfl, _, hd⟩ := (S1.out wr (HX.out.trans X)).get hrl
        have hfk := HF.out k
        have hy0 : y.getD (k % q) 0 = y[k % q] := by rw [List.getD, List.getElem?_eq_getElem hrl]; rfl
        rw [hy0] at hfk
        have hm4 : ((y[k % q].toNat : Nat) : Int).tmod 4 = ((F k : Nat) : Int) := by
          rw [Int.tmod_eq_emod_of_nonneg (by omega), hfk]; omega
        have hm5 : ((y[k % q].toNat : Nat) : Int) % 4 = ((F k : Nat) : Int) := by rw [hfk]; omega
        have hm4' : F k < 4 := by rw [hfk]; omega
        have hrq2 : ((k % q : Nat) : Int) < (q : Int) := by rw [← HQ.out] at hrl; omega
        obtain ⟨u, hu⟩ : ∃ u : Int, ((y[k % q].toNat : Nat) : Int) = u := ⟨_, rfl⟩
        rw [hu] at hd hm4 hm5
        generalize k % q = r at *
        generalize F k = m at *
        have hg' : z = 9 ∨ z = 10 ∨ z = 13 ∨ z = 32 := by
          have := HZB.out
          simp only [gapB, decide_eq_true_eq] at hg
          rcases hg with rfl | rfl | rfl | rfl <;> simp at this <;> omega
        clear hy0 hfk hu hg HOK X hrl hlt'
        have ROUND := fun (Q : Prop) => Q
        clear ROUND
        rcases hg' with rfl | rfl | rfl | rfl
        · rcases (show m = 0 ∨ m = 1 ∨ m = 2 ∨ m = 3 by omega) with rfl | rfl | rfl | rfl
          · have HK := Lib.hid (show T (k + 1) = T k ++ [9] from HK0.out)
            clear HK0
            obtain ⟨v2, w2, r2, o2⟩ := run_more (ho.out.over ((Ext.refl wr).alloc (.cells #[.int .u8 9] 5))) 1 _ (seenB_lit wr #[.int .u8 9] [9] 5 rfl) rfl (by simp only [List.length_cons, List.length_nil]; omega) 22
            have O2 := Lib.hid o2
            clear o2
            go_wp2_with (at_builtin; refine wpList_ran rfl _ _ rfl r2 ?_)
            go_roundw
            case rel => exact ⟨_, k + 1, rfl, by omega, by go_num, Lib.hid (by rw [HK.out]; exact O2.out)⟩
            case measure => simp [intOf]; omega
          · have HK := Lib.hid (show T (k + 1) = T k ++ [10] from HK0.out)
            clear HK0
            obtain ⟨v2, w2, r2, o2⟩ := run_more (ho.out.over ((Ext.refl wr).alloc (.cells #[.int .u8 10] 5))) 1 _ (seenB_lit wr #[.int .u8 10] [10] 5 rfl) rfl (by simp only [List.length_cons, List.length_nil]; omega) 22
            have O2 := Lib.hid o2
            clear o2
            go_wp2_with (at_builtin; refine wpList_ran rfl _ _ rfl r2 ?_)
            go_roundw
            case rel => exact ⟨_, k + 1, rfl, by omega, by go_num, Lib.hid (by rw [HK.out]; exact O2.out)⟩
            case measure => simp [intOf]; omega
          · have HK := Lib.hid (show T (k + 1) = T k ++ [13, 32] from HK0.out)
            clear HK0
            obtain ⟨v2, w2, r2, o2⟩ := run_more (ho.out.over ((Ext.refl wr).alloc (.cells #[.int .u8 13, .int .u8 32] 5))) 2 _ (seenB_lit wr #[.int .u8 13, .int .u8 32] [13, 32] 5 rfl) rfl (by simp only [List.length_cons, List.length_nil]; omega) 22
            have O2 := Lib.hid o2
            clear o2
            go_wp2_with (at_builtin; refine wpList_ran rfl _ _ rfl r2 ?_)
            go_roundw
            case rel => exact ⟨_, k + 1, rfl, by omega, by go_num, Lib.hid (by rw [HK.out]; exact O2.out)⟩
            case measure => simp [intOf]; omega
          · have HK := Lib.hid (show T (k + 1) = T k ++ [32] from HK0.out)
            clear HK0
            obtain ⟨v2, w2, r2, o2⟩ := run_more (ho.out.over ((Ext.refl wr).alloc (.cells #[.int .u8 32] 5))) 1 _ (seenB_lit wr #[.int .u8 32] [32] 5 rfl) rfl (by simp only [List.length_cons, List.length_nil]; omega) 22
            have O2 := Lib.hid o2
            clear o2
            go_wp2_with (at_builtin; refine wpList_ran rfl _ _ rfl r2 ?_)
            go_roundw
            case rel => exact ⟨_, k + 1, rfl, by omega, by go_num, Lib.hid (by rw [HK.out]; exact O2.out)⟩
            case measure => simp [intOf]; omega
        · rcases (show m = 0 ∨ m = 1 ∨ m = 2 ∨ m = 3 by omega) with rfl | rfl | rfl | rfl
          · have HK := Lib.hid (show T (k + 1) = T k ++ [9] from HK0.out)
            clear HK0
            obtain ⟨v2, w2, r2, o2⟩ := run_more (ho.out.over ((Ext.refl wr).alloc (.cells #[.int .u8 9] 5))) 1 _ (seenB_lit wr #[.int .u8 9] [9] 5 rfl) rfl (by simp only [List.length_cons, List.length_nil]; omega) 22
            have O2 := Lib.hid o2
            clear o2
            go_wp2_with (at_builtin; refine wpList_ran rfl _ _ rfl r2 ?_)
            go_roundw
            case rel => exact ⟨_, k + 1, rfl, by omega, by go_num, Lib.hid (by rw [HK.out]; exact O2.out)⟩
            case measure => simp [intOf]; omega
          · have HK := Lib.hid (show T (k + 1) = T k ++ [10] from HK0.out)
            clear HK0
            obtain ⟨v2, w2, r2, o2⟩ := run_more (ho.out.over ((Ext.refl wr).alloc (.cells #[.int .u8 10] 5))) 1 _ (seenB_lit wr #[.int .u8 10] [10] 5 rfl) rfl (by simp only [List.length_cons, List.length_nil]; omega) 22
            have O2 := Lib.hid o2
            clear o2
            go_wp2_with (at_builtin; refine wpList_ran rfl _ _ rfl r2 ?_)
            go_roundw
            case rel => exact ⟨_, k + 1, rfl, by omega, by go_num, Lib.hid (by rw [HK.out]; exact O2.out)⟩
            case measure => simp [intOf]; omega
          · have HK := Lib.hid (show T (k + 1) = T k ++ [13, 32] from HK0.out)
            clear HK0
            obtain ⟨v2, w2, r2, o2⟩ := run_more (ho.out.over ((Ext.refl wr).alloc (.cells #[.int .u8 13, .int .u8 32] 5))) 2 _ (seenB_lit wr #[.int .u8 13, .int .u8 32] [13, 32] 5 rfl) rfl (by simp only [List.length_cons, List.length_nil]; omega) 22
            have O2 := Lib.hid o2
            clear o2
            go_wp2_with (at_builtin; refine wpList_ran rfl _ _ rfl r2 ?_)
            go_roundw
            case rel => exact ⟨_, k + 1, rfl, by omega, by go_num, Lib.hid (by rw [HK.out]; exact O2.out)⟩
            case measure => simp [intOf]; omega
          · have HK := Lib.hid (show T (k + 1) = T k ++ [32] from HK0.out)
            clear HK0
            obtain ⟨v2, w2, r2, o2⟩ := run_more (ho.out.over ((Ext.refl wr).alloc (.cells #[.int .u8 32] 5))) 1 _ (seenB_lit wr #[.int .u8 32] [32] 5 rfl) rfl (by simp only [List.length_cons, List.length_nil]; omega) 22
            have O2 := Lib.hid o2
            clear o2
            go_wp2_with (at_builtin; refine wpList_ran rfl _ _ rfl r2 ?_)
            go_roundw
            case rel => exact ⟨_, k + 1, rfl, by omega, by go_num, Lib.hid (by rw [HK.out]; exact O2.out)⟩
            case measure => simp [intOf]; omega
        · rcases (show m = 0 ∨ m = 1 ∨ m = 2 ∨ m = 3 by omega) with rfl | rfl | rfl | rfl
          · have HK := Lib.hid (show T (k + 1) = T k ++ [9] from HK0.out)
            clear HK0
            obtain ⟨v2, w2, r2, o2⟩ := run_more (ho.out.over ((Ext.refl wr).alloc (.cells #[.int .u8 9] 5))) 1 _ (seenB_lit wr #[.int .u8 9] [9] 5 rfl) rfl (by simp only [List.length_cons, List.length_nil]; omega) 22
            have O2 := Lib.hid o2
            clear o2
            go_wp2_with (at_builtin; refine wpList_ran rfl _ _ rfl r2 ?_)
            go_roundw
            case rel => exact ⟨_, k + 1, rfl, by omega, by go_num, Lib.hid (by rw [HK.out]; exact O2.out)⟩
            case measure => simp [intOf]; omega
          · have HK := Lib.hid (show T (k + 1) = T k ++ [10] from HK0.out)
            clear HK0
            obtain ⟨v2, w2, r2, o2⟩ := run_more (ho.out.over ((Ext.refl wr).alloc (.cells #[.int .u8 10] 5))) 1 _ (seenB_lit wr #[.int .u8 10] [10] 5 rfl) rfl (by simp only [List.length_cons, List.length_nil]; omega) 22
            have O2 := Lib.hid o2
            clear o2
            go_wp2_with (at_builtin; refine wpList_ran rfl _ _ rfl r2 ?_)
            go_roundw
            case rel => exact ⟨_, k + 1, rfl, by omega, by go_num, Lib.hid (by rw [HK.out]; exact O2.out)⟩
            case measure => simp [intOf]; omega
          · have HK := Lib.hid (show T (k + 1) = T k ++ [13, 32] from HK0.out)
            clear HK0
            obtain ⟨v2, w2, r2, o2⟩ := run_more (ho.out.over ((Ext.refl wr).alloc (.cells #[.int .u8 13, .int .u8 32] 5))) 2 _ (seenB_lit wr #[.int .u8 13, .int .u8 32] [13, 32] 5 rfl) rfl (by simp only [List.length_cons, List.length_nil]; omega) 22
            have O2 := Lib.hid o2
            clear o2
            go_wp2_with (at_builtin; refine wpList_ran rfl _ _ rfl r2 ?_)
            go_roundw
            case rel => exact ⟨_, k + 1, rfl, by omega, by go_num, Lib.hid (by rw [HK.out]; exact O2.out)⟩
            case measure => simp [intOf]; omega
          · have HK := Lib.hid (show T (k + 1) = T k ++ [32] from HK0.out)
            clear HK0
            obtain ⟨v2, w2, r2, o2⟩ := run_more (ho.out.over ((Ext.refl wr).alloc (.cells #[.int .u8 32] 5))) 1 _ (seenB_lit wr #[.int .u8 32] [32] 5 rfl) rfl (by simp only [List.length_cons, List.length_nil]; omega) 22
            have O2 := Lib.hid o2
            clear o2
            go_wp2_with (at_builtin; refine wpList_ran rfl _ _ rfl r2 ?_)
            go_roundw
            case rel => exact ⟨_, k + 1, rfl, by omega, by go_num, Lib.hid (by rw [HK.out]; exact O2.out)⟩
            case measure => simp [intOf]; omega
        · rcases (show m = 0 ∨ m = 1 ∨ m = 2 ∨ m = 3 by omega) with rfl | rfl | rfl | rfl
          · have HK := Lib.hid (show T (k + 1) = T k ++ [9] from HK0.out)
            clear HK0
            obtain ⟨v2, w2, r2, o2⟩ := run_more (ho.out.over ((Ext.refl wr).alloc (.cells #[.int .u8 9] 5))) 1 _ (seenB_lit wr #[.int .u8 9] [9] 5 rfl) rfl (by simp only [List.length_cons, List.length_nil]; omega) 22
            have O2 := Lib.hid o2
            clear o2
            go_wp2_with (at_builtin; refine wpList_ran rfl _ _ rfl r2 ?_)
            go_roundw
            case rel => exact ⟨_, k + 1, rfl, by omega, by go_num, Lib.hid (by rw [HK.out]; exact O2.out)⟩
            case measure => simp [intOf]; omega
          · have HK := Lib.hid (show T (k + 1) = T k ++ [10] from HK0.out)
            clear HK0
            obtain ⟨v2, w2, r2, o2⟩ := run_more (ho.out.over ((Ext.refl wr).alloc (.cells #[.int .u8 10] 5))) 1 _ (seenB_lit wr #[.int .u8 10] [10] 5 rfl) rfl (by simp only [List.length_cons, List.length_nil]; omega) 22
            have O2 := Lib.hid o2
            clear o2
            go_wp2_with (at_builtin; refine wpList_ran rfl _ _ rfl r2 ?_)
            go_roundw
            case rel => exact ⟨_, k + 1, rfl, by omega, by go_num, Lib.hid (by rw [HK.out]; exact O2.out)⟩
            case measure => simp [intOf]; omega
          · have HK := Lib.hid (show T (k + 1) = T k ++ [13, 32] from HK0.out)
            clear HK0
            obtain ⟨v2, w2, r2, o2⟩ := run_more (ho.out.over ((Ext.refl wr).alloc (.cells #[.int .u8 13, .int .u8 32] 5))) 2 _ (seenB_lit wr #[.int .u8 13, .int .u8 32] [13, 32] 5 rfl) rfl (by simp only [List.length_cons, List.length_nil]; omega) 22
            have O2 := Lib.hid o2
            clear o2
            go_wp2_with (at_builtin; refine wpList_ran rfl _ _ rfl r2 ?_)
            go_roundw
            case rel => exact ⟨_, k + 1, rfl, by omega, by go_num, Lib.hid (by rw [HK.out]; exact O2.out)⟩
            case measure => simp [intOf]; omega
          · have HK := Lib.hid (show T (k + 1) = T k ++ [32] from HK0.out)
            clear HK0
            obtain ⟨v2, w2, r2, o2⟩ := run_more (ho.out.over ((Ext.refl wr).alloc (.cells #[.int .u8 32] 5))) 1 _ (seenB_lit wr #[.int .u8 32] [32] 5 rfl) rfl (by simp only [List.length_cons, List.length_nil]; omega) 22
            have O2 := Lib.hid o2
            clear o2
            go_wp2_with (at_builtin; refine wpList_ran rfl _ _ rfl r2 ?_)
            go_roundw
            case rel => exact ⟨_, k + 1, rfl, by omega, by go_num, Lib.hid (by rw [HK.out]; exact O2.out)⟩
            case measure => simp [intOf]; omega
      · have HK := Lib.hid (show T (k + 1) = T k ++ [b] by rw [HOK.out, pieceB, if_neg hg])
        have hg' : ¬ z = 9 ∧ ¬ z = 10 ∧ ¬ z = 13 ∧ ¬ z = 32 := by
          have := HZB.out
          simp only [gapB, decide_eq_true_eq, not_or] at hg
          obtain ⟨g1, g2, g3, g4⟩ := hg
          refine ⟨fun e => g1 ?_, fun e => g2 ?_, fun e => g3 ?_, fun e => g4 ?_⟩ <;> (apply UInt8.toNat.inj; simp; omega)
        obtain ⟨g1, g2, g3, g4⟩ := hg'
        have n1 : (z != 9) = true := by simpa using g1
        have n2 : (z != 10) = true := by simpa using g2
        have n3 : (z != 13) = true := by simpa using g3
        have n4 : (z != 32) = true := by simpa using g4
        clear hg HOK X hlt' g1 g2 g3 g4
        obtain ⟨v2, w2, r2, o2⟩ := run_more (ho.out.over ((Ext.refl wr).alloc (.cells #[.int .u8 z] 5))) 1 _ (seenB_lit wr #[.int .u8 z] [b] 5 (by rw [HZB.out]; rfl)) rfl (by simp only [List.length_cons, List.length_nil]; omega) 22
        have O2 := Lib.hid o2
        clear o2
        go_wp2_with (at_builtin; refine wpList_ran rfl _ _ rfl r2 ?_)
        go_roundw
        case rel => exact ⟨_, k + 1, rfl, by omega, by go_num, Lib.hid (by rw [HK.out]; exact O2.out)⟩
        case measure => simp [intOf]; omega
    · obtain rfl : k = n := by omega
      obtain ⟨A2, c2, rfl, hc2, s2⟩ := ho.out.seen
      have X := ho.out.2
      have CB := Lib.hid (HB.out wr (HX.out.trans X))
      have s2 := Lib.hid s2
      have HX2 := Lib.hid (HX.out.trans X)
      clear ho X HB
      generalize (T k).length = z at *
      go_wp2_with fail
      refine CB.out.mono ?_; rintro e w4 ⟨x4, a, n4, ca, b, q4, cb, E, rfl, hs4⟩
      have kQ : Blk (w4.alloc (.cells #[.slice a n4 ca, .slice b q4 cb] 27)) w4.heap.size 27 [.slice a n4 ca, .slice b q4 cb] := Blk.lit _ _ _ _ rfl
      have P2 := Lib.hid (hs4 _ A2 c2 ((Ext.refl w4).alloc (.cells #[.slice a n4 ca, .slice b q4 cb] 27)) (s2.out.ext (x4.trans ((Ext.refl _).alloc _))))
      have X4 := Lib.hid (HX2.out.trans x4)
      clear x4 hs4 CB s2
      go_wp2_with fail
      refine P2.out.mono ?_; rintro e w5 ⟨x5, a', n', ca', b', q', cb', rfl, hs5⟩
      have r0 : w5.cell? ⟨w4.heap.size, 0, none⟩ = some (.slice a n4 ca) := (kQ.ext x5).cell 0
      have r1 : w5.cell? ⟨w4.heap.size, 1, none⟩ = some (.slice b q4 cb) := (kQ.ext x5).cell 1
      have lb : w4.heap.size < w5.heap.size := (kQ.ext x5).lt
      have X5 := Lib.hid ((X4.out.trans ((Ext.refl _).alloc _)).trans x5)
      have SM := Lib.hid (hs5 _ ((Ext.refl w5).alloc (.cells #[.slice a' n' ca', .slice b' q' cb'] 27)))
      clear x5 hs5 P2 kQ X4
      generalize w4.heap.size = By at *
      have hne : By ≠ w5.heap.size := by omega
      go_wp2_with fail
      refine SM.out.mono ?_; rintro e w6 ⟨rfl, x6⟩
      go_wp2_with fail
      go_ret
      exact ⟨rfl, X5.out.trans (((Ext.refl _).alloc _).trans x6)⟩

set_option maxRecDepth 100000 in
set_option maxHeartbeats 4000000 in
theorem walk (A0 : Option Addr) (l : List UInt8) (c0 : Nat) (_ : l.length ≤ c0) (_ : c0 ≤ maxLen) (A1 : Option Addr) (y : List UInt8) (c1 : Nat) (_ : y.length ≤ c1) (_ : c1 ≤ maxLen) (w : World) (h0 : SeenB w A0 l) (h1 : SeenB w A1 y) (hT : Tabs w) :
    Calls Tryd.prog 7 #[.slice A0 l.length c0, .slice A1 y.length c1] w (Ret w (.bool true)) := by
  have AW := Lib.hid (awake_any w hT)
  by_cases hl : (l.length : Int) ≤ 5000
  · by_cases hy1 : 1 ≤ (y.length : Int)
    · by_cases hy2 : (y.length : Int) ≤ 100
      · exact core A0 l c0 A1 y c1 w h0 h1 hT hl hy1 hy2
      · clear h0 h1 hT
        generalize l.length = n at *
        generalize y.length = q at *
        have e1 : ((q : Int) == 0) = false := by simp; omega
        go_enter Tryd.func7, Tryd.ntmps7
        go_wp2_with fail
        refine AW.out.mono ?_; rintro e V ⟨rfl, x1⟩
        go_wp2_with fail
        go_ret
        exact ⟨rfl, x1⟩
    · have e0 : y.length = 0 := by omega
      rw [e0]
      clear h0 h1 hT e0 hy1
      generalize l.length = n at *
      go_enter Tryd.func7, Tryd.ntmps7
      go_wp2_with fail
      refine AW.out.mono ?_; rintro e V ⟨rfl, x1⟩
      go_wp2_with fail
      go_ret
      exact ⟨rfl, x1⟩
  · clear h0 h1 hT
    generalize l.length = n at *
    generalize y.length = q at *
    go_enter Tryd.func7, Tryd.ntmps7
    go_wp2_with fail
    refine AW.out.mono ?_; rintro e V ⟨rfl, x1⟩
    go_wp2_with fail
    go_ret
    exact ⟨rfl, x1⟩

set_option maxRecDepth 100000 in
theorem lifted (os : Os) (started : os.Started) (H : Type) (enc : TypeId × Value → H) :
    ReturnsInHanded {} Tryd.checked os 7 .any (fun w args => (Rows.liangGapsSpec.pre enc Tryd.prog Tryd.f7 [] false w args ∧ laidMetH Tryd.prog doorLaid w) ∧ sizedMet enc Tryd.prog Tryd.f7 (OpenSpec.ofChange Rows.liangGapsSpec) false w args)
      (Rows.liangGapsSpec.post enc Tryd.prog Tryd.f7 false true false false) := by
  refine law_liftD started (by kernel_rfl) Tryd.func7 rfl rfl Tryd.underlying4 (by kernel_rfl) ?_
    (ChangeSpec.witness_shaped (enc := enc) (C := Tryd.checked) (os := os) (X := fun w _ => laidMetH Tryd.prog doorLaid w) false (World.laidAll Tryd.prog os doorLaid) #[.slice none 0 0, .slice none 0 0] 8 (World.laidAll_os _ _ _)
      (World.shaped_of_ZipB (by kernel_rfl) (by kernel_rfl)) (by kernel_rfl) (by kernel_rfl) (by kernel_rfl) (laidStart os _)) ?_
  · intro H ds h
    match ds, h with
    | [_, _], _ => rfl
  · intro W base args ds p hval hA hlt hT
    rw [Tryd.params7] at hA hval
    obtain ⟨v0, vs0, d0, ds0, p0, q0, hargs, rfl, rfl, h0, r0⟩ := trodAll_cons hA
    obtain ⟨v1, vs1, d1, ds1, p1, q1, rfl, rfl, rfl, h1, r1⟩ := trodAll_cons r0
    obtain ⟨rfl, rfl, rfl⟩ := trodAll_nil r1
    obtain rfl : args = #[v0, v1] := by cases args; simp_all
    obtain ⟨A0, l0, c0, rfl, hc0, hm0, hs0⟩ := seen_bytes Tryd.underlying22 Tryd.underlying5 (by kernel_rfl) (hval 0 22 v0 rfl rfl) h0
    obtain ⟨A1, l1, c1, rfl, hc1, hm1, hs1⟩ := seen_bytes Tryd.underlying22 Tryd.underlying5 (by kernel_rfl) (hval 1 22 v1 rfl rfl) h1
    exact walk A0 l0 c0 hc0 hm0 A1 l1 c1 hc1 hm1 W hs0 hs1 hT

theorem bare : Rows.LiangGapsSaid :=
  OpenClaim.holds_of_wide 7 Tryd.f7 rfl rfl rfl rfl rfl rfl rfl ⟨rfl, rfl, rfl, rfl, rfl⟩ rfl rfl rfl rfl rfl (by kernel_rfl) Tryd.func7 (by kernel_rfl)
    (of_decide_eq_true (by kernel_rfl)) (by unfold Func.isWrapper; first | (rw [if_pos (by decide +kernel)]; kernel_rfl) | (rw [if_neg (by decide +kernel)]; exact ⟨rfl, rfl⟩))
    (fun os started H enc _ => lifted os started H enc)
theorem holds : Rows.LiangGapsCardSaid :=
  Claim7.holds_tied_plain_at .later [] [.data, .pinned] true Rows.liangGapsCard.stood.harness false bare (fun _ h => by cases h) (by kernel_rfl) (fun _ h => by cases h) liangGaps_row_tie rfl ⟨rfl, rfl⟩ (by kernel_rfl) rfl
    (fun f fn hf hfn => by
      obtain rfl : f = 7 := Option.some.inj ((show Tryd.prog.funcNamed "compositor/compositorlaw10.LiangGaps" = some 7 by kernel_rfl).symm.trans hf) |>.symm
      obtain rfl : fn = Tryd.f7 := (Option.some.inj (Tryd.func7.symm.trans hfn)).symm
      exact ⟨by kernel_rfl, standsIn (ts := [22, 22]) (by kernel_rfl) (by rw [Tryd.params7])⟩)
    (by kernel_rfl)
end LiangGaps
end Go.Proofs.YtijhabhnhglhgaaDoor

