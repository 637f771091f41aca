/- The document's Write of layer 13. -/
import Derived.Test.YtbiklbomacjihaaDoorDocC13
namespace Go.Proofs.YtbiklbomacjihaaDoor
open Go.RowKit
namespace L13

theorem textL_snoc : ∀ (l : List TW) (p : TW), textL (l ++ [p]) = textL l ++ ((if l = [] then [] else [32]) ++ bytesL p)
  | [], p => by simp [textL]
  | [q], p => by simp [textL]
  | q :: r :: t, p => by
    have ih := textL_snoc (r :: t) p
    rw [List.cons_append, List.cons_append, textL, textL, ← List.cons_append, ih]
    simp [List.append_assoc]
theorem bytesL_length (p : TW) : (bytesL p).length ≤ 3 * p.1.length := bytesM_length _ _ _
theorem textL_most {l : List TW} (h : ∀ p ∈ l, wordB p = true) : (textL l).length ≤ l.length * 181 := by
  induction l with
  | nil => simp [textL]
  | cons p r ih =>
    have h1 := (word_short (h p (by simp))).2
    have h2 := bytesL_length p
    have h3 := ih (fun q hq => h q (by simp [hq]))
    cases r with
    | nil => simp only [textL, List.length_cons, List.length_nil]; omega
    | cons q r =>
      rw [textL, List.length_append, List.length_cons]
      simp only [List.length_cons] at h3 ⊢
      omega
/-- What Write answers. -/
def WrQ (w : World) (l : List UInt8) (e : Ending) (w' : World) : Prop :=
  Ext w w' ∧ ∃ A c, e = .returned (.tuple #[.slice A l.length c, .int .i64 0]) ∧ SeenB w' A l
theorem rwrite_no (A : Option Addr) (l : List CW) (n c : Nat) (w : World) (hs : SeenC w A l) (hn : n = l.length) (ok : ∀ x ∈ l, x.Ok) (h : checkB (l.map tw) = false) :
    Calls Tryd.prog 16 #[.slice A n c] w (Ret w (.tuple #[.slice none 0 0, .int .i64 130])) := by
  have C := Lib.hid (rcheck_any A l n c w hs hn ok)
  rw [h] at C
  clear hs hn ok h
  go_enter Tryd.func16, Tryd.ntmps16
  go_wp2_with fail
  refine C.out.mono ?_; rintro e w1 ⟨rfl, x1⟩
  go_wp2_with fail
  go_ret2
  exact ⟨rfl, x1⟩
set_option maxRecDepth 100000 in
set_option maxHeartbeats 4000000 in
theorem rwrite_yes (A : Option Addr) (l : List CW) (n c : Nat) (w : World) (hs : SeenC w A l) (hn : n = l.length) (ok : ∀ x ∈ l, x.Ok) (h : checkB (l.map tw) = true) :
    Calls Tryd.prog 16 #[.slice A n c] w (WrQ w (textL (l.map tw))) := by
  have C := Lib.hid (rcheck_any A l n c w hs hn ok)
  rw [h] at C
  simp only [checkB, Bool.and_eq_true, decide_eq_true_eq, List.all_eq_true, List.length_map] at h
  obtain ⟨⟨_, hn1⟩, hall, _⟩ := h
  have SN := Lib.hid hs
  have HN := Lib.hid hn
  have WA := Lib.hid (fun k (h : k < l.length) => show wordB (tw l[k]) = true from hall _ (List.mem_map.2 ⟨_, List.getElem_mem h, rfl⟩))
  have TS := Lib.hid (fun k (h : k < l.length) => show textL ((l.take (k + 1)).map tw) = textL ((l.take k).map tw) ++ ((if (l.take k).map tw = [] then [] else [32]) ++ bytesL (tw l[k])) by rw [take_map h, textL_snoc])
  have TN := Lib.hid (fun k (h : k ≤ l.length) => show (l.take k).map tw = [] ↔ k = 0 by
    rw [List.map_eq_nil_iff]
    constructor
    · intro e
      have := congrArg List.length e
      rw [List.length_take] at this
      simp only [List.length_nil] at this
      omega
    · rintro rfl; rfl)
  have TL := Lib.hid (fun k (h : k ≤ l.length) => show (textL ((l.take k).map tw)).length ≤ k * 181 by
    have := textL_most (l := (l.take k).map tw) (fun p hp => by
      obtain ⟨x, hx, rfl⟩ := List.mem_map.1 hp
      exact hall _ (List.mem_map.2 ⟨x, List.mem_of_mem_take hx, rfl⟩))
    rw [List.length_map, List.length_take, Nat.min_eq_left h] at this
    exact this)
  have TE := Lib.hid (show textL ((l.take l.length).map tw) = textL (l.map tw) by rw [List.take_length])
  have T0 := Lib.hid (show textL ((l.take 0).map tw) = [] from rfl)
  have hn100 : n ≤ 100 := by omega
  have hn64 : (n : Int) ≤ 100 := by omega
  generalize textL (l.map tw) = res at *
  clear hs hn ok hn1 hall
  go_enter Tryd.func16, Tryd.ntmps16
  go_wp2_with fail
  refine C.out.mono ?_; rintro e w1 ⟨rfl, x1⟩
  have X1 := Lib.hid x1
  clear x1 C
  go_wp2_with fail
  go_loopw [5, 6] (fun v i wr => ∃ (vv : Value) (k : Nat), vv = v ∧ k ≤ n ∧ i = .int .i64 k ∧ Hid (OwnB 5 w1 wr vv (textL ((l.take k).map tw)))) (fun _ i _ => n - (intOf i).toNat)
  case atStart => exact ⟨_, 0, rfl, Nat.zero_le _, rfl, Lib.hid (by rw [T0.out]; exact OwnB.nil _ _ _ (Ext.refl _))⟩
  case round =>
    obtain ⟨vv, k, hvv, hk, rfl, ho⟩ := hrel
    subst hvv
    by_cases hlt : k < n
    · have hkl : k < l.length := by rw [← HN.out]; exact hlt
      have hk64 : (k : Int) < n := by omega
      have hts := TS.out k hkl
      have htl := TL.out k (by omega)
      have htn := TN.out k (by omega)
      have hwb := WA.out k hkl
      have hbl := bytesL_length (tw l[k])
      have hws := (word_short hwb).2
      have BY := Lib.hid (fun w' (x : Ext w w') => rbytes_any l[k] hwb w' ((SN.out.ext x).get hkl).2.1 ((SN.out.ext x).get hkl).2.2)
      have GET := Lib.hid (fun w' (x : Ext w w') => ((SN.out.ext x).get hkl).1)
      unfold cwV BytQ at BY
      generalize bytesL (tw l[k]) = bl at *
      generalize (tw l[k]).1.length = zc at *
      generalize l[k].cs.length = y0 at *
      generalize l[k].A = y1 at *
      generalize l[k].c = y2 at *
      generalize l[k].ss.length = y3 at *
      generalize l[k].B = y4 at *
      generalize l[k].d = y5 at *
      clear hwb
      by_cases h0 : k = 0
      · rw [if_pos (htn.2 h0), List.nil_append] at hts
        have H2 := Lib.hid hts
        have g0 : ¬ (0 : Int) < (k : Int) := by omega
        obtain ⟨ad, rfl, u0, u1⟩ := GET.out wr (X1.out.trans ho.out.2)
        clear hts htn h0
        go_wp2_with fail
        refine (BY.out _ (X1.out.trans ho.out.2)).mono ?_; rintro e w5 ⟨x5, A5, c5, rfl, s5⟩
        obtain ⟨v3, w6, g3, o3⟩ := run_bytes13 (ho.out.over x5) A5 bl.length c5 bl s5 rfl (by omega) 22
        have O3 := Lib.hid o3
        generalize bl.length = zl at *
        clear x5 s5 o3 BY
        go_wp2_with (at_builtin; refine wpList_ran rfl _ _ rfl g3 ?_)
        go_roundw
        case rel => exact ⟨_, k + 1, rfl, by omega, by go_num, Lib.hid (by rw [H2.out]; exact O3.out)⟩
        case measure => simp [intOf]; omega
      · rw [if_neg (fun h => h0 (htn.1 h))] at hts
        have H2 := Lib.hid hts
        have g0 : (0 : Int) < (k : Int) := by omega
        have ow := ho.out.over ((Ext.refl wr).alloc (.cells #[.int .u8 32] 5))
        obtain ⟨v2, w4, g2, o2⟩ := run_bytes13 ow (some ⟨wr.heap.size, 0, none⟩) 1 1 [32] ((Blk.lit wr wr.heap.size 5 #[.int .u8 32] rfl).seen rfl) rfl (by simp only [List.length_cons, List.length_nil]; omega) 22
        have O2 := Lib.hid o2
        obtain ⟨ad, rfl, u0, u1⟩ := GET.out w4 (X1.out.trans o2.2)
        clear hts htn h0 ow o2
        go_wp2_with (at_builtin; refine wpList_ran rfl _ _ rfl g2 ?_)
        refine (BY.out _ (X1.out.trans O2.out.2)).mono ?_; rintro e w5 ⟨x5, A5, c5, rfl, s5⟩
        obtain ⟨v3, w6, g3, o3⟩ := run_bytes13 (O2.out.over x5) A5 bl.length c5 bl s5 rfl (by rw [List.length_append]; simp only [List.length_cons, List.length_nil]; omega) 22
        have O3 := Lib.hid o3
        generalize bl.length = zl at *
        clear x5 s5 o3 BY
        go_wp2_with (at_builtin; refine wpList_ran rfl _ _ rfl g3 ?_)
        go_roundw
        case rel => exact ⟨_, k + 1, rfl, by omega, by go_num, Lib.hid (by rw [H2.out, ← List.append_assoc]; exact O3.out)⟩
        case measure => simp [intOf]; omega
    · obtain rfl : k = n := by omega
      have ho := Lib.hid (show OwnB 5 w1 wr vv res by rw [← TE.out, ← HN.out]; exact ho.out)
      obtain ⟨A9, c9, rfl, _, s9⟩ := ho.out.seen
      have FIN := Lib.hid (show WrQ w res (.returned (.tuple #[.slice A9 res.length c9, .int .i64 0])) wr from ⟨X1.out.trans ho.out.2, A9, c9, rfl, s9⟩)
      generalize res.length = rl at *
      go_wp2_with fail
      go_ret2
      exact FIN.out
end L13
end Go.Proofs.YtbiklbomacjihaaDoor

