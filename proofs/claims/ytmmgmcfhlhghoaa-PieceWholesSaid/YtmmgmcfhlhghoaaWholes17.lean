/- PieceWholes: the words of any lines' pieces are what the document says, whatever calls answer so. -/
import Derived.Test.YtmmgmcfhlhghoaaAwake17
import Derived.Test.YtmmgmcfhlhghoaaWhole17
namespace Go.Proofs.Ytmmgmcfhlhghoaa
open Go.RowKit
namespace PieceWholes
open L16 (Brk SeenK)
open L17

def SmL (o : List (List Int)) (p : Nat) : Prop := o.length ≤ p ∧ ∀ x ∈ o, x.length ≤ 100 * p
theorem addP_small {g : Bool} {o : List (List Int)} {l : List Int} {p : Nat} (h : SmL o p) (hl : l.length ≤ 100) : SmL (addP g o l) (p + 1) := by
  unfold addP
  split
  · rename_i hc
    obtain ⟨i, z, rfl⟩ : ∃ i z, o = i ++ [z] := ⟨o.dropLast, o.getLast hc.2, (List.dropLast_concat_getLast hc.2).symm⟩
    have h1 := h.1
    have hz := h.2 z (by simp)
    simp only [List.length_append, List.length_singleton] at h1
    simp only [List.dropLast_concat, List.getLastD_concat]
    refine ⟨by simp only [List.length_append, List.length_singleton]; omega, fun x hx => ?_⟩
    rcases List.mem_append.1 hx with hx | hx
    · have := h.2 x (by simp [hx]); omega
    · rw [List.mem_singleton.1 hx]; simp only [List.length_append]; omega
  · have h1 := h.1
    refine ⟨by simp only [List.length_append, List.length_singleton]; omega, fun x hx => ?_⟩
    rcases List.mem_append.1 hx with hx | hx
    · have := h.2 x hx; omega
    · rw [List.mem_singleton.1 hx]; omega
theorem lineTo_small {on hy : Bool} {ps : List (List Int)} {o : List (List Int)} {p : Nat} (h : SmL o p) (hp : ∀ x ∈ ps, x.length ≤ 100) : ∀ k, SmL (lineTo on hy ps o k) (p + k)
  | 0 => h
  | k + 1 => by
    rw [lineTo]
    refine addP_small (lineTo_small h hp k) (Nat.le_trans (trimP_len _ _ _) ?_)
    rcases Nat.lt_or_ge k ps.length with hk | hk
    · rw [List.getD_eq_getElem?_getD, List.getElem?_eq_getElem hk]
      exact hp _ (List.getElem_mem hk)
    · rw [List.getD_eq_getElem?_getD, List.getElem?_eq_none hk]
      exact Nat.zero_le _
theorem whTo_small {ls : List (List (List Int))} {ends : List Brk} (h : ∀ x ∈ ls, x.length ≤ 30 ∧ ∀ y ∈ x, y.length ≤ 100) : ∀ t, SmL (whTo ls ends t).1 (30 * t)
  | 0 => ⟨Nat.le_refl _, fun x hx => by simp [whTo] at hx⟩
  | t + 1 => by
    rw [whTo]
    have hx : (ls.getD t []).length ≤ 30 ∧ ∀ y ∈ ls.getD t [], y.length ≤ 100 := by
      rcases Nat.lt_or_ge t ls.length with hk | hk
      · rw [List.getD_eq_getElem?_getD, List.getElem?_eq_getElem hk]
        exact h _ (List.getElem_mem hk)
      · rw [List.getD_eq_getElem?_getD, List.getElem?_eq_none hk]
        exact ⟨Nat.zero_le _, fun y hy => by simp at hy⟩
    have s := lineTo_small (on := (whTo ls ends t).2) (hy := hyB (ends.getD t (0, 0, 0))) (whTo_small (ends := ends) h t) hx.2 (ls.getD t []).length
    change SmL (lineTo _ _ _ _ _) _
    exact ⟨by have := s.1; omega, fun x hm => by have := s.2 x hm; omega⟩
theorem whL_small {ls : List (List (List Int))} {ends : List Brk} (hn : ls.length ≤ 30) (h : ∀ x ∈ ls, x.length ≤ 30 ∧ ∀ y ∈ x, y.length ≤ 100) : (whL ls ends).length ≤ 1000000 ∧ ∀ x ∈ whL ls ends, x.length ≤ 1000000 := by
  have s := whTo_small (ends := ends) h (min ls.length ends.length)
  have hm : min ls.length ends.length ≤ 30 := Nat.le_trans (Nat.min_le_left _ _) hn
  exact ⟨by have := s.1; unfold whL; omega, fun x hx => by have := s.2 x hx; omega⟩
theorem sum_small {α : Type} {f : α → Nat} {m : Nat} : ∀ l : List α, (∀ x ∈ l, f x ≤ m) → (l.map f).sum ≤ l.length * m
  | [], _ => by simp
  | a :: l, h => by
    have h1 := h a (by simp)
    have h2 := sum_small (f := f) (m := m) l (fun x hx => h x (by simp [hx]))
    simp only [List.map_cons, List.sum_cons, List.length_cons, Nat.add_mul, Nat.one_mul]
    omega
theorem szL_small {ls : List (List (List Int))} (hn : ls.length ≤ 30) (h : ∀ x ∈ ls, x.length ≤ 30 ∧ ∀ y ∈ x, y.length ≤ 100) : szL ls ≤ 900000 := by
  have h1 : ∀ x ∈ ls, szP x ≤ 3030 := fun x hx => by
    have h2 := sum_small (f := fun l : List Int => l.length + 1) (m := 101) x (fun y hy => by have := (h x hx).2 y hy; omega)
    have h3 := (h x hx).1
    unfold szP
    omega
  have h4 := sum_small (f := szP) (m := 3030) ls h1
  unfold szL
  omega
/-- Few pieces. -/
def Fit (x : RR) : Prop := x.rs.length ≤ 30 ∧ ∀ y ∈ x.rs, y.ns.length ≤ 100
set_option maxRecDepth 100000 in
set_option maxHeartbeats 4000000 in
theorem all (PA : Pie) (A : Option Addr) (l : List RR) (c : Nat) (B : Option Addr) (ends : List Brk) (d : Nat) (w : World) (hs : SeenRR w A l) (hk : SeenK w B ends) (hcp : ∀ x ∈ l, ∀ y ∈ x.rs, y.ns.length ≤ y.c) :
    Calls Try.prog 4 #[.slice A l.length c, .slice B ends.length d] w (Ret w (.bool true)) := by
  have AW := Lib.hid (awake_any PA w)
  have S := Lib.hid PA
  have HS := Lib.hid hs
  have HK := Lib.hid hk
  clear hs hk PA
  go_enter Try.func4, Try.ntmps4
  go_wp2_with fail
  refine AW.out.mono ?_
  rintro e w1 ⟨rfl, x1⟩
  have X1 := Lib.hid x1
  clear x1 AW
  by_cases h1 : (30 : Int) < (l.length : Int)
  · clear S
    go_wp2_with fail
    go_ret
    exact ⟨rfl, X1.out⟩
  by_cases h2 : (40 : Int) < (ends.length : Int)
  · clear S
    go_wp2_with fail
    go_ret
    exact ⟨rfl, X1.out⟩
  have n64 : (l.length : Int) ≤ 30 := by omega
  go_wp2_with fail
  go_loopw [6] (fun i wr => ∃ (t : Nat), t ≤ l.length ∧ i = .int .i64 t ∧ wr = w1 ∧ Hid (∀ x ∈ l.take t, Fit x)) (fun i _ => l.length - (intOf i).toNat)
  case atStart => exact ⟨0, by omega, rfl, rfl, Lib.hid (fun x hx => by simp at hx)⟩
  case round =>
    obtain ⟨t, ht, rfl, hwr, FI⟩ := hrel
    subst hwr
    obtain ⟨w1, rfl⟩ : ∃ w1 : World, w1 = wr := ⟨_, rfl⟩
    by_cases hlt : t < l.length
    · have ht64 : (t : Int) < (l.length : Int) := by omega
      obtain ⟨⟨ad, rfl, c0⟩, sr⟩ := (HS.out.ext X1.out).get hlt
      have FT := Lib.hid (fun h : Fit l[t] => show ∀ x ∈ l.take (t + 1), Fit x from fun x hx => by
        rw [List.take_succ_eq_append_getElem hlt] at hx
        rcases List.mem_append.1 hx with hx | hx
        · exact FI.out x hx
        · rw [List.mem_singleton.1 hx]; exact h)
      have HLT := Lib.hid hlt
      generalize l[t] = L at *
      obtain ⟨ps, LA, Lc⟩ := L
      unfold rrV at c0
      dsimp only at *
      by_cases hq : (30 : Int) < (ps.length : Int)
      · clear S FT FI sr
        go_wp2_with fail
        go_ret
        exact ⟨rfl, X1.out⟩
      · have SR := Lib.hid sr
        clear sr
        have q64 : (ps.length : Int) ≤ 30 := by omega
        go_wp2_with fail
        go_loopw [7] (fun i wr => ∃ (k : Nat), k ≤ ps.length ∧ i = .int .i64 k ∧ wr = w1 ∧ Hid (∀ x ∈ ps.take k, x.ns.length ≤ 100)) (fun i _ => ps.length - (intOf i).toNat)
        case atStart => exact ⟨0, by omega, rfl, rfl, Lib.hid (fun x hx => by simp at hx)⟩
        case round =>
          obtain ⟨k, hk, rfl, hwr, FK⟩ := hrel
          subst hwr
          obtain ⟨w1, rfl⟩ : ∃ w1 : World, w1 = wr := ⟨_, rfl⟩
          by_cases hkq : k < ps.length
          · have hk64 : (k : Int) < (ps.length : Int) := by omega
            obtain ⟨⟨ae, rfl, d0⟩, sy⟩ := SR.out.get hkq
            have FZ := Lib.hid (fun h : ps[k].ns.length ≤ 100 => show ∀ x ∈ ps.take (k + 1), x.ns.length ≤ 100 from fun x hx => by
              rw [List.take_succ_eq_append_getElem hkq] at hx
              rcases List.mem_append.1 hx with hx | hx
              · exact FK.out x hx
              · rw [List.mem_singleton.1 hx]; exact h)
            generalize ps[k] = y at *
            obtain ⟨ys, yA, yc⟩ := y
            unfold riV at d0
            dsimp only at *
            have HKQ := Lib.hid hkq
            by_cases hy : (100 : Int) < (ys.length : Int)
            · clear S FT FI FZ FK sy
              go_wp2_with fail
              go_ret
              exact ⟨rfl, X1.out⟩
            · have F2 := Lib.hid (FZ.out (by omega))
              clear FZ FK sy
              go_wp2_with fail
              go_roundw
              case rel => exact ⟨k + 1, by have := HKQ.out; omega, by go_num, by trivial, F2⟩
              case measure => have := HKQ.out; simp [intOf]; omega
          · obtain rfl : k = ps.length := by omega
            have hk64 : ¬ (ps.length : Int) < (ps.length : Int) := by omega
            have F2 := Lib.hid (FT.out ⟨by show ps.length ≤ 30; omega, fun y hy => FK.out y (by rw [List.take_length]; exact hy)⟩)
            clear FT FI FK
            go_wp2_with fail
            go_roundw
            case rel => exact ⟨t + 1, by have := HLT.out; omega, by go_num, by trivial, F2⟩
            case measure => have := HLT.out; simp [intOf]; omega
    · obtain rfl : t = l.length := by omega
      have ht64 : ¬ (l.length : Int) < (l.length : Int) := by omega
      have FA := Lib.hid (show ∀ x ∈ l, Fit x by have := FI.out; rwa [List.take_length] at this)
      have FN := Lib.hid (show ∀ x ∈ nnL l, x.length ≤ 30 ∧ ∀ y ∈ x, y.length ≤ 100 from fun x hx => by
        simp only [nnL, List.mem_map] at hx
        obtain ⟨y, hy, rfl⟩ := hx
        have f := FA.out y hy
        refine ⟨by simpa [nsL] using f.1, fun z hz => ?_⟩
        simp only [nsL, List.mem_map] at hz
        obtain ⟨u, hu, rfl⟩ := hz
        exact f.2 u hu)
      have SM := Lib.hid (whL_small (ls := nnL l) (ends := ends) (by simp [nnL]; omega) FN.out)
      have CA := Lib.hid (S.out.whC A l l.length c B ends ends.length d w1 (HS.out.ext X1.out) rfl (by omega) (HK.out.ext X1.out) rfl (by omega) hcp (szL_small (by simp [nnL]; omega) FN.out))
      have RA := Lib.hid (fun w' (x : Ext w1 w') => rwhole_any A l l.length c B ends ends.length d w' (HS.out.ext (X1.out.trans x)) rfl (by omega) (HK.out.ext (X1.out.trans x)) rfl (by omega) FA.out)
      clear FI FA S HS HK
      generalize whL (nnL l) ends = r at *
      go_wp2_with fail
      refine CA.out.mono ?_
      rintro e w2 ⟨x2, A2, r2, c2, rfl, k2, n2⟩
      have X2 := Lib.hid (X1.out.trans x2)
      have RB := Lib.hid (RA.out w2 x2)
      have K2 := Lib.hid k2
      have N2 := Lib.hid n2
      clear x2 k2 n2 CA RA
      go_wp2_with fail
      refine RB.out.mono ?_
      rintro e w3 ⟨v3, r3, rfl, o3, n3⟩
      obtain ⟨A3, c3, rfl, k3⟩ := o3.read
      have x3 := o3.2.1
      have X3 := Lib.hid (X2.out.trans x3)
      have SAME := Lib.hid (same_yes (c := c2) (d := c3) (K2.out.ext x3) k3.1 N2.out n3 rfl (nsL_len n3) SM.out.1 SM.out.2)
      clear RB K2 N2 o3 k3 n3 x3 SM
      generalize r.length = m2 at *
      generalize r3.length = m3 at *
      go_wp2_with fail
      refine SAME.out.mono ?_
      rintro e w4 ⟨rfl, x4⟩
      go_wp2_with fail
      go_ret
      exact ⟨rfl, X3.out.trans x4⟩
end PieceWholes
end Go.Proofs.Ytmmgmcfhlhghoaa

