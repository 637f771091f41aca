/- The document's Few, and Same, of layer 10. -/
import Derived.Test.YtenajekmnggkeaaCheck10
import Derived.Test.YtenajekmnggkeaaSameLib
import Derived.Test.YtenajekmnggkeaaResults
import Derived.Laws.Strings
import Derived.Lib.QuietBelow
import Derived.BigQuiet
namespace Go.Proofs.Ytenajekmnggkeaa
open Go.RowKit
open Go.Lib hiding intOf
namespace L10

/-- A call within a region that draws its order. -/
theorem rg10 {f : FuncId} {args : Array Value} {w : World} {d : Nat} {os : Array Obj} {v : Value} (h : Calls Try.prog f args (Sort.grow (redrawn w d) os) (Ret (Sort.grow (redrawn w d) os) v)) :
    Calls Try.prog f args (Sort.grow (redrawn w d) os) fun e w'' => e = .returned v ∧ ∃ p : Regrown, w'' = Sort.grow (redrawn w p.d) p.os := Calls.regrown_of h
def few1 (x : WP) : Bool := decide (x.s.size ≤ 60) && decide (x.ns.length ≤ 60)
def fewD (D : PatsD) : Bool := (decide (D.l.length ≤ 310) && decide (D.m.length ≤ 310)) && (D.l.all few1 && D.m.all few1)

set_option maxRecDepth 100000 in
set_option maxHeartbeats 4000000 in
theorem fewp_any (D : PatsD) (P : PatsP) (w : World) (sn : SeenPats w D P) : Calls Try.prog 9 #[patsV D P] w (Ret w (.bool (fewD D))) := by
  obtain ⟨l, m⟩ := D
  obtain ⟨A, c, B, d⟩ := P
  obtain ⟨V, hV⟩ : ∃ V, V = w.alloc (.cells #[.slice A l.length c, .slice B m.length d] 25) := ⟨_, rfl⟩
  have W0 : Ext w V := by rw [hV]; exact (Ext.refl _).alloc _
  have kB : Blk V w.heap.size 25 [.slice A l.length c, .slice B m.length d] := by rw [hV]; exact Blk.lit _ _ _ _ rfl
  have SL := Lib.hid ((sn.ext W0).l)
  have SM := Lib.hid ((sn.ext W0).m)
  obtain ⟨b, hb⟩ : ∃ b, fewD ⟨l, m⟩ = b := ⟨_, rfl⟩
  rw [hb]
  have HB0 := Lib.hid (show ((decide (l.length ≤ 310) && decide (m.length ≤ 310)) && (l.all few1 && m.all few1)) = b from hb)
  unfold patsV
  obtain ⟨n, hn⟩ : ∃ n, n = l.length := ⟨_, rfl⟩
  obtain ⟨q, hq⟩ : ∃ q, q = m.length := ⟨_, rfl⟩
  dsimp only at SL SM ⊢
  rw [← hn] at hV kB HB0 ⊢
  rw [← hq] at hV kB HB0 ⊢
  have HN := Lib.hid hn
  have HQ := Lib.hid hq
  clear hb hn hq sn
  by_cases h1 : (310 : Int) < n
  · have HF := Lib.hid (show false = b by rw [← HB0.out, decide_eq_false (show ¬ n ≤ 310 by omega)]; rfl)
    clear HB0 SL SM kB
    go_enter Try.func9, Try.ntmps9
    go_upto_region 1 with (fail)
    rw [← hV]
    have q0 : V.cell? ⟨w.heap.size, 0, none⟩ = some (.slice A n c) := by rw [hV]; simp
    have q1 : V.cell? ⟨w.heap.size, 1, none⟩ = some (.slice B q d) := by rw [hV]; simp
    clear hV
    go_wp2_with fail
    go_ret
    exact ⟨ret_bool HF.out, W0⟩
  by_cases h2 : (310 : Int) < q
  · have HF := Lib.hid (show false = b by rw [← HB0.out, decide_eq_true (show n ≤ 310 by omega), decide_eq_false (show ¬ q ≤ 310 by omega)]; rfl)
    clear HB0 SL SM kB
    go_enter Try.func9, Try.ntmps9
    go_upto_region 1 with (fail)
    rw [← hV]
    have q0 : V.cell? ⟨w.heap.size, 0, none⟩ = some (.slice A n c) := by rw [hV]; simp
    have q1 : V.cell? ⟨w.heap.size, 1, none⟩ = some (.slice B q d) := by rw [hV]; simp
    clear hV
    go_wp2_with fail
    go_ret
    exact ⟨ret_bool HF.out, W0⟩
  have HB := Lib.hid (show (l.all few1 && m.all few1) = b by rw [← HB0.out, decide_eq_true (show n ≤ 310 by omega), decide_eq_true (show q ≤ 310 by omega)]; rfl)
  clear HB0
  go_enter Try.func9, Try.ntmps9
  go_upto_region 1 with (fail)
  rw [← hV]
  clear hV
  generalize w.heap.size = Bx at *
  have HX := Lib.hid W0
  clear W0
  have q0 : V.cell? ⟨Bx, 0, none⟩ = some (.slice A n c) := kB.cell 0
  have q1 : V.cell? ⟨Bx, 1, none⟩ = some (.slice B q d) := kB.cell 1
  go_wp2_with fail
  go_loop [3] (fun i => ∃ k : Nat, k ≤ n ∧ i = .int .i64 k ∧ Hid (l.all few1 = (l.drop k).all few1)) (fun i => n - (intOf i).toNat)
  case atStart => exact ⟨0, Nat.zero_le _, rfl, rfl⟩
  case round =>
    obtain ⟨k, hkk, rfl, hall⟩ := hrel
    by_cases hltk : k < n
    · have hlt' : k < l.length := by rw [← HN.out]; exact hltk
      obtain ⟨⟨ad, hA, e0, e1⟩, _⟩ := SL.out.get hlt'
      rw [hA] at q0
      have hall := hall.out
      rw [all_drop hlt'] at hall
      have HALL := Lib.hid hall
      have hk64 : (k : Int) < (n : Int) := by omega
      generalize l[k] = x at *
      obtain ⟨s, ns, A', c'⟩ := x
      dsimp only at e0 e1
      obtain ⟨z, hz⟩ : ∃ z, z = ns.length := ⟨_, rfl⟩
      rw [← hz] at e1
      have F1 := Lib.hid (show few1 ⟨s, ns, A', c'⟩ = (decide (s.size ≤ 60) && decide (z ≤ 60)) by rw [hz]; rfl)
      clear hall hz hA
      by_cases h60 : (60 : Int) < s.size
      · have HF := Lib.hid (show false = b by rw [← HB.out, HALL.out, F1.out, decide_eq_false (show ¬ s.size ≤ 60 by omega)]; rfl)
        clear HALL F1
        go_wp2_with fail
        go_ret
        exact ⟨ret_bool HF.out, HX.out⟩
      · by_cases h61 : (60 : Int) < z
        · have HF := Lib.hid (show false = b by rw [← HB.out, HALL.out, F1.out, decide_eq_true (show s.size ≤ 60 by omega), decide_eq_false (show ¬ z ≤ 60 by omega)]; rfl)
          clear HALL F1
          go_wp2_with fail
          go_ret
          exact ⟨ret_bool HF.out, HX.out⟩
        · have HR := Lib.hid (show l.all few1 = (l.drop (k + 1)).all few1 by rw [HALL.out, F1.out, decide_eq_true (show s.size ≤ 60 by omega), decide_eq_true (show z ≤ 60 by omega)]; rfl)
          clear HALL F1
          go_wp2_with fail
          go_round
          case rel => exact ⟨k + 1, by omega, by go_num, HR⟩
          case measure => simp [intOf]; omega
    · obtain rfl : k = n := by omega
      have HB2 := Lib.hid (show m.all few1 = b by rw [← HB.out, hall.out, HN.out, List.drop_length]; rfl)
      clear hall HB
      go_wp2_with fail
      go_loop [4] (fun i => ∃ k : Nat, k ≤ q ∧ i = .int .i64 k ∧ Hid (m.all few1 = (m.drop k).all few1)) (fun i => q - (intOf i).toNat)
      case atStart => exact ⟨0, Nat.zero_le _, rfl, rfl⟩
      case round =>
        obtain ⟨j, hkj, rfl, hall⟩ := hrel
        by_cases hltj : j < q
        · have hlt' : j < m.length := by rw [← HQ.out]; exact hltj
          obtain ⟨⟨ad, hA, e0, e1⟩, _⟩ := SM.out.get hlt'
          rw [hA] at q1
          have hall := hall.out
          rw [all_drop hlt'] at hall
          have HALL := Lib.hid hall
          have hk64 : (j : Int) < (q : Int) := by omega
          generalize m[j] = x at *
          obtain ⟨s, ns, A', c'⟩ := x
          dsimp only at e0 e1
          obtain ⟨z, hz⟩ : ∃ z, z = ns.length := ⟨_, rfl⟩
          rw [← hz] at e1
          have F1 := Lib.hid (show few1 ⟨s, ns, A', c'⟩ = (decide (s.size ≤ 60) && decide (z ≤ 60)) by rw [hz]; rfl)
          clear hall hz hA
          by_cases h60 : (60 : Int) < s.size
          · have HF := Lib.hid (show false = b by rw [← HB2.out, HALL.out, F1.out, decide_eq_false (show ¬ s.size ≤ 60 by omega)]; simp)
            clear HALL F1
            go_wp2_with fail
            go_ret
            exact ⟨ret_bool HF.out, HX.out⟩
          · by_cases h61 : (60 : Int) < z
            · have HF := Lib.hid (show false = b by rw [← HB2.out, HALL.out, F1.out, decide_eq_true (show s.size ≤ 60 by omega), decide_eq_false (show ¬ z ≤ 60 by omega)]; simp)
              clear HALL F1
              go_wp2_with fail
              go_ret
              exact ⟨ret_bool HF.out, HX.out⟩
            · have HR := Lib.hid (show m.all few1 = (m.drop (j + 1)).all few1 by rw [HALL.out, F1.out, decide_eq_true (show s.size ≤ 60 by omega), decide_eq_true (show z ≤ 60 by omega)]; rfl)
              clear HALL F1
              go_wp2_with fail
              go_round
              case rel => exact ⟨j + 1, by omega, by go_num, HR⟩
              case measure => simp [intOf]; omega
        · obtain rfl : j = q := by omega
          have HF := Lib.hid (show true = b by rw [← HB2.out, hall.out, HQ.out, List.drop_length]; rfl)
          clear hall
          go_wp2_with fail
          go_ret
          exact ⟨ret_bool HF.out, HX.out⟩
/-- An argument that is Few. -/
theorem few_len {D : PatsD} (h : fewD D = true) : D.l.length ≤ 310 ∧ D.m.length ≤ 310 ∧ ∀ x ∈ D.l ++ D.m, x.s.size ≤ 60 ∧ x.ns.length ≤ 60 := by
  simp only [fewD, few1, Bool.and_eq_true, decide_eq_true_eq, List.all_eq_true] at h
  refine ⟨h.1.1, h.1.2, fun x hx => ?_⟩
  rcases List.mem_append.1 hx with hx | hx
  · exact h.2.1 x hx
  · exact h.2.2 x hx
end L10
end Go.Proofs.Ytenajekmnggkeaa

