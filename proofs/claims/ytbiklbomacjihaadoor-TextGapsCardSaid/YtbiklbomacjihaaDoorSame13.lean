/- The document's Same of layer 13. -/
import Derived.Test.YtbiklbomacjihaaDoorWords13
import Derived.Test.YtbiklbomacjihaaDoorMid09
import Derived.Test.YtbiklbomacjihaaDoorSameLib
import Derived.Lib.QuietBelow
import Derived.BigQuiet
namespace Go.Proofs.YtbiklbomacjihaaDoor
open Go.RowKit
namespace L13

/-- A call within a region that draws its order. -/
theorem rg13 {f : FuncId} {args : Array Value} {w : World} {d : Nat} {os : Array Obj} {v : Value} (h : Calls Tryd.prog f args (Sort.grow (redrawn w d) os) (Ret (Sort.grow (redrawn w d) os) v)) :
    Calls Tryd.prog f args (Sort.grow (redrawn w d) os) fun e w'' => e = .returned v ∧ ∃ p : Regrown, w'' = Sort.grow (redrawn w p.d) p.os := Calls.regrown_of h
theorem same_drop {l m : List CW} {k : Nat} (h : k < l.length) (h' : k < m.length) : decide ((l.drop k).map tw = (m.drop k).map tw) = ((decide (l[k].cs = m[k].cs) && decide (l[k].ss = m[k].ss)) && decide ((l.drop (k + 1)).map tw = (m.drop (k + 1)).map tw)) := by
  rw [List.drop_eq_getElem_cons h, List.drop_eq_getElem_cons h', List.map_cons, List.map_cons, ← Bool.decide_and, ← Bool.decide_and, decide_eq_decide, List.cons.injEq]
  unfold tw
  rw [Prod.mk.injEq]
theorem sameB_list (x y : List Int) : L04.sameB x.length y.length (fun j => x.getD j 0) (fun j => y.getD j 0) = decide (x = y) := by
  unfold L04.sameB
  rw [decide_eq_decide]
  refine ⟨fun ⟨h1, h2⟩ => List.ext_getElem h1 fun i h h' => ?_, fun h => by subst h; exact ⟨rfl, fun _ _ => rfl⟩⟩
  have := h2 i h
  simpa [List.getD, List.getElem?_eq_getElem h, List.getElem?_eq_getElem h'] using this
set_option maxRecDepth 100000 in
set_option maxHeartbeats 400000 in
theorem rsame_any (A A' : Option Addr) (l l' : List CW) (n n' c c' : Nat) (w : World) (hs : SeenC w A l) (hs' : SeenC w A' l') (hn : n = l.length) (hn' : n' = l'.length) (hm : n ≤ 1000000) (hin : ∀ x ∈ l, x.cs.length ≤ 1000000 ∧ x.ss.length ≤ 1000000) :
    Calls Tryd.prog 13 #[.slice A n c, .slice A' n' c'] w (Ret w (.bool (decide (l.map tw = l'.map tw)))) := by
  have SL := Lib.hid hs
  have SL' := Lib.hid hs'
  have INL := Lib.hid hin
  obtain ⟨b, hb⟩ : ∃ b, decide (l.map tw = l'.map tw) = b := ⟨_, rfl⟩
  rw [hb]
  have HB := Lib.hid hb
  have HN := Lib.hid hn
  have hn64 : (n : Int) ≤ 1000000 := by omega
  by_cases h1 : n = n'
  rotate_left
  · have HF := Lib.hid (show false = b by rw [← hb, decide_eq_false (fun h => h1 (by rw [hn, hn']; simpa using congrArg List.length h))])
    have h1' : ((n : Int) == (n' : Int)) = false := by simp; omega
    clear HB SL SL' INL hin hs hs' hn hn' h1 hb HN
    go_enter Tryd.func13, Tryd.ntmps13
    go_wp2_with fail
    go_ret
    exact ⟨ret_bool HF.out, Ext.refl _⟩
  have H1 := Lib.hid (h1.trans hn')
  subst h1
  clear hin hs hs' hn hn' hb
  go_enter Tryd.func13, Tryd.ntmps13
  go_wp2_with fail
  go_loopw [5] (fun i wr => ∃ k : Nat, k ≤ n ∧ i = .int .i64 k ∧ Hid (Ext w wr) ∧ Hid (decide (l.map tw = l'.map tw) = decide ((l.drop k).map tw = (l'.drop k).map tw))) (fun i _ => n - (intOf i).toNat)
  case atStart => exact ⟨0, Nat.zero_le _, rfl, Lib.hid (Ext.refl _), rfl⟩
  case round =>
    obtain ⟨k, hk, rfl, hX, hall⟩ := hrel
    obtain ⟨wk, rfl⟩ : ∃ wk : World, wk = wr := ⟨_, rfl⟩
    by_cases hlt : k < n
    · have hlt1 : k < l.length := by rw [← HN.out]; exact hlt
      have hlt2 : k < l'.length := by rw [← H1.out]; exact hlt
      obtain ⟨⟨ad, rfl, e0, e1⟩, hsn, hsm⟩ := (SL.out.ext hX.out).get hlt1
      obtain ⟨⟨be, rfl, f0, f1⟩, hsn2, hsm2⟩ := (SL'.out.ext hX.out).get hlt2
      obtain ⟨hi1, hi2⟩ := INL.out l[k] (List.getElem_mem hlt1)
      have hall := hall.out
      rw [same_drop hlt1 hlt2] at hall
      have HALL := Lib.hid hall
      have hk64 : (k : Int) < (n : Int) := by omega
      generalize l[k] = x at *
      generalize l'[k] = y at *
      obtain ⟨cs, Ax, cx, ss, Bx, dx⟩ := x
      obtain ⟨ct, Ay, cy, st, By, dy⟩ := y
      dsimp only at e0 e1 f0 f1 hsn hsn2 hsm hsm2 hi1 hi2 HALL
      have C := Lib.hid (fun dd os => L04.same_any Ax Ay cs.length ct.length cx cy _ _ (Sort.grow (redrawn wk dd) os) (hsn.ext (below_regrown _ _ _)).fn (hsn2.ext (below_regrown _ _ _)).fn (by omega))
      have C2 := Lib.hid (fun dd os => L04.same_any Bx By ss.length st.length dx dy _ _ (Sort.grow (redrawn wk dd) os) (hsm.ext (below_regrown _ _ _)).fn (hsm2.ext (below_regrown _ _ _)).fn (by omega))
      rw [sameB_list] at C C2
      obtain ⟨v, hv⟩ : ∃ v, decide (cs = ct) = v := ⟨_, rfl⟩
      obtain ⟨v2, hv2⟩ : ∃ v2, decide (ss = st) = v2 := ⟨_, rfl⟩
      rw [hv] at C HALL
      rw [hv2] at C2 HALL
      generalize cs.length = z1 at *
      generalize ct.length = z2 at *
      generalize ss.length = z3 at *
      generalize st.length = z4 at *
      clear hsn hsn2 hsm hsm2 hv hv2 hall hi1 hi2
      have e0' := cell_regrown e0
      have e1' := cell_regrown e1
      have f0' := cell_regrown f0
      have f1' := cell_regrown f1
      cases v with
      | false =>
        have HF := Lib.hid (show false = b by rw [← HB.out, HALL.out]; rfl)
        clear HALL C2
        go_wp2_with fail
        refine wp_region_quiet_below (by kernel_rfl) (by kernel_rfl) ?_
        repeat (go_big_quiet_step (with_reducible exact rg13 (C.out _ _)))
        refine wpQuiet_nil ?_
        intro _ hw'
        obtain ⟨⟨dq, osq⟩, hw''⟩ := hw'
        subst hw''
        clear e0' e1' f0' f1' e0 e1 f0 f1 C
        have Z2 := Lib.hid (show Ext wk (Sort.grow (redrawn wk dq) osq) from below_regrown _ _ _)
        generalize Sort.grow (redrawn wk dq) osq = u2 at *
        go_wp2_with fail
        go_ret
        exact ⟨ret_bool HF.out, hX.out.trans Z2.out⟩
      | true =>
        cases v2 with
        | false =>
          have HF := Lib.hid (show false = b by rw [← HB.out, HALL.out]; rfl)
          clear HALL
          go_wp2_with fail
          refine wp_region_quiet_below (by kernel_rfl) (by kernel_rfl) ?_
          repeat (go_big_quiet_step (first | (with_reducible exact rg13 (C.out _ _)) | (with_reducible exact rg13 (C2.out _ _))))
          refine wpQuiet_nil ?_
          intro _ hw'
          obtain ⟨⟨dq, osq⟩, hw''⟩ := hw'
          subst hw''
          clear e0' e1' f0' f1' e0 e1 f0 f1 C C2
          have Z2 := Lib.hid (show Ext wk (Sort.grow (redrawn wk dq) osq) from below_regrown _ _ _)
          generalize Sort.grow (redrawn wk dq) osq = u2 at *
          go_wp2_with fail
          go_ret
          exact ⟨ret_bool HF.out, hX.out.trans Z2.out⟩
        | true =>
          have HR := Lib.hid (show decide (l.map tw = l'.map tw) = decide ((l.drop (k + 1)).map tw = (l'.drop (k + 1)).map tw) by rw [HALL.out]; rfl)
          clear HALL
          go_wp2_with fail
          refine wp_region_quiet_below (by kernel_rfl) (by kernel_rfl) ?_
          repeat (go_big_quiet_step (first | (with_reducible exact rg13 (C.out _ _)) | (with_reducible exact rg13 (C2.out _ _))))
          refine wpQuiet_nil ?_
          intro _ hw'
          obtain ⟨⟨dq, osq⟩, hw''⟩ := hw'
          subst hw''
          clear e0' e1' f0' f1' e0 e1 f0 f1 C C2
          have Z2 := Lib.hid (show Ext wk (Sort.grow (redrawn wk dq) osq) from below_regrown _ _ _)
          generalize Sort.grow (redrawn wk dq) osq = u2 at *
          go_wp2_with fail
          go_roundw
          case rel => exact ⟨k + 1, by omega, by go_num, Lib.hid (hX.out.trans Z2.out), HR⟩
          case measure => simp [intOf]; omega
    · obtain rfl : k = n := by omega
      have HF := Lib.hid (show true = b by rw [← HB.out, hall.out, HN.out, List.drop_length, ← HN.out, H1.out, List.drop_length]; rfl)
      clear hall HB
      go_wp2_with fail
      go_ret
      exact ⟨ret_bool HF.out, hX.out⟩
end L13
end Go.Proofs.YtbiklbomacjihaaDoor

