/- The landed Check, and settable. -/
import Derived.Test.YtijhabhnhglhgaaMake08
namespace Go.Proofs.Ytijhabhnhglhgaa
open Go.RowKit Go.Lib
namespace L08
open L07

/-- The program may be. -/
def ligB (D : FontD) : Bool := (makeD D).isSome

set_option maxRecDepth 100000 in
set_option maxHeartbeats 4000000 in
theorem lcheck_any (D : FontD) (P : FontP) (w : World) (ok : FontOk D P) (sn : SeenFont w D P) : Calls Try.prog 17 #[fontV D P] w (Ret w (.bool (ligB D))) := by
  have W0 : Ext w (w.alloc (.cells #[.int .i64 D.sum, .int .i64 D.design, .int .i64 D.first, .slice P.xc D.nc P.zc, .slice P.xw D.nw P.zw, .slice P.xh D.nh P.zh, .slice P.xd D.nd P.zd, .slice P.xi D.ni P.zi, .slice P.xs D.ns P.zs, .slice P.xk D.nk P.zk, .slice P.xp D.np P.zp] 28)) := (Ext.refl _).alloc _
  have T := Lib.hid (makings_any D P _ ok (sn.ext W0))
  clear ok sn
  unfold fontV at *
  go_enter Try.func17, Try.ntmps17
  go_wp2_with fail
  refine T.out.mono ?_
  rintro e w1 ⟨x1, (⟨m, bm, n, hm, rfl, _⟩ | ⟨hm, rfl⟩)⟩
  · have H := Lib.hid (show true = ligB D by rw [ligB, hm]; rfl)
    clear hm
    go_wp2_with fail
    go_ret
    exact ⟨ret_bool H.out, W0.trans x1⟩
  · have H := Lib.hid (show false = ligB D by rw [ligB, hm]; rfl)
    clear hm
    go_wp2_with fail
    go_ret
    exact ⟨ret_bool H.out, W0.trans x1⟩

/-- An array of noughts, 127 of them. -/
theorem zero127 : ∃ Z : Array Value, (∀ w, (zeroValue 97).run Try.prog w = .ok (.agg Z) w) ∧ ∀ j : Nat, j < 127 → Z[j]? = some (.bool false) :=
  ⟨Array.replicate 127 (.bool false), fun w => by kernel_rfl, fun j hj => by simp [hj]⟩
theorem setB_take (D : FontD) {l : List Int} {k : Nat} (hk : k < l.length) (h : setB D (l.take k) = true) (ho : oneB D (l.getD k 0) = true) : setB D (l.take (k + 1)) = true := by
  rw [List.take_succ_eq_append_getElem hk]
  simp only [setB, List.all_append, List.all_cons, List.all_nil, Bool.and_true, Bool.and_eq_true]
  refine ⟨h, ?_⟩
  rwa [List.getD, List.getElem?_eq_getElem hk] at ho
theorem setB_fails (D : FontD) {l : List Int} {k : Nat} (hk : k < l.length) (ho : oneB D (l.getD k 0) = false) : setB D l = false := by
  rw [setB, List.all_eq_false]
  refine ⟨l[k], List.getElem_mem hk, ?_⟩
  rw [List.getD, List.getElem?_eq_getElem hk] at ho
  simpa using ho

set_option maxRecDepth 100000 in
set_option maxHeartbeats 8000000 in
theorem settable_any (D : FontD) (P : FontP) (A : Option Addr) (l : List Int) (cp : Nat) (w : World) (ok : FontOk D P) (sn : SeenFont w D P) (hl : SeenF w A l.length (fun j => l.getD j 0)) (hn : l.length ≤ 1000000) :
    Calls Try.prog 28 #[fontV D P, .slice A l.length cp] w (Ret w (.bool (setB D l))) := by
  obtain ⟨n, hnl⟩ : ∃ n, n = l.length := ⟨_, rfl⟩
  rw [← hnl] at hl hn ⊢
  have HN := Lib.hid hnl
  have OK := Lib.hid ok
  clear hnl ok
  obtain ⟨Z, hZ, hZ0⟩ := zero127
  have HZ0 := Lib.hid hZ0
  clear hZ0
  unfold fontV
  go_enter Try.func28, Try.ntmps28
  go_wp2_with fail
  obtain ⟨V, hV⟩ : ∃ V, V = (w.alloc (.cells #[.int .i64 D.sum, .int .i64 D.design, .int .i64 D.first, .slice P.xc D.nc P.zc, .slice P.xw D.nw P.zw, .slice P.xh D.nh P.zh, .slice P.xd D.nd P.zd, .slice P.xi D.ni P.zi, .slice P.xs D.ns P.zs, .slice P.xk D.nk P.zk, .slice P.xp D.np P.zp] 28)).alloc (.cells Z 97) := ⟨_, rfl⟩
  rw [← hV]
  have kF : Blk V w.heap.size 28 [.int .i64 D.sum, .int .i64 D.design, .int .i64 D.first, .slice P.xc D.nc P.zc, .slice P.xw D.nw P.zw, .slice P.xh D.nh P.zh, .slice P.xd D.nd P.zd, .slice P.xi D.ni P.zi, .slice P.xs D.ns P.zs, .slice P.xk D.nk P.zk, .slice P.xp D.np P.zp] := by rw [hV]; exact (Blk.lit _ _ _ _ rfl).ext ((Ext.refl _).alloc _)
  have kU : RowB V (w.heap.size + 1) 127 (fun _ => false) := by rw [hV]; exact rowB_lit _ _ _ _ _ _ (by simp) HZ0.out
  have XV : Ext w V := by rw [hV]; exact ((Ext.refl _).alloc _).alloc _
  have hzV : V.heap.size = w.heap.size + 1 + 1 := by rw [hV]; simp
  clear hV hZ HZ0
  have HL := Lib.hid hl
  have SN := Lib.hid sn
  clear hl sn
  generalize hb0 : w.heap.size = b0 at *
  generalize hb1 : b0 + 1 = b1 at *
  go_loopw [10] (fun i wr => ∃ (k : Nat) (ru : Int → Bool), k ≤ n ∧ i = .int .i64 k ∧ Hid (setB D (l.take k) = true) ∧ RowB wr b1 127 ru ∧ Hid (∀ y, ru y = true → hasB D y = true) ∧ Chg (fun p => p.block = b1) b0 V wr) (fun i _ => n - (intOf i).toNat)
  case atStart => exact ⟨0, _, by omega, rfl, rfl, kU, Lib.hid (fun _ h => by cases h), Chg.refl _ _ _⟩
  case round =>
    obtain ⟨k, ru, hk, rfl, hs, hU, hru, X⟩ := hrel
    have XW : Ext w wr := X.old w (by omega) XV
    by_cases hlt : k < n
    · have hltl : k < l.length := by rw [← HN.out]; exact hlt
      obtain ⟨ad, rfl, hc⟩ := (HL.out.ext XW).get hlt
      have kF : Blk wr b0 28 [.int .i64 D.sum, .int .i64 D.design, .int .i64 D.first, .slice P.xc D.nc P.zc, .slice P.xw D.nw P.zw, .slice P.xh D.nh P.zh, .slice P.xd D.nd P.zd, .slice P.xi D.ni P.zi, .slice P.xs D.ns P.zs, .slice P.xk D.nk P.zk, .slice P.xp D.np P.zp] := X.blk b0 _ _ _ (fun o h => by have h : b0 = b1 := h; omega) kF
      have q0 : wr.cell? ⟨b0, 0, none⟩ = some (.int .i64 D.sum) := kF.cell 0
      have q1 : wr.cell? ⟨b0, 1, none⟩ = some (.int .i64 D.design) := kF.cell 1
      have q2 : wr.cell? ⟨b0, 2, none⟩ = some (.int .i64 D.first) := kF.cell 2
      have q3 : wr.cell? ⟨b0, 3, none⟩ = some (.slice P.xc D.nc P.zc) := kF.cell 3
      have q4 : wr.cell? ⟨b0, 4, none⟩ = some (.slice P.xw D.nw P.zw) := kF.cell 4
      have q5 : wr.cell? ⟨b0, 5, none⟩ = some (.slice P.xh D.nh P.zh) := kF.cell 5
      have q6 : wr.cell? ⟨b0, 6, none⟩ = some (.slice P.xd D.nd P.zd) := kF.cell 6
      have q7 : wr.cell? ⟨b0, 7, none⟩ = some (.slice P.xi D.ni P.zi) := kF.cell 7
      have q8 : wr.cell? ⟨b0, 8, none⟩ = some (.slice P.xs D.ns P.zs) := kF.cell 8
      have q9 : wr.cell? ⟨b0, 9, none⟩ = some (.slice P.xk D.nk P.zk) := kF.cell 9
      have q10 : wr.cell? ⟨b0, 10, none⟩ = some (.slice P.xp D.np P.zp) := kF.cell 10
      have NO := Lib.hid (fun h : oneB D (l.getD k 0) = false => (setB_fails D hltl h).symm)
      have YES := Lib.hid (fun h : oneB D (l.getD k 0) = true => setB_take D hltl hs.out h)
      generalize l.getD k 0 = c at *
      by_cases h1 : c < 33
      · have H := Lib.hid (NO.out (by simp [oneB]; omega))
        have HX := Lib.hid XW
        clear X XW
        go_wp2_with fail
        go_ret
        exact ⟨ret_bool H.out, HX.out⟩
      · by_cases h2 : 126 < c
        · have H := Lib.hid (NO.out (by simp [oneB]; omega))
          have HX := Lib.hid XW
          clear X XW
          go_wp2_with fail
          go_ret
          exact ⟨ret_bool H.out, HX.out⟩
        · obtain ⟨i, rfl⟩ := Int.eq_ofNat_of_zero_le (show 0 ≤ c by omega)
          have hi : i < 127 := by omega
          obtain ⟨u0, u1⟩ := hU i hi
          have HX := Lib.hid X
          clear X
          cases hr : ru i with
          | true =>
            rw [hr] at u0
            have HY := Lib.hid (YES.out (by simp [oneB, hru.out _ hr]; omega))
            clear hr
            go_wp2_with fail
            go_roundw
            case rel => exact ⟨k + 1, ru, by omega, by go_num, HY, hU, hru, HX.out⟩
            case measure => simp [intOf]; omega
          | false =>
            rw [hr] at u0
            clear hr
            have TH := Lib.hid (thas_any D P i wr OK.out (SN.out.ext XW) ⟨by omega, by omega⟩)
            have HXW := Lib.hid XW
            clear XW
            unfold fontV at TH
            go_wp2_with fail
            refine TH.out.mono ?_; rintro e w2 ⟨rfl, x2⟩
            have u1 := x2.fz u0 u1
            have u0 := x2.at u0
            cases hh : hasB D i with
            | false =>
              have H := Lib.hid (NO.out (by simp [oneB, hh]))
              clear hh
              go_wp2_with fail
              go_ret
              exact ⟨ret_bool H.out, HXW.out.trans x2⟩
            | true =>
              have HY := Lib.hid (YES.out (by simp [oneB, hh]; omega))
              have HH := Lib.hid hh
              have hU2 := hU.ext x2
              clear hh
              go_wp2_with fail
              go_roundw
              case rel => exact ⟨k + 1, _, by omega, by go_num, HY, hU2.set i true, Lib.hid (fun y hy => by
                by_cases e : y = (i : Int)
                · rw [e]; exact HH.out
                · rw [if_neg e] at hy; exact hru.out y hy), (HX.out.trans (Chg.of_ext x2)).trans (Chg.set _ _ _ _ rfl (by omega))⟩
              case measure => simp [intOf]; omega
    · obtain rfl : k = n := by omega
      have H := Lib.hid (show true = setB D l by have := hs.out; rw [HN.out, List.take_length] at this; exact this.symm)
      have HX := Lib.hid XW
      clear X XW
      go_wp2_with fail
      go_ret
      exact ⟨ret_bool H.out, HX.out⟩
end L08
end Go.Proofs.Ytijhabhnhglhgaa

