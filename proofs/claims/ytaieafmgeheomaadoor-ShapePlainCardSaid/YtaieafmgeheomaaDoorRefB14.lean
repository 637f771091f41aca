/- The document's Check. Written by gen14/rchk.py. -/
import Derived.Test.YtaieafmgeheomaaDoorIn14
namespace Go.Proofs.YtaieafmgeheomaaDoor
open Go.RowKit
namespace L14

def oneB (L : LayD) : Bool := inB (L.v 0) 1 67108864 && inB (L.v 1) 0 4194304 && inB (L.v 2) 0 4194304 && inB (L.v 3) 0 4194304 && decide ((L.n : Int) ≤ 40)
def twoB (L : LayD) : Bool := inB (L.v 5) (wrap64 (1 - L.v 0)) (wrap64 (L.v 0 - 1)) && inB (L.v 6) (-100) 100 && inB (L.v 7) 0 40 && inB (L.v 8) 0 40 && inB (L.v 9) (-1) 10000 && inB (L.v 10) 0 10000 && inB (L.v 11) 0 67108864
def threeB (L : LayD) : Bool := inB (L.v 12) 0 1000 && inB (L.v 13) (-1000) 1000 && inB (L.v 14) (-1000) 1000 && inB (L.v 20) (-5) 5
def fourB (L : LayD) : Bool := inB (L.v 15) 0 10000 && inB (L.v 16) 0 10000 && inB (L.v 17) 0 10000 && inB (L.v 18) 0 10000 && inB (L.v 19) 0 10000
def lineB (L : LayD) (t : Nat) : Bool := inB (L.sh t).1 0 67108864 && inB (L.sh t).2 1 67108864
def linesB (L : LayD) (n : Nat) : Bool := (List.range n).all (lineB L)
theorem mayL_eq (L : LayD) : mayL L = (oneB L && twoB L && threeB L && fourB L && linesB L L.n) := by
  have e0 : ∀ t, okL L (2, t) = lineB L t := fun t => by
    simp [okL, okN, lineB, inB, cntK, loK, hiK, valD, List.range_succ]
  have e1 : mayL L = (decide (L.n ≤ 40) && (okL L (0, 0) && okL L (1, 0) && linesB L L.n && (okL L (3, 0) && okL L (4, 0) && okL L (5, 0) && okL L (6, 0) && okL L (7, 0) && okL L (8, 0) && okL L (9, 0)))) := by
    have : ((List.range L.n).map (fun t => (2, t))).all (okL L) = linesB L L.n := by
      rw [List.all_map, linesB]
      congr 1
      funext t
      exact e0 t
    rw [mayL, seqN, List.all_append, List.all_append, this]
    simp [Bool.and_assoc]
  rw [e1]
  have e2 : oneB L = (okL L (0, 0) && okL L (1, 0) && decide (L.n ≤ 40)) := by
    have : decide ((L.n : Int) ≤ 40) = decide (L.n ≤ 40) := by simp; omega
    rw [oneB, this]
    simp [okL, okN, inB, cntK, loK, hiK, valD, baseK, List.range_succ, Bool.and_assoc]
  have e3 : twoB L = (okL L (3, 0) && okL L (4, 0) && okL L (5, 0) && okL L (6, 0)) := by
    simp [twoB, okL, okN, inB, cntK, loK, hiK, valD, baseK, List.range_succ, Bool.and_assoc]
  have e4 : (threeB L && fourB L) = (okL L (7, 0) && okL L (8, 0) && okL L (9, 0)) := by
    simp only [threeB, fourB, okL, okN, inB, cntK, loK, hiK, valD, baseK, List.range_succ, List.range_zero, List.nil_append, List.cons_append, List.all_cons, List.all_nil, Bool.and_true]
    simp
    generalize L.v 20 = z
    ac_rfl
  rw [Bool.and_assoc (oneB L && twoB L), e4, e2, e3]
  ac_rfl

theorem lines_no {L : LayD} {n k : Nat} (hk : k < n) (h : lineB L k = false) : linesB L n = false := by
  unfold linesB
  rw [List.all_eq_false]
  exact ⟨k, List.mem_range.2 hk, by simp [h]⟩
theorem lines_next {L : LayD} {k : Nat} (h : linesB L k = true) (h' : lineB L k = true) : linesB L (k + 1) = true := by
  unfold linesB at *
  rw [List.range_succ, List.all_append, h]
  simp [h']

set_option maxRecDepth 100000 in
set_option maxHeartbeats 4000000 in
theorem rcheck_any (L : LayD) (A : Option Addr) (c : Nat) (w : World) (ok : LayOk L c) (sn : SeenP w A L.n L.sh) :
    Calls Tryd.prog 11 #[.agg (layC L A c).toArray] w (Ret w (.bool (mayL L))) := by
  have MAY := Lib.hid (mayL_eq L)
  have n64 : (L.n : Int) ≤ 9223372036854775807 := by have := ok.n; have := ok.c; have : maxLen ≤ 9223372036854775807 := by decide
                                                     omega
  obtain ⟨WB, hWB⟩ : ∃ WB, WB = w.alloc (.cells (layC L A c).toArray 24) := ⟨_, rfl⟩
  have x0 : Ext w WB := by rw [hWB]; exact (Ext.refl _).alloc _
  have K0 := Lib.hid (show Blk WB w.heap.size 24 (layC L A c) by rw [hWB]; exact Blk.lit _ _ _ _ rfl)
  have SN := Lib.hid (sn.ext x0)
  have X := Lib.hid x0
  obtain ⟨lo, hlo⟩ : ∃ lo, lo = wrap64 (1 - L.v 0) := ⟨_, rfl⟩
  obtain ⟨hi, hhi⟩ : ∃ hi, hi = wrap64 (L.v 0 - 1) := ⟨_, rfl⟩
  have l1 : IntKind.i64.wrap (1 - L.v 0) = lo := by rw [hlo, IntKind.wrap_i64]; unfold wrap64; omega
  have h1 : IntKind.i64.wrap (L.v 0 - 1) = hi := by rw [hhi, IntKind.wrap_i64]; unfold wrap64; omega
  have TWO := Lib.hid (show twoB L = (inB (L.v 5) lo hi && inB (L.v 6) (-100) 100 && inB (L.v 7) 0 40 && inB (L.v 8) 0 40 && inB (L.v 9) (-1) 10000 && inB (L.v 10) 0 10000 && inB (L.v 11) 0 67108864) by rw [twoB, ← hlo, ← hhi])
  clear sn x0 ok hlo hhi
  go_enter Tryd.func11, Tryd.ntmps11
  go_upto_region 1 with (fail)
  rw [← hWB]
  clear hWB
  generalize w.heap.size = b0 at *
  have a0 : WB.cell? ⟨b0, 0, none⟩ = some (.int .i64 (L.v 0)) := K0.out.cell 0
  have a1 : WB.cell? ⟨b0, 1, none⟩ = some (.int .i64 (L.v 1)) := K0.out.cell 1
  have a2 : WB.cell? ⟨b0, 2, none⟩ = some (.int .i64 (L.v 2)) := K0.out.cell 2
  have a3 : WB.cell? ⟨b0, 3, none⟩ = some (.int .i64 (L.v 3)) := K0.out.cell 3
  have a5 : WB.cell? ⟨b0, 5, none⟩ = some (.int .i64 (L.v 5)) := K0.out.cell 5
  have a6 : WB.cell? ⟨b0, 6, none⟩ = some (.int .i64 (L.v 6)) := K0.out.cell 6
  have a7 : WB.cell? ⟨b0, 7, none⟩ = some (.int .i64 (L.v 7)) := K0.out.cell 7
  have a8 : WB.cell? ⟨b0, 8, none⟩ = some (.int .i64 (L.v 8)) := K0.out.cell 8
  have a9 : WB.cell? ⟨b0, 9, none⟩ = some (.int .i64 (L.v 9)) := K0.out.cell 9
  have a10 : WB.cell? ⟨b0, 10, none⟩ = some (.int .i64 (L.v 10)) := K0.out.cell 10
  have a11 : WB.cell? ⟨b0, 11, none⟩ = some (.int .i64 (L.v 11)) := K0.out.cell 11
  have a12 : WB.cell? ⟨b0, 12, none⟩ = some (.int .i64 (L.v 12)) := K0.out.cell 12
  have a13 : WB.cell? ⟨b0, 13, none⟩ = some (.int .i64 (L.v 13)) := K0.out.cell 13
  have a14 : WB.cell? ⟨b0, 14, none⟩ = some (.int .i64 (L.v 14)) := K0.out.cell 14
  have a15 : WB.cell? ⟨b0, 15, none⟩ = some (.int .i64 (L.v 15)) := K0.out.cell 15
  have a16 : WB.cell? ⟨b0, 16, none⟩ = some (.int .i64 (L.v 16)) := K0.out.cell 16
  have a17 : WB.cell? ⟨b0, 17, none⟩ = some (.int .i64 (L.v 17)) := K0.out.cell 17
  have a18 : WB.cell? ⟨b0, 18, none⟩ = some (.int .i64 (L.v 18)) := K0.out.cell 18
  have a19 : WB.cell? ⟨b0, 19, none⟩ = some (.int .i64 (L.v 19)) := K0.out.cell 19
  have a20 : WB.cell? ⟨b0, 20, none⟩ = some (.int .i64 (L.v 20)) := K0.out.cell 20
  have a4 : WB.cell? ⟨b0, 4, none⟩ = some (.slice A L.n c) := K0.out.cell 4
  go_cut [3] from 8 to 31 (fun vv wx => vv = .bool (oneB L) ∧ WB = wx)
  case first =>
    go_wp2_with fail
    refine (in_any _ _ _ _).mono ?_
    rintro e w' ⟨rfl, hw'⟩
    subst hw'
    cases i0 : inB (L.v 0) 1 67108864 with
    | false =>
      go_wp2_with fail
      go_meet
      exact ⟨by rw [oneB, i0]; rfl, rfl⟩
    | true =>
      go_wp2_with fail
      refine (in_any _ _ _ _).mono ?_
      rintro e w' ⟨rfl, hw'⟩
      subst hw'
      cases i1 : inB (L.v 1) 0 4194304 with
      | false =>
        go_wp2_with fail
        go_meet
        exact ⟨by rw [oneB, i0, i1]; rfl, rfl⟩
      | true =>
        go_wp2_with fail
        refine (in_any _ _ _ _).mono ?_
        rintro e w' ⟨rfl, hw'⟩
        subst hw'
        cases i2 : inB (L.v 2) 0 4194304 with
        | false =>
          go_wp2_with fail
          go_meet
          exact ⟨by rw [oneB, i0, i1, i2]; rfl, rfl⟩
        | true =>
          go_wp2_with fail
          refine (in_any _ _ _ _).mono ?_
          rintro e w' ⟨rfl, hw'⟩
          subst hw'
          cases i3 : inB (L.v 3) 0 4194304 with
          | false =>
            go_wp2_with fail
            go_meet
            exact ⟨by rw [oneB, i0, i1, i2, i3]; rfl, rfl⟩
          | true =>
            by_cases hn : (L.n : Int) ≤ 40
            · go_wp2_with fail
              go_meet
              exact ⟨by rw [oneB, i0, i1, i2, i3, decide_eq_true hn]; rfl, rfl⟩
            · go_wp2_with fail
              go_meet
              exact ⟨by rw [oneB, i0, i1, i2, i3, decide_eq_false (by omega)]; rfl, rfl⟩
  case rest =>
  obtain ⟨rfl, hwx⟩ := hcut
  subst hwx
  go_upto_region 2 with (fail)
  go_cut [4] from 32 to 70 (fun vv wx => vv = .bool (twoB L) ∧ WB = wx)
  case first =>
    go_wp2_with fail
    refine (in_any _ _ _ _).mono ?_
    rintro e w' ⟨rfl, hw'⟩
    subst hw'
    cases i0 : inB (L.v 5) lo hi with
    | false =>
      go_wp2_with fail
      go_meet
      exact ⟨by rw [TWO.out, i0]; rfl, rfl⟩
    | true =>
      go_wp2_with fail
      refine (in_any _ _ _ _).mono ?_
      rintro e w' ⟨rfl, hw'⟩
      subst hw'
      cases i1 : inB (L.v 6) (-100) 100 with
      | false =>
        go_wp2_with fail
        go_meet
        exact ⟨by rw [TWO.out, i0, i1]; rfl, rfl⟩
      | true =>
        go_wp2_with fail
        refine (in_any _ _ _ _).mono ?_
        rintro e w' ⟨rfl, hw'⟩
        subst hw'
        cases i2 : inB (L.v 7) 0 40 with
        | false =>
          go_wp2_with fail
          go_meet
          exact ⟨by rw [TWO.out, i0, i1, i2]; rfl, rfl⟩
        | true =>
          go_wp2_with fail
          refine (in_any _ _ _ _).mono ?_
          rintro e w' ⟨rfl, hw'⟩
          subst hw'
          cases i3 : inB (L.v 8) 0 40 with
          | false =>
            go_wp2_with fail
            go_meet
            exact ⟨by rw [TWO.out, i0, i1, i2, i3]; rfl, rfl⟩
          | true =>
            go_wp2_with fail
            refine (in_any _ _ _ _).mono ?_
            rintro e w' ⟨rfl, hw'⟩
            subst hw'
            cases i4 : inB (L.v 9) (-1) 10000 with
            | false =>
              go_wp2_with fail
              go_meet
              exact ⟨by rw [TWO.out, i0, i1, i2, i3, i4]; rfl, rfl⟩
            | true =>
              go_wp2_with fail
              refine (in_any _ _ _ _).mono ?_
              rintro e w' ⟨rfl, hw'⟩
              subst hw'
              cases i5 : inB (L.v 10) 0 10000 with
              | false =>
                go_wp2_with fail
                go_meet
                exact ⟨by rw [TWO.out, i0, i1, i2, i3, i4, i5]; rfl, rfl⟩
              | true =>
                go_wp2_with fail
                refine (in_any _ _ _ _).mono ?_
                rintro e w' ⟨rfl, hw'⟩
                subst hw'
                cases i6 : inB (L.v 11) 0 67108864 with
                | false =>
                  go_wp2_with fail
                  go_meet
                  exact ⟨by rw [TWO.out, i0, i1, i2, i3, i4, i5, i6]; rfl, rfl⟩
                | true =>
                  go_wp2_with fail
                  go_meet
                  exact ⟨by rw [TWO.out, i0, i1, i2, i3, i4, i5, i6]; rfl, rfl⟩
  case rest =>
  obtain ⟨rfl, hwx⟩ := hcut
  subst hwx
  go_upto_region 3 with (fail)
  go_cut [5] from 71 to 88 (fun vv wx => vv = .bool (threeB L) ∧ WB = wx)
  case first =>
    go_wp2_with fail
    refine (in_any _ _ _ _).mono ?_
    rintro e w' ⟨rfl, hw'⟩
    subst hw'
    cases i0 : inB (L.v 12) 0 1000 with
    | false =>
      go_wp2_with fail
      go_meet
      exact ⟨by rw [threeB, i0]; rfl, rfl⟩
    | true =>
      go_wp2_with fail
      refine (in_any _ _ _ _).mono ?_
      rintro e w' ⟨rfl, hw'⟩
      subst hw'
      cases i1 : inB (L.v 13) (-1000) 1000 with
      | false =>
        go_wp2_with fail
        go_meet
        exact ⟨by rw [threeB, i0, i1]; rfl, rfl⟩
      | true =>
        go_wp2_with fail
        refine (in_any _ _ _ _).mono ?_
        rintro e w' ⟨rfl, hw'⟩
        subst hw'
        cases i2 : inB (L.v 14) (-1000) 1000 with
        | false =>
          go_wp2_with fail
          go_meet
          exact ⟨by rw [threeB, i0, i1, i2]; rfl, rfl⟩
        | true =>
          go_wp2_with fail
          refine (in_any _ _ _ _).mono ?_
          rintro e w' ⟨rfl, hw'⟩
          subst hw'
          cases i3 : inB (L.v 20) (-5) 5 with
          | false =>
            go_wp2_with fail
            go_meet
            exact ⟨by rw [threeB, i0, i1, i2, i3]; rfl, rfl⟩
          | true =>
            go_wp2_with fail
            go_meet
            exact ⟨by rw [threeB, i0, i1, i2, i3]; rfl, rfl⟩
  case rest =>
  obtain ⟨rfl, hwx⟩ := hcut
  subst hwx
  go_upto_region 4 with (fail)
  go_cut [6] from 89 to 111 (fun vv wx => vv = .bool (fourB L) ∧ WB = wx)
  case first =>
    go_wp2_with fail
    refine (in_any _ _ _ _).mono ?_
    rintro e w' ⟨rfl, hw'⟩
    subst hw'
    cases i0 : inB (L.v 15) 0 10000 with
    | false =>
      go_wp2_with fail
      go_meet
      exact ⟨by rw [fourB, i0]; rfl, rfl⟩
    | true =>
      go_wp2_with fail
      refine (in_any _ _ _ _).mono ?_
      rintro e w' ⟨rfl, hw'⟩
      subst hw'
      cases i1 : inB (L.v 16) 0 10000 with
      | false =>
        go_wp2_with fail
        go_meet
        exact ⟨by rw [fourB, i0, i1]; rfl, rfl⟩
      | true =>
        go_wp2_with fail
        refine (in_any _ _ _ _).mono ?_
        rintro e w' ⟨rfl, hw'⟩
        subst hw'
        cases i2 : inB (L.v 17) 0 10000 with
        | false =>
          go_wp2_with fail
          go_meet
          exact ⟨by rw [fourB, i0, i1, i2]; rfl, rfl⟩
        | true =>
          go_wp2_with fail
          refine (in_any _ _ _ _).mono ?_
          rintro e w' ⟨rfl, hw'⟩
          subst hw'
          cases i3 : inB (L.v 18) 0 10000 with
          | false =>
            go_wp2_with fail
            go_meet
            exact ⟨by rw [fourB, i0, i1, i2, i3]; rfl, rfl⟩
          | true =>
            go_wp2_with fail
            refine (in_any _ _ _ _).mono ?_
            rintro e w' ⟨rfl, hw'⟩
            subst hw'
            cases i4 : inB (L.v 19) 0 10000 with
            | false =>
              go_wp2_with fail
              go_meet
              exact ⟨by rw [fourB, i0, i1, i2, i3, i4]; rfl, rfl⟩
            | true =>
              go_wp2_with fail
              go_meet
              exact ⟨by rw [fourB, i0, i1, i2, i3, i4]; rfl, rfl⟩
  case rest =>
  obtain ⟨rfl, hwx⟩ := hcut
  subst hwx
  obtain ⟨c1, e1⟩ : ∃ x, x = oneB L := ⟨_, rfl⟩
  obtain ⟨c2, e2⟩ : ∃ x, x = twoB L := ⟨_, rfl⟩
  obtain ⟨c3, e3⟩ : ∃ x, x = threeB L := ⟨_, rfl⟩
  obtain ⟨c4, e4⟩ : ∃ x, x = fourB L := ⟨_, rfl⟩
  rw [← e1, ← e2, ← e3, ← e4] at MAY ⊢
  clear e1 e2 e3 e4 TWO
  cases c1 with
  | false =>
    go_wp2_with fail
    go_ret
    exact ⟨ret_bool (by rw [MAY.out]; rfl), X.out⟩
  | true =>
  cases c2 with
  | false =>
    go_wp2_with fail
    go_ret
    exact ⟨ret_bool (by rw [MAY.out]; rfl), X.out⟩
  | true =>
  cases c3 with
  | false =>
    go_wp2_with fail
    go_ret
    exact ⟨ret_bool (by rw [MAY.out]; rfl), X.out⟩
  | true =>
  cases c4 with
  | false =>
    go_wp2_with fail
    go_ret
    exact ⟨ret_bool (by rw [MAY.out]; rfl), X.out⟩
  | true =>
  have MAY := Lib.hid (show mayL L = linesB L L.n by rw [MAY.out]; rfl)
  have NO := Lib.hid (fun k (hk : k < L.n) (h : lineB L k = false) => show mayL L = false by rw [MAY.out]; exact lines_no hk h)
  have NEXT := Lib.hid (fun k (h : linesB L k = true) (h' : lineB L k = true) => lines_next h h')
  have EQ := Lib.hid (fun k (_ : k < L.n) => show lineB L k = (inB (L.sh k).1 0 67108864 && inB (L.sh k).2 1 67108864) from rfl)
  go_wp2_with fail
  go_loopw [7] (fun vi wr => ∃ k : Nat, k ≤ L.n ∧ vi = .int .i64 (k : Int) ∧ Hid (linesB L k = true) ∧ WB = wr) (fun i _ => L.n + 1 - (intOf i).toNat)
  case atStart => exact ⟨0, Nat.zero_le _, rfl, Lib.hid rfl, rfl⟩
  case round =>
    obtain ⟨k, hk, rfl, H, hwr⟩ := hrel
    subst hwr
    by_cases hlt : k < L.n
    · have hk64 : (k : Int) < (L.n : Int) := by omega
      obtain ⟨ad, hA, g0, g1⟩ := SN.out.get hlt
      subst hA
      have E := Lib.hid (EQ.out k hlt)
      have N1 := Lib.hid (NO.out k hlt)
      have N2 := Lib.hid (NEXT.out k H.out)
      clear NO NEXT EQ
      generalize (L.sh k).1 = p at *
      generalize (L.sh k).2 = q at *
      go_wp2_with fail
      refine (in_any _ _ _ _).mono ?_
      rintro e w' ⟨rfl, hw'⟩
      subst hw'
      cases i1 : inB p 0 67108864 with
      | false =>
        have N := Lib.hid (N1.out (by rw [E.out, i1]; rfl))
        go_wp2_with fail
        go_ret
        exact ⟨ret_bool N.out.symm, X.out⟩
      | true =>
        go_wp2_with fail
        refine (in_any _ _ _ _).mono ?_
        rintro e w' ⟨rfl, hw'⟩
        subst hw'
        cases i2 : inB q 1 67108864 with
        | false =>
          have N := Lib.hid (N1.out (by rw [E.out, i1, i2]; rfl))
          go_wp2_with fail
          go_ret
          exact ⟨ret_bool N.out.symm, X.out⟩
        | true =>
          have N := Lib.hid (N2.out (by rw [E.out, i1, i2]; rfl))
          go_wp2_with fail
          go_roundw
          case rel => exact ⟨k + 1, hlt, by go_num, N, trivial⟩
          case measure => simp [intOf]; omega
    · have hk64 : ¬ (k : Int) < (L.n : Int) := by omega
      have N := Lib.hid (show mayL L = true by rw [MAY.out, show L.n = k by omega]; exact H.out)
      go_wp2_with fail
      go_ret
      exact ⟨ret_bool N.out.symm, X.out⟩
end L14
end Go.Proofs.YtaieafmgeheomaaDoor

