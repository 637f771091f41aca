/- The landed Expand. -/
import Derived.Test.YtijhabhnhglhgaaExp08
namespace Go.Proofs.Ytijhabhnhglhgaa
open Go.RowKit Go.Lib
namespace L08
open L07

/-- What one owns is a slice, and is seen. -/
theorem own_slice {w : World} {base : Nat} {e : TypeId} {size n : Nat} {v : Value} {xs : List Value} (h : w.ownsRow base e size v n xs) : ∃ A c, v = .slice A n c ∧ n ≤ c ∧ c ≤ maxLen ∧ Seen w.heap.size w A xs := by
  obtain ⟨A, c, rfl, hs⟩ := own_seen h
  obtain ⟨_, ⟨e1, h1⟩ | ⟨g, cap, cur, e1, _, _, hc, hm, _⟩⟩ := h
  · cases e1
    exact ⟨none, 0, rfl, Nat.le_refl _, by simp [maxLen], hs⟩
  · cases e1
    exact ⟨_, c, rfl, hc, hm, hs⟩
/-- The codes of which codes are made, or its error. -/
def expandR (D : FontD) (l : List Int) : List Int × Int := match makeD D with
  | none => ([], 70)
  | some m => (expL m l, 0)
def IntsQ (w : World) (r : List Int × Int) (e : Ending) (w' : World) : Prop :=
  Ext w w' ∧ ∃ A c, e = .returned (.tuple #[.slice A r.1.length c, .int .i64 r.2]) ∧ r.1.length ≤ c ∧ c ≤ maxLen ∧ SeenF w' A r.1.length (fun j => r.1.getD j 0)
theorem expL_take (m : MapN) {l : List Int} {k : Nat} (hk : k < l.length) : expL m (l.take (k + 1)) = expL m (l.take k) ++ expC m (l.getD k 0) := by
  rw [List.take_succ_eq_append_getElem hk, List.getD, List.getElem?_eq_getElem hk]
  simp only [expL, List.flatMap_append, List.flatMap_cons, List.flatMap_nil, List.append_nil, Option.getD_some]
theorem Fine.hf {D : FontD} {m : MapN} (h : Fine D m) : ∀ c p, m c = some p → 128 ≤ c ∧ c < 256 ∧ 0 ≤ p.1 ∧ p.1 < c ∧ 0 ≤ p.2 ∧ p.2 < 128 := fun c p e => by
  obtain ⟨a, b, c', d, e', f, _⟩ := h.key c p e
  exact ⟨a, b, c', d, e', f⟩

set_option maxRecDepth 100000 in
set_option maxHeartbeats 8000000 in
theorem lexpand_any (D : FontD) (P : FontP) (A : Option Addr) (l : List Int) (cp : Nat) (w : World) (ok : FontOk D P) (sn : SeenFont w D P) (hl : SeenF w A l.length (fun j => l.getD j 0)) (hb : ∀ j, -9223372036854775808 ≤ l.getD j 0 ∧ l.getD j 0 ≤ 9223372036854775807) (hn : l.length ≤ 1000000) :
    Calls Try.prog 13 #[fontV D P, .slice A l.length cp] w (IntsQ w (expandR D l)) := by
  have W0 : Ext w (w.alloc (.cells #[.int .i64 D.sum, .int .i64 D.design, .int .i64 D.first, .slice P.xc D.nc P.zc, .slice P.xw D.nw P.zw, .slice P.xh D.nh P.zh, .slice P.xd D.nd P.zd, .slice P.xi D.ni P.zi, .slice P.xs D.ns P.zs, .slice P.xk D.nk P.zk, .slice P.xp D.np P.zp] 28)) := (Ext.refl _).alloc _
  have T := Lib.hid (makings_any D P _ ok (sn.ext W0))
  clear ok sn
  obtain ⟨n, hnl⟩ : ∃ n, n = l.length := ⟨_, rfl⟩
  rw [← hnl] at hl hn ⊢
  have HN := Lib.hid hnl
  have HB := Lib.hid hb
  clear hnl hb
  unfold fontV at *
  go_enter Try.func13, Try.ntmps13
  go_wp2_with fail
  refine T.out.mono ?_
  rintro e V ⟨x1, (⟨m, bm, q, hm, rfl, hM⟩ | ⟨hm, rfl⟩)⟩
  · have G := Lib.hid (make_good hm).fine.hf
    have HR := Lib.hid (show expandR D l = (expL m l, 0) by rw [expandR, hm])
    have XV := Lib.hid (W0.trans x1)
    have HM := Lib.hid hM
    have HL := Lib.hid (hl.ext XV.out)
    clear hm x1 hl T W0 hM
    go_wp2_with fail
    go_loopw [8, 20] (fun v i wr => ∃ (vv : Value) (k : Nat), vv = v ∧ k ≤ n ∧ i = .int .i64 k ∧ wr.ownsRow V.heap.size 3 1 v (expL m (l.take k)).length ((expL m (l.take k)).map (.int .i64)) ∧ Ext V wr ∧ (expL m (l.take k)).length ≤ 301 * k) (fun _ i _ => n - (intOf i).toNat)
    case atStart => exact ⟨_, 0, rfl, by omega, rfl, World.ownsRow_nil _ _ _ _, Ext.refl _, by simp [expL]⟩
    case round =>
      obtain ⟨vv, k, hvv, hk, rfl, ho, X, hle⟩ := hrel
      subst hvv
      have HX := Lib.hid X
      by_cases hlt : k < n
      · have hltl : k < l.length := by rw [← HN.out]; exact hlt
        obtain ⟨ad, rfl, hc⟩ := (HL.out.ext X).get hlt
        have HE := Lib.hid (expL_take m hltl)
        have hbk := HB.out k
        have hcl := exp1_length m 300 (l.getD k 0)
        have C := Lib.hid (expanded_any V bm q m HM.out G.out 300 (l.getD k 0) vv _ _ wr (fun p hp => by have := G.out _ p hp; omega) hbk X ho (by omega))
        have HEC : Hid (expC m (l.getD k 0) = exp1 m 300 (l.getD k 0)) := rfl
        have hlen := Lib.hid (show (expL m (l.take k) ++ exp1 m 300 (l.getD k 0)).length ≤ 301 * (k + 1) by rw [List.length_append]; omega)
        clear X ho hcl
        generalize l.getD k 0 = c at *
        go_wp2_with fail
        refine C.out.mono ?_
        rintro e w2 ⟨v2, rfl, ho2, hx2, _, _⟩
        have HO2 := Lib.hid ho2
        clear C ho2 hc
        go_wp2_with fail
        go_roundw
        case rel => exact ⟨_, k + 1, rfl, by omega, by go_num, by rw [HE.out, HEC.out, List.length_append, List.map_append]; exact HO2.out, hx2, by rw [HE.out, HEC.out]; exact hlen.out⟩
        case measure => simp [intOf]; omega
      · obtain rfl : k = n := by omega
        have e : l.take k = l := by rw [HN.out, List.take_length]
        rw [e] at ho
        obtain ⟨A', c', rfl, h1, h2, h3⟩ := own_slice ho
        have HF := Lib.hid (show IntsQ w (expandR D l) (.returned (.tuple #[.slice A' (expL m l).length c', .int .i64 0])) wr from by
          rw [HR.out]
          exact ⟨XV.out.trans X, A', c', rfl, h1, h2, h3.fn⟩)
        generalize (expL m l).length = z at *
        clear ho h3 X e
        go_wp2_with fail
        go_ret2
        exact HF.out
  · have HR := Lib.hid (show expandR D l = ([], 70) by rw [expandR, hm])
    clear hm
    go_wp2_with fail
    go_ret2
    rw [HR.out]
    exact ⟨W0.trans x1, none, 0, rfl, by simp, by simp [maxLen], SeenF.none⟩
end L08
end Go.Proofs.Ytijhabhnhglhgaa

