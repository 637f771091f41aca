/- The document's Expand of layer 8. -/
import Derived.Test.YtijhabhnhglhgaaROne08
import Derived.Deep.MidRow
import Derived.Deep.Cut
namespace Go.Proofs.Ytijhabhnhglhgaa
open Go.RowKit Go.Lib
namespace L08
open L07

theorem blk_range9 {w : World} {b : Nat} {t : TypeId} {cs : List Value} (h : Blk w b t cs) : w.rangeAt b 0 cs := fun j v hv => by
  rw [Nat.zero_add, h.cell j]; exact hv
theorem find_fine {D : FontD} {m : MapN} (h : makeD D = some m) : m = fun c => findP c (pairsD D D.nc) := by
  funext c
  exact make_find h c
theorem exp1_pos (m : MapN) : ∀ (f : Nat) (c : Int), 0 < (exp1 m f c).length
  | 0, c => by simp [exp1]
  | f + 1, c => by
    simp only [exp1]
    cases m c <;> simp
/-- append(own, x...). -/
theorem run_putL {w w0 : World} {v : Value} {k : Nat} {xs : List Value} (hown : w.ownsRow w0.heap.size 3 1 v k xs) (x0 : Ext w0 w) (A : Option Addr) (L : List Int) (c : Nat) (hs : Seen w.heap.size w A (L.map (.int .i64))) (hp : 0 < L.length) (hk : k + L.length ≤ 1000000) (ty : TypeId) :
    ∃ v' w', (Builtin.append_ #[25, 25] ty #[v, .slice A L.length c]).run Try.prog w = .ok v' w' ∧ w'.ownsRow w0.heap.size 3 1 v' (k + L.length) (xs ++ L.map (.int .i64)) ∧ Ext w0 w' := by
  obtain ⟨a, rfl, _, _⟩ := Seen.get hs (k := 0) (by simpa using hp)
  obtain ⟨A', c', w', hr, ho, hg⟩ := run_putV (P := Try.prog) 25 ty 3 (.int .i64 0) 1 8 (by kernel_rfl) (by kernel_rfl) rfl (by omega) (by omega) hown a L.length c (L.map (.int .i64)) (by simp)
    (fun j u hu => by
      obtain ⟨a', e, _, hc⟩ := hs j u hu
      cases e
      exact hc) (fun u hu => by
      simp only [List.mem_map] at hu
      obtain ⟨n, _, rfl⟩ := hu
      rfl) hk x0.size
  exact ⟨_, w', hr, ho, Below.grown x0 hg x0.size (fun n e => (hown.lt n e).1)⟩

set_option maxRecDepth 100000 in
set_option maxHeartbeats 8000000 in
theorem rexpand_any (D : FontD) (P : FontP) (A : Option Addr) (l : List Int) (cp : Nat) (w : World) (ok : FontOk D P) (sn : SeenFont w D P) (hl : SeenF w A l.length (fun j => l.getD j 0)) (hn : l.length ≤ 3000) :
    Calls Try.prog 14 #[.agg #[.int .i64 D.sum, .int .i64 D.design, .int .i64 D.first, .slice P.xc D.nc P.zc, .slice P.xw D.nw P.zw, .slice P.xh D.nh P.zh, .slice P.xd D.nd P.zd, .slice P.xi D.ni P.zi, .slice P.xs D.ns P.zs, .slice P.xk D.nk P.zk, .slice P.xp D.np P.zp], .slice A l.length cp] w (IntsQ w (expandR D l)) := by
  obtain ⟨V, hV⟩ : ∃ V, V = w.alloc (.cells #[.int .i64 D.sum, .int .i64 D.design, .int .i64 D.first, .slice P.xc D.nc P.zc, .slice P.xw D.nw P.zw, .slice P.xh D.nh P.zh, .slice P.xd D.nd P.zd, .slice P.xi D.ni P.zi, .slice P.xs D.ns P.zs, .slice P.xk D.nk P.zk, .slice P.xp D.np P.zp] 28) := ⟨_, rfl⟩
  have W0 : Ext w V := by rw [hV]; exact (Ext.refl _).alloc _
  have kF : Blk V w.heap.size 28 [.int .i64 D.sum, .int .i64 D.design, .int .i64 D.first, .slice P.xc D.nc P.zc, .slice P.xw D.nw P.zw, .slice P.xh D.nh P.zh, .slice P.xd D.nd P.zd, .slice P.xi D.ni P.zi, .slice P.xs D.ns P.zs, .slice P.xk D.nk P.zk, .slice P.xp D.np P.zp] := by rw [hV]; exact Blk.lit _ _ _ _ rfl
  have C1 := Lib.hid (show Calls Try.prog 18 #[.agg #[.int .i64 D.sum, .int .i64 D.design, .int .i64 D.first, .slice P.xc D.nc P.zc, .slice P.xw D.nw P.zw, .slice P.xh D.nh P.zh, .slice P.xd D.nd P.zd, .slice P.xi D.ni P.zi, .slice P.xs D.ns P.zs, .slice P.xk D.nk P.zk, .slice P.xp D.np P.zp]] V (Ret V (.bool (ligB D))) from rcheck_any D P V ok (sn.ext W0))
  have C2 := Lib.hid (fun (h : checkB D = true) w' (x : Ext V w') => show Calls Try.prog 35 #[.agg #[.int .i64 D.sum, .int .i64 D.design, .int .i64 D.first, .slice P.xc D.nc P.zc, .slice P.xw D.nw P.zw, .slice P.xh D.nh P.zh, .slice P.xd D.nd P.zd, .slice P.xi D.ni P.zi, .slice P.xs D.ns P.zs, .slice P.xk D.nk P.zk, .slice P.xp D.np P.zp]] w' (PairsQ D w') from rpairs_any D P w' ((sn.ext W0).ext x) h)
  have N1 := Lib.hid (fun h : ligB D = false => show expandR D l = ([], 70) by
    have : makeD D = none := by simpa [ligB] using h
    rw [expandR, this])
  have HL := Lib.hid (fun w' (x : Ext V w') => hl.ext (W0.trans x))
  obtain ⟨n, hnl⟩ : ∃ n, n = l.length := ⟨_, rfl⟩
  obtain ⟨rv, hrv⟩ : ∃ rv, expandR D l = rv := ⟨_, rfl⟩
  rw [hrv]
  have HR := Lib.hid hrv
  rw [← hnl] at HL hn ⊢
  have HN := Lib.hid hnl
  clear ok sn hl hrv hnl
  go_enter Try.func14, Try.ntmps14
  go_upto_region 1 with (fail)
  rw [← hV]
  clear hV
  generalize w.heap.size = B at *
  have HG := Lib.hid kF
  have HW := Lib.hid W0
  clear kF W0
  go_wp2_with (first | (refine wpList_load_mid rfl 28 _ rfl B 0 rfl [.int .i64 D.sum, .int .i64 D.design, .int .i64 D.first, .slice P.xc D.nc P.zc, .slice P.xw D.nw P.zw, .slice P.xh D.nh P.zh, .slice P.xd D.nd P.zd, .slice P.xi D.ni P.zi, .slice P.xs D.ns P.zs, .slice P.xk D.nk P.zk, .slice P.xp D.np P.zp] _ (blk_range9 HG.out) Try.underlying28 rfl (by kernel_rfl) ?_) | fail)
  refine C1.out.mono ?_; rintro e w1 ⟨rfl, x1⟩
  cases hL : ligB D with
  | false =>
    have H := Lib.hid (HR.out.symm.trans (N1.out hL))
    clear hL
    go_wp2_with fail
    go_ret2
    rw [H.out]
    exact ⟨HW.out.trans x1, none, 0, rfl, by simp, by simp [maxLen], SeenF.none⟩
  | true =>
  obtain ⟨m, hm⟩ := Option.isSome_iff_exists.1 (show (makeD D).isSome = true from hL)
  have C2 := Lib.hid (C2.out (make_good hm).check)
  have hgl : (pairsD D D.nc).length ≤ 100000 := by
    have := pairsD_length (check_in (make_good hm).check).ns D.nc
    have := (check_in (make_good hm).check).nc
    have := (check_in (make_good hm).check).first
    omega
  have hF := find_fine hm
  have G := Lib.hid (make_good hm).fine.hf
  have H := Lib.hid (HR.out.symm.trans (show expandR D l = (expL m l, 0) by rw [expandR, hm]))
  rw [hF] at G H
  clear hm hL hF N1 HR
  go_wp2_with (first | (refine wpList_load_mid rfl 28 _ rfl B 0 rfl [.int .i64 D.sum, .int .i64 D.design, .int .i64 D.first, .slice P.xc D.nc P.zc, .slice P.xw D.nw P.zw, .slice P.xh D.nh P.zh, .slice P.xd D.nd P.zd, .slice P.xi D.ni P.zi, .slice P.xs D.ns P.zs, .slice P.xk D.nk P.zk, .slice P.xp D.np P.zp] _ (blk_range9 (HG.out.ext x1)) Try.underlying28 rfl (by kernel_rfl) ?_) | fail)
  refine (C2.out _ x1).mono ?_; rintro e V2 ⟨x2, A2, c2, rfl, s2⟩
  have XV := Lib.hid (x1.trans x2)
  have S2 := Lib.hid (fun w' (x : Ext V2 w') => s2.ext x)
  clear x1 x2 s2 C1 C2 HG
  generalize pairsD D D.nc = g at *
  have O1 := Lib.hid (fun c w' (x : Ext V2 w') => one_any g A2 c2 hgl G.out 300 c w' (fun p hp => by have := G.out _ _ hp; omega) (by omega) (S2.out w' x))
  have OL := Lib.hid (fun c => And.intro (exp1_length (fun c => findP c g) 300 c) (exp1_pos (fun c => findP c g) 300 c))
  have OE := Lib.hid (fun c => show expC (fun c => findP c g) c = exp1 (fun c => findP c g) 300 c from rfl)
  obtain ⟨q, hq⟩ : ∃ q, q = g.length := ⟨_, rfl⟩
  rw [← hq] at O1 hgl ⊢
  obtain ⟨M, hM⟩ : ∃ M : MapN, M = fun c => findP c g := ⟨_, rfl⟩
  rw [← hM] at O1 OL OE H
  clear hM hq G S2
  go_wp2_with fail
  go_loopw [8, 9] (fun v i wr => ∃ (vv : Value) (k : Nat), vv = v ∧ k ≤ n ∧ i = .int .i64 k ∧ wr.ownsRow V2.heap.size 3 1 v (expL M (l.take k)).length ((expL M (l.take k)).map (.int .i64)) ∧ Ext V2 wr ∧ (expL M (l.take k)).length ≤ 301 * k) (fun _ i _ => n - (intOf i).toNat)
  case atStart => exact ⟨_, 0, rfl, by omega, rfl, World.ownsRow_nil _ _ _ _, Ext.refl _, by simp [expL]⟩
  case round =>
    obtain ⟨vv, k, hvv, hk, rfl, ho, X, hle⟩ := hrel
    subst hvv
    have HX := Lib.hid X
    by_cases hlt : k < n
    · have hltl : k < l.length := by rw [← HN.out]; exact hlt
      obtain ⟨ad, rfl, hc⟩ := (HL.out _ (XV.out.trans X)).get hlt
      have HE := Lib.hid (expL_take M hltl)
      obtain ⟨hcl, hcp⟩ := OL.out (l.getD k 0)
      have HEC := Lib.hid (OE.out (l.getD k 0))
      have C := Lib.hid (O1.out (l.getD k 0) wr X)
      have hk64 : (k : Int) < (n : Int) := by omega
      generalize l.getD k 0 = c at *
      generalize exp1 M 300 c = L at *
      have HO := Lib.hid ho
      clear X ho
      go_wp2_with fail
      refine C.out.mono ?_
      rintro e w2 ⟨v2, rfl, ho2, hx2⟩
      obtain ⟨A3, c3, rfl, h3, h3', s3⟩ := own_slice ho2
      obtain ⟨v', w', hr, ho', hx'⟩ := run_putL (OwnsRow.ext HO.out hx2) (HX.out.trans hx2) A3 L c3 s3 hcp (by omega) 25
      have HO2 := Lib.hid ho'
      have HLE := Lib.hid (show (expL M (l.take k) ++ L).length ≤ 301 * (k + 1) by rw [List.length_append]; omega)
      clear C ho2 hc s3 ho'
      go_wp2_with (at_builtin; refine wpList_ran rfl _ _ rfl hr ?_)
      go_roundw
      case rel => exact ⟨_, k + 1, rfl, by omega, by go_num, by rw [HE.out, HEC.out, List.length_append, List.map_append]; exact HO2.out, hx', by rw [HE.out, HEC.out]; exact HLE.out⟩
      case measure => simp [intOf]; omega
    · obtain rfl : k = n := by omega
      have e : l.take k = l := by rw [HN.out, List.take_length]
      rw [e] at ho
      obtain ⟨A', c', rfl, h1, h2, h3⟩ := own_slice ho
      have HF := Lib.hid (show IntsQ w rv (.returned (.tuple #[.slice A' (expL M l).length c', .int .i64 0])) wr from by
        rw [H.out]
        exact ⟨HW.out.trans (XV.out.trans X), A', c', rfl, h1, h2, h3.fn⟩)
      generalize (expL M l).length = z at *
      clear ho h3 X e
      go_wp2_with fail
      go_ret2
      exact HF.out
end L08
end Go.Proofs.Ytijhabhnhglhgaa

