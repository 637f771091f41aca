/- The document's Set of layer 8. -/
import Derived.Test.YtijhabhnhglhgaaRCheck08
import Derived.Deep.MidRow
import Derived.Deep.Cut
namespace Go.Proofs.Ytijhabhnhglhgaa
open Go.RowKit
namespace L08
open L07

theorem blk_range {w : World} {b : Nat} {t : TypeId} {cs : List Value} (h : Blk w b t cs) : w.rangeAt b 0 cs := fun j v hv => by
  rw [Nat.zero_add, h.cell j]; exact hv

set_option maxRecDepth 100000 in
set_option maxHeartbeats 8000000 in
theorem rset_any (D : FontD) (P : FontP) (A : Option Addr) (l : List Int) (cp : Nat) (w : World) (ok : FontOk D P) (sn : SeenFont w D P) (hl : SeenF w A l.length (fun j => l.getD j 0)) (hb : ∀ j, -9223372036854775808 ≤ l.getD j 0 ∧ l.getD j 0 ≤ 9223372036854775807) (hn : l.length ≤ 1000) :
    Calls Try.prog 12 #[.agg #[.int .i64 D.sum, .int .i64 D.design, .int .i64 D.first, .slice P.xc D.nc P.zc, .slice P.xw D.nw P.zw, .slice P.xh D.nh P.zh, .slice P.xd D.nd P.zd, .slice P.xi D.ni P.zi, .slice P.xs D.ns P.zs, .slice P.xk D.nk P.zk, .slice P.xp D.np P.zp], .slice A l.length cp] w (GlyQ w (setR D l)) := by
  obtain ⟨V, hV⟩ : ∃ V, V = w.alloc (.cells #[.int .i64 D.sum, .int .i64 D.design, .int .i64 D.first, .slice P.xc D.nc P.zc, .slice P.xw D.nw P.zw, .slice P.xh D.nh P.zh, .slice P.xd D.nd P.zd, .slice P.xi D.ni P.zi, .slice P.xs D.ns P.zs, .slice P.xk D.nk P.zk, .slice P.xp D.np P.zp] 28) := ⟨_, rfl⟩
  have W0 : Ext w V := by rw [hV]; exact (Ext.refl _).alloc _
  have kF : Blk V w.heap.size 28 [.int .i64 D.sum, .int .i64 D.design, .int .i64 D.first, .slice P.xc D.nc P.zc, .slice P.xw D.nw P.zw, .slice P.xh D.nh P.zh, .slice P.xd D.nd P.zd, .slice P.xi D.ni P.zi, .slice P.xs D.ns P.zs, .slice P.xk D.nk P.zk, .slice P.xp D.np P.zp] := by rw [hV]; exact Blk.lit _ _ _ _ rfl
  have C1 := Lib.hid (show Calls Try.prog 18 #[.agg #[.int .i64 D.sum, .int .i64 D.design, .int .i64 D.first, .slice P.xc D.nc P.zc, .slice P.xw D.nw P.zw, .slice P.xh D.nh P.zh, .slice P.xd D.nd P.zd, .slice P.xi D.ni P.zi, .slice P.xs D.ns P.zs, .slice P.xk D.nk P.zk, .slice P.xp D.np P.zp]] V (Ret V (.bool (ligB D))) from rcheck_any D P V ok (sn.ext W0))
  have C2 := Lib.hid (fun w' (x : Ext V w') => show Calls Try.prog 31 #[.agg #[.int .i64 D.sum, .int .i64 D.design, .int .i64 D.first, .slice P.xc D.nc P.zc, .slice P.xw D.nw P.zw, .slice P.xh D.nh P.zh, .slice P.xd D.nd P.zd, .slice P.xi D.ni P.zi, .slice P.xs D.ns P.zs, .slice P.xk D.nk P.zk, .slice P.xp D.np P.zp], .slice A l.length cp] w' (Ret w' (.bool (setB D l))) from rchars_any D P A l cp w' ok ((sn.ext W0).ext x) ((hl.ext W0).ext x) hb (by omega))
  have C3 := Lib.hid (fun (hL : ligB D = true) (hS : setB D l = true) w' (x : Ext V w') => show Calls Try.prog 32 #[.agg #[.int .i64 D.sum, .int .i64 D.design, .int .i64 D.first, .slice P.xc D.nc P.zc, .slice P.xw D.nw P.zw, .slice P.xh D.nh P.zh, .slice P.xd D.nd P.zd, .slice P.xi D.ni P.zi, .slice P.xs D.ns P.zs, .slice P.xk D.nk P.zk, .slice P.xp D.np P.zp], .slice A l.length cp] w' (GlyP w' (glyD D l)) by
    obtain ⟨m, hm⟩ := Option.isSome_iff_exists.1 hL
    exact rplain_any D P m hm A l cp w' ((sn.ext W0).ext x) ((hl.ext W0).ext x) hn hS)
  have N1 := Lib.hid (fun h : ligB D = false => show setR D l = ([], 70) by rw [setR, h]; rfl)
  have N2 := Lib.hid (fun (h : ligB D = true) (k : setB D l = false) => show setR D l = ([], 80) by rw [setR, h, k]; rfl)
  have N3 := Lib.hid (fun (h : ligB D = true) (k : setB D l = true) => show setR D l = (glyD D l, 0) by rw [setR, h, k]; rfl)
  obtain ⟨n, hnl⟩ : ∃ n, n = l.length := ⟨_, rfl⟩
  obtain ⟨rv, hrv⟩ : ∃ rv, setR D l = rv := ⟨_, rfl⟩
  rw [hrv]
  have HR := Lib.hid hrv
  rw [← hnl] at C2 C3 ⊢
  clear ok sn hl hb hn hrv hnl
  go_enter Try.func12, Try.ntmps12
  go_upto_region 1 with (fail)
  rw [← hV]
  clear hV
  generalize w.heap.size = B at *
  have HG := Lib.hid kF
  have HW := Lib.hid W0
  clear kF W0
  go_wp2_with (first | (refine wpList_load_mid rfl 28 _ rfl B 0 rfl [.int .i64 D.sum, .int .i64 D.design, .int .i64 D.first, .slice P.xc D.nc P.zc, .slice P.xw D.nw P.zw, .slice P.xh D.nh P.zh, .slice P.xd D.nd P.zd, .slice P.xi D.ni P.zi, .slice P.xs D.ns P.zs, .slice P.xk D.nk P.zk, .slice P.xp D.np P.zp] _ (blk_range HG.out) Try.underlying28 rfl (by kernel_rfl) ?_) | fail)
  refine C1.out.mono ?_; rintro e w1 ⟨rfl, x1⟩
  cases hL : ligB D with
  | false =>
    have H := Lib.hid (HR.out.symm.trans (N1.out hL))
    clear hL
    go_wp2_with fail
    go_ret2
    rw [H.out]
    exact glyQ_nil (HW.out.trans x1) 70
  | true =>
  go_wp2_with (first | (refine wpList_load_mid rfl 28 _ rfl B 0 rfl [.int .i64 D.sum, .int .i64 D.design, .int .i64 D.first, .slice P.xc D.nc P.zc, .slice P.xw D.nw P.zw, .slice P.xh D.nh P.zh, .slice P.xd D.nd P.zd, .slice P.xi D.ni P.zi, .slice P.xs D.ns P.zs, .slice P.xk D.nk P.zk, .slice P.xp D.np P.zp] _ (blk_range (HG.out.ext x1)) Try.underlying28 rfl (by kernel_rfl) ?_) | fail)
  refine (C2.out _ x1).mono ?_; rintro e w2 ⟨rfl, x2⟩
  have X2 := x1.trans x2
  cases hS : setB D l with
  | false =>
    have H := Lib.hid (HR.out.symm.trans (N2.out hL hS))
    clear hL hS
    go_wp2_with fail
    go_ret2
    rw [H.out]
    exact glyQ_nil (HW.out.trans X2) 80
  | true =>
  have C3 := Lib.hid (C3.out hL hS)
  have H := Lib.hid (HR.out.symm.trans (N3.out hL hS))
  clear hL hS
  go_wp2_with (first | (refine wpList_load_mid rfl 28 _ rfl B 0 rfl [.int .i64 D.sum, .int .i64 D.design, .int .i64 D.first, .slice P.xc D.nc P.zc, .slice P.xw D.nw P.zw, .slice P.xh D.nh P.zh, .slice P.xd D.nd P.zd, .slice P.xi D.ni P.zi, .slice P.xs D.ns P.zs, .slice P.xk D.nk P.zk, .slice P.xp D.np P.zp] _ (blk_range (HG.out.ext X2)) Try.underlying28 rfl (by kernel_rfl) ?_) | fail)
  refine (C3.out _ X2).mono ?_; rintro e w3 ⟨x3, A', c', rfl, h1, h2, h3⟩
  have HX := Lib.hid ((HW.out.trans X2).trans x3)
  clear x3
  go_wp2_with fail
  go_ret2
  rw [H.out]
  exact ⟨HX.out, A', c', rfl, h1, h2, h3⟩
end L08
end Go.Proofs.Ytijhabhnhglhgaa

