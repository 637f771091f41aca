/- The landed calls of layer 9: a face at a level. -/
import Derived.Test.YtpkmpbpifbpomaaLevE09
namespace Go.Proofs.Ytpkmpbpifbpomaa
open Go.RowKit Go.Lib
namespace L09
open L02 L07 L08

/-- The nearest level. -/
def clampN (T : FaceT) (n : Int) : Int := min (max n (-T.down)) T.up
theorem clamp_in {T : FaceT} (h : FaceIn T) (n : Int) : -8 ≤ clampN T n ∧ clampN T n ≤ 8 := by
  have := h.up; have := h.down; unfold clampN; omega

theorem load_all {W : World} {b : Nat} {cs : List Value} (hb : W.rangeAt b 0 cs) : (loadCellsFrom ⟨b, 0, none⟩ 0 cs.length #[]).run Try.prog W = .ok cs.toArray W := by
  have := run_loadCells_list (P := Try.prog) W ⟨b, 0, none⟩ cs (fun j v hv => by rw [Addr.add_mid]; exact hb j v hv)
  simpa [loadCells] using this
/-- A struct's box, and a number, as results. -/
theorem results_two {fn : Func} {p q : Nat} {t : TypeId} (h : fn.results = #[.cell p t, .tmp q]) (tmps : Array Value) (W : World) (b : Nat) (cs : List Value) (v : Value) (hp : tmps[p]? = some (.pointer (some ⟨b, 0, none⟩))) (hq : tmps[q]? = some v)
    (hb : W.rangeAt b 0 cs) (ha : (isAgg t).run Try.prog W = .ok true W) (hs : (Go.sizeOf t).run Try.prog W = .ok cs.length W) : (results fn tmps).run Try.prog W = .ok (.tuple #[.agg cs.toArray, v]) W := by
  have hl := load_all hb
  simp only [results, h]
  simp [go_sem, loadVar, loadCells, asAddr, hp, hq, hl, ha, hs]

theorem one_level (D : FontD) (P : FontP) (T : FaceT) (Q : FaceQ) (lv : Int) : (#[.int .i64 D.sum, .int .i64 D.design, .int .i64 D.first, .slice P.xc D.nc P.zc, .slice P.xw D.nw P.zw, .slice P.xh D.nh P.zh, .slice P.xd D.nd P.zd, .slice P.xi D.ni P.zi, .slice P.xs D.ns P.zs, .slice P.xk D.nk P.zk, .slice P.xp D.np P.zp, .int .i64 T.size, .int .i64 T.step, .int .i64 T.up, .int .i64 T.down, .slice Q.xt T.nt Q.zt, .int .i64 lv] : Array Value).all (·.oneCell') = true := by simp [Value.oneCell']
theorem one_zero : (#[.int .i64 0, .int .i64 0, .int .i64 0, .slice none 0 0, .slice none 0 0, .slice none 0 0, .slice none 0 0, .slice none 0 0, .slice none 0 0, .slice none 0 0, .slice none 0 0, .int .i64 0, .int .i64 0, .int .i64 0, .int .i64 0, .slice none 0 0, .int .i64 0] : Array Value).all (·.oneCell') = true := by simp [Value.oneCell']

set_option maxRecDepth 100000 in
set_option maxHeartbeats 4000000 in
theorem at_yes (D : FontD) (P : FontP) (T : FaceT) (Q : FaceQ) (n : Int) (w : World) (ok : FaceOk D P T Q) (sn : SeenFace w D P T Q) (hf : faceB D T = true) (_ : -9223372036854775808 ≤ n) (_ : n ≤ 9223372036854775807) :
    Calls Try.prog 61 #[.agg #[.int .i64 D.sum, .int .i64 D.design, .int .i64 D.first, .slice P.xc D.nc P.zc, .slice P.xw D.nw P.zw, .slice P.xh D.nh P.zh, .slice P.xd D.nd P.zd, .slice P.xi D.ni P.zi, .slice P.xs D.ns P.zs, .slice P.xk D.nk P.zk, .slice P.xp D.np P.zp, .int .i64 T.size, .int .i64 T.step, .int .i64 T.up, .int .i64 T.down, .slice Q.xt T.nt Q.zt], .int .i64 n] w (Ret w (.tuple #[.agg #[.int .i64 D.sum, .int .i64 D.design, .int .i64 D.first, .slice P.xc D.nc P.zc, .slice P.xw D.nw P.zw, .slice P.xh D.nh P.zh, .slice P.xd D.nd P.zd, .slice P.xi D.ni P.zi, .slice P.xs D.ns P.zs, .slice P.xk D.nk P.zk, .slice P.xp D.np P.zp, .int .i64 T.size, .int .i64 T.step, .int .i64 T.up, .int .i64 T.down, .slice Q.xt T.nt Q.zt, .int .i64 (clampN T n)], .int .i64 0])) := by
  obtain ⟨V, hV⟩ : ∃ V, V = (w.alloc (.cells #[.int .i64 D.sum, .int .i64 D.design, .int .i64 D.first, .slice P.xc D.nc P.zc, .slice P.xw D.nw P.zw, .slice P.xh D.nh P.zh, .slice P.xd D.nd P.zd, .slice P.xi D.ni P.zi, .slice P.xs D.ns P.zs, .slice P.xk D.nk P.zk, .slice P.xp D.np P.zp, .int .i64 T.size, .int .i64 T.step, .int .i64 T.up, .int .i64 T.down, .slice Q.xt T.nt Q.zt] 45)).alloc (.cells #[.int .i64 0, .int .i64 0, .int .i64 0, .slice none 0 0, .slice none 0 0, .slice none 0 0, .slice none 0 0, .slice none 0 0, .slice none 0 0, .slice none 0 0, .slice none 0 0, .int .i64 0, .int .i64 0, .int .i64 0, .int .i64 0, .slice none 0 0, .int .i64 0] 91) := ⟨_, rfl⟩
  have W0 : Ext w V := by rw [hV]; exact ((Ext.refl _).alloc _).alloc _
  have kF : Blk V w.heap.size 45 [.int .i64 D.sum, .int .i64 D.design, .int .i64 D.first, .slice P.xc D.nc P.zc, .slice P.xw D.nw P.zw, .slice P.xh D.nh P.zh, .slice P.xd D.nd P.zd, .slice P.xi D.ni P.zi, .slice P.xs D.ns P.zs, .slice P.xk D.nk P.zk, .slice P.xp D.np P.zp, .int .i64 T.size, .int .i64 T.step, .int .i64 T.up, .int .i64 T.down, .slice Q.xt T.nt Q.zt] := by rw [hV]; exact (Blk.lit _ _ _ _ rfl).ext ((Ext.refl _).alloc _)
  have kR : Blk V (w.heap.size + 1) 91 [.int .i64 0, .int .i64 0, .int .i64 0, .slice none 0 0, .slice none 0 0, .slice none 0 0, .slice none 0 0, .slice none 0 0, .slice none 0 0, .slice none 0 0, .slice none 0 0, .int .i64 0, .int .i64 0, .int .i64 0, .int .i64 0, .slice none 0 0, .int .i64 0] := by rw [hV]; exact Blk.lit _ _ _ _ (by simp)
  have CK := Lib.hid (show Calls Try.prog 33 #[.agg #[.int .i64 D.sum, .int .i64 D.design, .int .i64 D.first, .slice P.xc D.nc P.zc, .slice P.xw D.nw P.zw, .slice P.xh D.nh P.zh, .slice P.xd D.nd P.zd, .slice P.xi D.ni P.zi, .slice P.xs D.ns P.zs, .slice P.xk D.nk P.zk, .slice P.xp D.np P.zp, .int .i64 T.size, .int .i64 T.step, .int .i64 T.up, .int .i64 T.down, .slice Q.xt T.nt Q.zt]] V (Ret V (.bool true)) from hf ▸ fcheck_any D P T Q V ok (sn.ext W0))
  obtain ⟨s1, s2⟩ := (face_in hf).1.down
  obtain ⟨s3, s4⟩ := (face_in hf).1.up
  have HB := Lib.hid (show w.heap.size ≤ w.heap.size + 1 by omega)
  clear ok sn hf
  go_enter Try.func61, Try.ntmps61
  go_upto_region 1 with (fail)
  rw [← hV]
  clear hV
  generalize w.heap.size + 1 = R at *
  generalize hB : w.heap.size = B at *
  have HB : Hid (w.heap.size ≤ R) := Lib.hid (by rw [hB]; exact HB.out)
  clear hB
  have HK := Lib.hid kR
  have HG := Lib.hid kF
  clear kF kR
  go_wp2_with (first | (refine wpList_load_mid rfl 45 _ rfl B 0 rfl [.int .i64 D.sum, .int .i64 D.design, .int .i64 D.first, .slice P.xc D.nc P.zc, .slice P.xw D.nw P.zw, .slice P.xh D.nh P.zh, .slice P.xd D.nd P.zd, .slice P.xi D.ni P.zi, .slice P.xs D.ns P.zs, .slice P.xk D.nk P.zk, .slice P.xp D.np P.zp, .int .i64 T.size, .int .i64 T.step, .int .i64 T.up, .int .i64 T.down, .slice Q.xt T.nt Q.zt] _ HG.out.range Try.underlying45 rfl (by kernel_rfl) ?_) | fail)
  refine CK.out.mono ?_; rintro e w1 ⟨rfl, x1⟩
  have HG1 := Lib.hid (HG.out.ext x1)
  have HK1 := Lib.hid (HK.out.ext x1)
  have q13 : w1.cell? ⟨B, 13, none⟩ = some (.int .i64 T.up) := HG1.out.cell 13
  have q14 : w1.cell? ⟨B, 14, none⟩ = some (.int .i64 T.down) := HG1.out.cell 14
  go_wp2_with (first | (refine wpList_load_mid rfl 45 _ rfl B 0 rfl [.int .i64 D.sum, .int .i64 D.design, .int .i64 D.first, .slice P.xc D.nc P.zc, .slice P.xw D.nw P.zw, .slice P.xh D.nh P.zh, .slice P.xd D.nd P.zd, .slice P.xi D.ni P.zi, .slice P.xs D.ns P.zs, .slice P.xk D.nk P.zk, .slice P.xp D.np P.zp, .int .i64 T.size, .int .i64 T.step, .int .i64 T.up, .int .i64 T.down, .slice Q.xt T.nt Q.zt] _ HG1.out.range Try.underlying45 rfl (by kernel_rfl) ?_) | (refine wpList_store_mid rfl 91 _ _ rfl R 0 #[.int .i64 D.sum, .int .i64 D.design, .int .i64 D.first, .slice P.xc D.nc P.zc, .slice P.xw D.nw P.zw, .slice P.xh D.nh P.zh, .slice P.xd D.nd P.zd, .slice P.xi D.ni P.zi, .slice P.xs D.ns P.zs, .slice P.xk D.nk P.zk, .slice P.xp D.np P.zp, .int .i64 T.size, .int .i64 T.step, .int .i64 T.up, .int .i64 T.down, .slice Q.xt T.nt Q.zt, .int .i64 (clampN T n)] rfl rfl HK1.out.there (by kernel_rfl) (one_level D P T Q _) ?_) | fail)
  refine bodyPost_ret (results_two rfl _ _ R _ _ rfl rfl (blk_setCells HK1.out [.int .i64 D.sum, .int .i64 D.design, .int .i64 D.first, .slice P.xc D.nc P.zc, .slice P.xw D.nw P.zw, .slice P.xh D.nh P.zh, .slice P.xd D.nd P.zd, .slice P.xi D.ni P.zi, .slice P.xs D.ns P.zs, .slice P.xk D.nk P.zk, .slice P.xp D.np P.zp, .int .i64 T.size, .int .i64 T.step, .int .i64 T.up, .int .i64 T.down, .slice Q.xt T.nt Q.zt, .int .i64 (clampN T n)] rfl).range (Try.isAgg91 _) (Try.sizeOf91 _)) rfl ⟨rfl, ext_setCells HB.out _ _ _ (W0.trans x1)⟩

set_option maxRecDepth 100000 in
set_option maxHeartbeats 4000000 in
theorem at_no (D : FontD) (P : FontP) (T : FaceT) (Q : FaceQ) (n : Int) (w : World) (ok : FaceOk D P T Q) (sn : SeenFace w D P T Q) (hf : faceB D T = false) :
    Calls Try.prog 61 #[.agg #[.int .i64 D.sum, .int .i64 D.design, .int .i64 D.first, .slice P.xc D.nc P.zc, .slice P.xw D.nw P.zw, .slice P.xh D.nh P.zh, .slice P.xd D.nd P.zd, .slice P.xi D.ni P.zi, .slice P.xs D.ns P.zs, .slice P.xk D.nk P.zk, .slice P.xp D.np P.zp, .int .i64 T.size, .int .i64 T.step, .int .i64 T.up, .int .i64 T.down, .slice Q.xt T.nt Q.zt], .int .i64 n] w (Ret w (.tuple #[.agg #[.int .i64 0, .int .i64 0, .int .i64 0, .slice none 0 0, .slice none 0 0, .slice none 0 0, .slice none 0 0, .slice none 0 0, .slice none 0 0, .slice none 0 0, .slice none 0 0, .int .i64 0, .int .i64 0, .int .i64 0, .int .i64 0, .slice none 0 0, .int .i64 0], .int .i64 90])) := by
  obtain ⟨V, hV⟩ : ∃ V, V = (w.alloc (.cells #[.int .i64 D.sum, .int .i64 D.design, .int .i64 D.first, .slice P.xc D.nc P.zc, .slice P.xw D.nw P.zw, .slice P.xh D.nh P.zh, .slice P.xd D.nd P.zd, .slice P.xi D.ni P.zi, .slice P.xs D.ns P.zs, .slice P.xk D.nk P.zk, .slice P.xp D.np P.zp, .int .i64 T.size, .int .i64 T.step, .int .i64 T.up, .int .i64 T.down, .slice Q.xt T.nt Q.zt] 45)).alloc (.cells #[.int .i64 0, .int .i64 0, .int .i64 0, .slice none 0 0, .slice none 0 0, .slice none 0 0, .slice none 0 0, .slice none 0 0, .slice none 0 0, .slice none 0 0, .slice none 0 0, .int .i64 0, .int .i64 0, .int .i64 0, .int .i64 0, .slice none 0 0, .int .i64 0] 91) := ⟨_, rfl⟩
  have W0 : Ext w V := by rw [hV]; exact ((Ext.refl _).alloc _).alloc _
  have kF : Blk V w.heap.size 45 [.int .i64 D.sum, .int .i64 D.design, .int .i64 D.first, .slice P.xc D.nc P.zc, .slice P.xw D.nw P.zw, .slice P.xh D.nh P.zh, .slice P.xd D.nd P.zd, .slice P.xi D.ni P.zi, .slice P.xs D.ns P.zs, .slice P.xk D.nk P.zk, .slice P.xp D.np P.zp, .int .i64 T.size, .int .i64 T.step, .int .i64 T.up, .int .i64 T.down, .slice Q.xt T.nt Q.zt] := by rw [hV]; exact (Blk.lit _ _ _ _ rfl).ext ((Ext.refl _).alloc _)
  have kR : Blk V (w.heap.size + 1) 91 [.int .i64 0, .int .i64 0, .int .i64 0, .slice none 0 0, .slice none 0 0, .slice none 0 0, .slice none 0 0, .slice none 0 0, .slice none 0 0, .slice none 0 0, .slice none 0 0, .int .i64 0, .int .i64 0, .int .i64 0, .int .i64 0, .slice none 0 0, .int .i64 0] := by rw [hV]; exact Blk.lit _ _ _ _ (by simp)
  have CK := Lib.hid (show Calls Try.prog 33 #[.agg #[.int .i64 D.sum, .int .i64 D.design, .int .i64 D.first, .slice P.xc D.nc P.zc, .slice P.xw D.nw P.zw, .slice P.xh D.nh P.zh, .slice P.xd D.nd P.zd, .slice P.xi D.ni P.zi, .slice P.xs D.ns P.zs, .slice P.xk D.nk P.zk, .slice P.xp D.np P.zp, .int .i64 T.size, .int .i64 T.step, .int .i64 T.up, .int .i64 T.down, .slice Q.xt T.nt Q.zt]] V (Ret V (.bool false)) from hf ▸ fcheck_any D P T Q V ok (sn.ext W0))
  have HB := Lib.hid (show w.heap.size ≤ w.heap.size + 1 by omega)
  clear ok sn hf
  go_enter Try.func61, Try.ntmps61
  go_upto_region 1 with (fail)
  rw [← hV]
  clear hV
  generalize w.heap.size + 1 = R at *
  generalize hB : w.heap.size = B at *
  have HB : Hid (w.heap.size ≤ R) := Lib.hid (by rw [hB]; exact HB.out)
  clear hB
  have HK := Lib.hid kR
  have HG := Lib.hid kF
  clear kF kR
  go_wp2_with (first | (refine wpList_load_mid rfl 45 _ rfl B 0 rfl [.int .i64 D.sum, .int .i64 D.design, .int .i64 D.first, .slice P.xc D.nc P.zc, .slice P.xw D.nw P.zw, .slice P.xh D.nh P.zh, .slice P.xd D.nd P.zd, .slice P.xi D.ni P.zi, .slice P.xs D.ns P.zs, .slice P.xk D.nk P.zk, .slice P.xp D.np P.zp, .int .i64 T.size, .int .i64 T.step, .int .i64 T.up, .int .i64 T.down, .slice Q.xt T.nt Q.zt] _ HG.out.range Try.underlying45 rfl (by kernel_rfl) ?_) | fail)
  refine CK.out.mono ?_; rintro e w1 ⟨rfl, x1⟩
  have HK1 := Lib.hid (HK.out.ext x1)
  go_wp2_with (first | (refine wpList_store_mid rfl 91 _ _ rfl R 0 #[.int .i64 0, .int .i64 0, .int .i64 0, .slice none 0 0, .slice none 0 0, .slice none 0 0, .slice none 0 0, .slice none 0 0, .slice none 0 0, .slice none 0 0, .slice none 0 0, .int .i64 0, .int .i64 0, .int .i64 0, .int .i64 0, .slice none 0 0, .int .i64 0] rfl rfl HK1.out.there (by kernel_rfl) one_zero ?_) | fail)
  refine bodyPost_ret (results_two rfl _ _ R _ _ rfl rfl (blk_setCells HK1.out [.int .i64 0, .int .i64 0, .int .i64 0, .slice none 0 0, .slice none 0 0, .slice none 0 0, .slice none 0 0, .slice none 0 0, .slice none 0 0, .slice none 0 0, .slice none 0 0, .int .i64 0, .int .i64 0, .int .i64 0, .int .i64 0, .slice none 0 0, .int .i64 0] rfl).range (Try.isAgg91 _) (Try.sizeOf91 _)) rfl ⟨rfl, ext_setCells HB.out _ _ _ (W0.trans x1)⟩
end L09
end Go.Proofs.Ytpkmpbpifbpomaa

