/- The landed calls of layer 9: Edges, where there are none. -/
import Derived.Test.YtpkmpbpifbpomaaLevH09
namespace Go.Proofs.Ytpkmpbpifbpomaa
open Go.RowKit Go.Lib
namespace L09
open L02 L07 L08

set_option maxRecDepth 100000 in
set_option maxHeartbeats 4000000 in
theorem fedges_no (D : FontD) (P : FontP) (T : FaceT) (Q : FaceQ) (code n : Int) (w : World) (ok : FaceOk D P T Q) (sn : SeenFace w D P T Q) (c1 : -9223372036854775808 ≤ code) (c2 : code ≤ 9223372036854775807) (n1 : -9223372036854775808 ≤ n) (n2 : n ≤ 9223372036854775807) (h : ¬ (faceB D T = true ∧ hasB D code = true)) :
    Calls Try.prog 31 #[.agg #[.int .i64 D.sum, .int .i64 D.design, .int .i64 D.first, .slice P.xc D.nc P.zc, .slice P.xw D.nw P.zw, .slice P.xh D.nh P.zh, .slice P.xd D.nd P.zd, .slice P.xi D.ni P.zi, .slice P.xs D.ns P.zs, .slice P.xk D.nk P.zk, .slice P.xp D.np P.zp, .int .i64 T.size, .int .i64 T.step, .int .i64 T.up, .int .i64 T.down, .slice Q.xt T.nt Q.zt], .int .i64 code, .int .i64 n] w (Ret w (.tuple #[.int .i64 0, .int .i64 0, .int .i64 (errF D T code)])) := by
  obtain ⟨V, hV⟩ : ∃ V, V = w.alloc (.cells #[.int .i64 D.sum, .int .i64 D.design, .int .i64 D.first, .slice P.xc D.nc P.zc, .slice P.xw D.nw P.zw, .slice P.xh D.nh P.zh, .slice P.xd D.nd P.zd, .slice P.xi D.ni P.zi, .slice P.xs D.ns P.zs, .slice P.xk D.nk P.zk, .slice P.xp D.np P.zp, .int .i64 T.size, .int .i64 T.step, .int .i64 T.up, .int .i64 T.down, .slice Q.xt T.nt Q.zt] 45) := ⟨_, rfl⟩
  have W0 : Ext w V := by rw [hV]; exact (Ext.refl _).alloc _
  have kF : Blk V w.heap.size 45 [.int .i64 D.sum, .int .i64 D.design, .int .i64 D.first, .slice P.xc D.nc P.zc, .slice P.xw D.nw P.zw, .slice P.xh D.nh P.zh, .slice P.xd D.nd P.zd, .slice P.xi D.ni P.zi, .slice P.xs D.ns P.zs, .slice P.xk D.nk P.zk, .slice P.xp D.np P.zp, .int .i64 T.size, .int .i64 T.step, .int .i64 T.up, .int .i64 T.down, .slice Q.xt T.nt Q.zt] := by rw [hV]; exact Blk.lit _ _ _ _ rfl
  have KN := Lib.hid (having_no D P T Q code n V ok (sn.ext W0) c1 c2 n1 n2 h)
  have he : errF D T code ≠ 0 := by rcases err_cases D T code with ⟨a, b, _⟩ | ⟨a, _⟩; exact absurd ⟨a, b⟩ h; omega
  have he : (errF D T code != 0) = true := by simpa using he
  clear ok sn c1 c2 n1 n2 h
  generalize errF D T code = er at *
  go_enter Try.func31, Try.ntmps31
  go_upto_region 1 with (fail)
  rw [← hV]
  clear hV
  generalize w.heap.size = B at *
  have HG := Lib.hid kF
  clear kF
  go_wp2_with (first | (refine wpList_load_mid rfl 45 _ rfl B 0 rfl [.int .i64 D.sum, .int .i64 D.design, .int .i64 D.first, .slice P.xc D.nc P.zc, .slice P.xw D.nw P.zw, .slice P.xh D.nh P.zh, .slice P.xd D.nd P.zd, .slice P.xi D.ni P.zi, .slice P.xs D.ns P.zs, .slice P.xk D.nk P.zk, .slice P.xp D.np P.zp, .int .i64 T.size, .int .i64 T.step, .int .i64 T.up, .int .i64 T.down, .slice Q.xt T.nt Q.zt] _ HG.out.range Try.underlying45 rfl (by kernel_rfl) ?_) | fail)
  refine KN.out.mono ?_; rintro e w1 ⟨rfl, x1⟩
  go_upto_region 2 with (fail)
  have X2 := Lib.hid (x1.alloc (.cells #[.int .i64 0, .int .i64 0, .int .i64 0, .slice none 0 0, .slice none 0 0, .slice none 0 0, .slice none 0 0, .slice none 0 0, .slice none 0 0, .slice none 0 0, .slice none 0 0, .int .i64 0, .int .i64 0, .int .i64 0, .int .i64 0, .slice none 0 0, .int .i64 0] 91))
  generalize w1.alloc (.cells #[.int .i64 0, .int .i64 0, .int .i64 0, .slice none 0 0, .slice none 0 0, .slice none 0 0, .slice none 0 0, .slice none 0 0, .slice none 0 0, .slice none 0 0, .slice none 0 0, .int .i64 0, .int .i64 0, .int .i64 0, .int .i64 0, .slice none 0 0, .int .i64 0] 91) = V2 at *
  go_wp2_with fail
  go_ret3
  exact ⟨rfl, W0.trans X2.out⟩

theorem wide_in {D : FontD} {T : FaceT} {lv code : Int} (h : FaceIn T) (I : FontIn D) (l1 : -8 ≤ lv) (l2 : lv ≤ 8) (c1 : D.first ≤ code) (c2 : code < D.first + D.nc) : -100000000 ≤ wideN D T code lv ∧ wideN D T code lv ≤ 100000000 := by
  have hk : (code - D.first).toNat < D.nc := by omega
  obtain ⟨v0, v1⟩ := (I.chr _ hk).1
  have hj : (D.chr (code - D.first).toNat 0).toNat < D.nw := by omega
  obtain ⟨x0, x1⟩ := I.wd _ hj
  obtain ⟨p1, p2, p3, p4⟩ := pts_in h x0 x1
  obtain ⟨⟨s0, s1⟩, _, _⟩ := h.tr code
  obtain ⟨t1, t2⟩ := h.step
  have p := mul_in (A := 8) (B := 50) l1 l2 (show -50 ≤ T.step by omega) t2
  have q := mul_in (A := 400) (B := 1000) (by omega) (show lv * T.step ≤ 400 by omega) (show -1000 ≤ trV T code 1 by omega) s1
  have p3 : -67108864 ≤ pts T (wfix D code) := p3
  have p4 : pts T (wfix D code) ≤ 67108864 := p4
  obtain ⟨r1, r2, r3, r4⟩ := strd_in p3 p4 (show -400000 ≤ lv * T.step * trV T code 1 by omega) (show lv * T.step * trV T code 1 ≤ 400000 by omega)
  unfold wideN
  omega
theorem part_in {x m : Int} (h1 : -100000000 ≤ x) (h2 : x ≤ 100000000) (m1 : -1000 ≤ m) (m2 : m ≤ 1000) : mayB x m 1000 = true ∧ fitB (x * m / 1000) = true := by
  have hp := mul_in (A := 100000000) (B := 1000) h1 h2 m1 m2
  exact ⟨mayB_iff.2 ⟨by omega, by omega, by omega, by omega⟩, fitB_iff.2 (by omega)⟩
theorem edge_in {D : FontD} {T : FaceT} {lv code : Int} (h : FaceIn T) (I : FontIn D) (l1 : -8 ≤ lv) (l2 : lv ≤ 8) (c1 : D.first ≤ code) (c2 : code < D.first + D.nc) :
    (True ∧ mayB (wideN D T code lv) (trV T code 2) 1000 = true ∧ fitB (wideN D T code lv * trV T code 2 / 1000) = true) ∧ mayB (wideN D T code lv) (trV T code 3) 1000 = true ∧ fitB (wideN D T code lv * trV T code 3 / 1000) = true := by
  obtain ⟨a, b⟩ := wide_in h I l1 l2 c1 c2
  obtain ⟨_, ⟨e1, e2⟩, ⟨g1, g2⟩⟩ := h.tr code
  exact ⟨⟨trivial, part_in a b e1 e2⟩, part_in a b g1 g2⟩
end L09
end Go.Proofs.Ytpkmpbpifbpomaa

