/- A face as an argument: what it reads as. -/
import Derived.Test.YtpkmpbpifbpomaaFont07
namespace Go.Proofs.Ytpkmpbpifbpomaa
open Go.ChangeShapes Go.WideShapes Go.ChangeAt Go.RowKit Go.Deep

/-- A face's numbers, besides its font's: how many traits there are, and which. -/
structure FaceT where
  size : Int
  step : Int
  up : Int
  down : Int
  nt : Nat
  trt : Nat → Nat → Int
/-- Where its traits are, and how much room there is. -/
structure FaceQ where
  xt : Option Addr
  zt : Nat
/-- The value. -/
def faceV (D : FontD) (P : FontP) (T : FaceT) (Q : FaceQ) : Value := .agg #[.int .i64 D.sum, .int .i64 D.design, .int .i64 D.first, .slice P.xc D.nc P.zc, .slice P.xw D.nw P.zw, .slice P.xh D.nh P.zh, .slice P.xd D.nd P.zd, .slice P.xi D.ni P.zi, .slice P.xs D.ns P.zs, .slice P.xk D.nk P.zk, .slice P.xp D.np P.zp, .int .i64 T.size, .int .i64 T.step, .int .i64 T.up, .int .i64 T.down, .slice Q.xt T.nt Q.zt]
/-- It is seen in this world. -/
structure SeenFace (w : World) (D : FontD) (P : FontP) (T : FaceT) (Q : FaceQ) : Prop where
  font : SeenFont w D P
  ot : SeenN 4 w Q.xt T.nt T.trt
theorem SeenFace.ext {w w' : World} {D : FontD} {P : FontP} {T : FaceT} {Q : FaceQ} (h : SeenFace w D P T Q) (x : Ext w w') : SeenFace w' D P T Q := ⟨h.font.ext x, h.ot.ext x⟩
/-- Its numbers have 64 bits, and its lists are no longer than their room. -/
structure FaceOk (D : FontD) (P : FontP) (T : FaceT) (Q : FaceQ) : Prop where
  font : FontOk D P
  size : Wide T.size
  step : Wide T.step
  up : Wide T.up
  down : Wide T.down
  bt : ∀ i j, i < T.nt → j < 4 → Wide (T.trt i j)
  rt : T.nt ≤ Q.zt ∧ Q.zt ≤ maxLen

section
variable {H : Type} {enc : TypeId × Value → H} {W : World} {base : Nat}

/-- The cells of a struct whose fields have one cell each. -/
theorem trod_fields {P : Program} {t : TypeId} {fs : Array Field} {fuel : Nat} {l : List Value} {y : DataW H × List MemPlace} (hs : P.underlying t = some (.struct fs)) (hone : oneCellFields P fs = true) (hC : P.cellsOf t = fs.size)
    (h : DataW.trod enc P W 0 (fun _ => true) true fuel t l = some y) :
    l.length = fs.size ∧ ∀ (j : Nat) (f : Field), fs[j]? = some f → ∃ u n y, l[j]? = some u ∧ DataW.trod enc P W 0 (fun _ => true) true n f.type [u] = some y := by
  obtain ⟨xs, n, _, _, hlc, hlen, hg⟩ := DataW.trod_struct hs h
  rw [hC] at hlc
  refine ⟨hlc, fun j f hj => ?_⟩
  obtain ⟨ho, hk⟩ := hone_of hone j f hj
  have hjl : j < fs.size := (Array.getElem?_eq_some_iff.1 hj).1
  have hjc : j < l.length := by omega
  have h1 := hg j f hj
  rw [ho, hk] at h1
  have e : (l.drop j).take 1 = [l[j]] := by
    rw [List.drop_eq_getElem_cons hjc, List.take_succ_cons, List.take_zero]
  rw [e] at h1
  exact ⟨l[j], n, xs[j]'(by omega), List.getElem?_eq_getElem hjc, h1.trans (List.getElem?_eq_getElem (by omega))⟩

theorem eleven_l {l : List Value} {u0 u1 u2 u3 u4 u5 u6 u7 u8 u9 u10 : Value} (h : l.length = 11) (h0 : l[0]? = some u0) (h1 : l[1]? = some u1) (h2 : l[2]? = some u2) (h3 : l[3]? = some u3) (h4 : l[4]? = some u4)
    (h5 : l[5]? = some u5) (h6 : l[6]? = some u6) (h7 : l[7]? = some u7) (h8 : l[8]? = some u8) (h9 : l[9]? = some u9) (h10 : l[10]? = some u10) : l = [u0, u1, u2, u3, u4, u5, u6, u7, u8, u9, u10] := by
  match l, h with
  | [a0, a1, a2, a3, a4, a5, a6, a7, a8, a9, a10], _ =>
    simp at h0 h1 h2 h3 h4 h5 h6 h7 h8 h9 h10
    subst h0 h1 h2 h3 h4 h5 h6 h7 h8 h9 h10
    rfl

set_option maxRecDepth 100000 in
/-- The eleven cells of a font. -/
theorem font_cells {fuel : Nat} {l : List Value} {y : DataW H × List MemPlace} (h : DataW.trod enc Try.prog W 0 (fun _ => true) true fuel 28 l = some y) :
    ∃ (D : FontD) (P : FontP), l = [.int .i64 D.sum, .int .i64 D.design, .int .i64 D.first, .slice P.xc D.nc P.zc, .slice P.xw D.nw P.zw, .slice P.xh D.nh P.zh, .slice P.xd D.nd P.zd, .slice P.xi D.ni P.zi, .slice P.xs D.ns P.zs, .slice P.xk D.nk P.zk, .slice P.xp D.np P.zp] ∧ FontOk D P ∧ SeenFont W D P := by
  obtain ⟨hsz, hf⟩ := trod_fields Try.underlying28 (by kernel_rfl) (by kernel_rfl) h
  obtain ⟨u0, n0, y0, c0, t0⟩ := hf 0 _ rfl
  obtain ⟨u1, n1, y1, c1, t1⟩ := hf 1 _ rfl
  obtain ⟨u2, n2, y2, c2, t2⟩ := hf 2 _ rfl
  obtain ⟨u3, n3, y3, c3, t3⟩ := hf 3 _ rfl
  obtain ⟨u4, n4, y4, c4, t4⟩ := hf 4 _ rfl
  obtain ⟨u5, n5, y5, c5, t5⟩ := hf 5 _ rfl
  obtain ⟨u6, n6, y6, c6, t6⟩ := hf 6 _ rfl
  obtain ⟨u7, n7, y7, c7, t7⟩ := hf 7 _ rfl
  obtain ⟨u8, n8, y8, c8, t8⟩ := hf 8 _ rfl
  obtain ⟨u9, n9, y9, c9, t9⟩ := hf 9 _ rfl
  obtain ⟨u10, n10, y10, c10, t10⟩ := hf 10 _ rfl
  obtain rfl := eleven_l hsz c0 c1 c2 c3 c4 c5 c6 c7 c8 c9 c10
  obtain ⟨sum, e0, _, w0⟩ := DataW.trod_int Try.underlying3 t0
  simp only [List.cons.injEq, and_true] at e0
  subst e0
  obtain ⟨design, e1, _, w1⟩ := DataW.trod_int Try.underlying3 t1
  simp only [List.cons.injEq, and_true] at e1
  subst e1
  obtain ⟨first, e2, _, w2⟩ := DataW.trod_int Try.underlying3 t2
  simp only [List.cons.injEq, and_true] at e2
  subst e2
  obtain ⟨ac, nc, cc, fc, rfl, lc, mc, bc, sc⟩ := field_rows Try.underlying24 Try.underlying61 (by kernel_rfl) (by kernel_rfl) (ints_rows 6 rfl (by kernel_rfl)) t3
  obtain ⟨aw, nw, cw, fw, rfl, lw, mw, bw, sw⟩ := field_ints Try.underlying25 Try.underlying3 (by kernel_rfl) t4
  obtain ⟨ah, nh, ch, fh, rfl, lh, mh, bh, sh⟩ := field_ints Try.underlying25 Try.underlying3 (by kernel_rfl) t5
  obtain ⟨ad, nd, cd, fd, rfl, ld, md, bd, sd⟩ := field_ints Try.underlying25 Try.underlying3 (by kernel_rfl) t6
  obtain ⟨ai, ni, ci, fi, rfl, li, mi, bi, si⟩ := field_ints Try.underlying25 Try.underlying3 (by kernel_rfl) t7
  obtain ⟨as', ns, cs, fs, rfl, ls, ms, bs, ss⟩ := field_rows Try.underlying26 Try.underlying69 (by kernel_rfl) (by kernel_rfl) (ints_rows 4 rfl (by kernel_rfl)) t8
  obtain ⟨ak, nk, ck, fk, rfl, lk, mk, bk, sk⟩ := field_ints Try.underlying25 Try.underlying3 (by kernel_rfl) t9
  obtain ⟨ap, np, cp, fp, rfl, lp, mp, bp, sp⟩ := field_ints Try.underlying25 Try.underlying3 (by kernel_rfl) t10
  exact ⟨⟨sum, design, first, nc, fc, nw, fw, nh, fh, nd, fd, ni, fi, ns, fs, nk, fk, np, fp⟩, ⟨ac, cc, aw, cw, ah, ch, ad, cd, ai, ci, as', cs, ak, ck, ap, cp⟩, rfl,
    ⟨bounds_i64 w0, bounds_i64 w1, bounds_i64 w2, bc, bw, bh, bd, bi, bs, bk, bp, ⟨lc, mc⟩, ⟨lw, mw⟩, ⟨lh, mh⟩, ⟨ld, md⟩, ⟨li, mi⟩, ⟨ls, ms⟩, ⟨lk, mk⟩, ⟨lp, mp⟩⟩, ⟨sc, sw, sh, sd, si, ss, sk, sp⟩⟩

set_option maxRecDepth 100000 in
/-- The cells of a face: those of its font, and five. -/
theorem face_cells {fuel : Nat} {l : List Value} {y : DataW H × List MemPlace} (h : DataW.trod enc Try.prog W 0 (fun _ => true) true fuel 45 l = some y) :
    ∃ (D : FontD) (P : FontP) (T : FaceT) (Q : FaceQ), l = [.int .i64 D.sum, .int .i64 D.design, .int .i64 D.first, .slice P.xc D.nc P.zc, .slice P.xw D.nw P.zw, .slice P.xh D.nh P.zh, .slice P.xd D.nd P.zd, .slice P.xi D.ni P.zi, .slice P.xs D.ns P.zs, .slice P.xk D.nk P.zk, .slice P.xp D.np P.zp, .int .i64 T.size, .int .i64 T.step, .int .i64 T.up, .int .i64 T.down, .slice Q.xt T.nt Q.zt] ∧ FaceOk D P T Q ∧ SeenFace W D P T Q := by
  obtain ⟨xs, n, _, _, hlc, hlen, hg⟩ := DataW.trod_struct Try.underlying45 h
  have hlc : l.length = 16 := hlc.trans (by kernel_rfl)
  have hlen : xs.length = 6 := hlen
  have h0 : DataW.trod enc Try.prog W 0 (fun _ => true) true n 28 ((l.drop 0).take (Try.prog.cellsOf 28)) = xs[0]? := hg 0 _ rfl
  have h1 : DataW.trod enc Try.prog W 0 (fun _ => true) true n 3 ((l.drop 11).take (Try.prog.cellsOf 3)) = xs[1]? := hg 1 _ rfl
  have h2 : DataW.trod enc Try.prog W 0 (fun _ => true) true n 3 ((l.drop 12).take (Try.prog.cellsOf 3)) = xs[2]? := hg 2 _ rfl
  have h3 : DataW.trod enc Try.prog W 0 (fun _ => true) true n 3 ((l.drop 13).take (Try.prog.cellsOf 3)) = xs[3]? := hg 3 _ rfl
  have h4 : DataW.trod enc Try.prog W 0 (fun _ => true) true n 3 ((l.drop 14).take (Try.prog.cellsOf 3)) = xs[4]? := hg 4 _ rfl
  have h5 : DataW.trod enc Try.prog W 0 (fun _ => true) true n 43 ((l.drop 15).take (Try.prog.cellsOf 43)) = xs[5]? := hg 5 _ rfl
  rw [show Try.prog.cellsOf 28 = 11 by kernel_rfl] at h0
  rw [show Try.prog.cellsOf 3 = 1 by kernel_rfl] at h1 h2 h3 h4
  rw [show Try.prog.cellsOf 43 = 1 by kernel_rfl] at h5
  match l, hlc, xs, hlen with
  | [a0, a1, a2, a3, a4, a5, a6, a7, a8, a9, a10, a11, a12, a13, a14, a15], _, [x0, x1, x2, x3, x4, x5], _ =>
    obtain ⟨D, P, e, ok, sn⟩ := font_cells (l := [a0, a1, a2, a3, a4, a5, a6, a7, a8, a9, a10]) h0
    simp only [List.cons.injEq, and_true] at e
    obtain ⟨rfl, rfl, rfl, rfl, rfl, rfl, rfl, rfl, rfl, rfl, rfl⟩ := e
    obtain ⟨size, e1, _, w1⟩ := DataW.trod_int (cs := [a11]) Try.underlying3 h1
    obtain ⟨step, e2, _, w2⟩ := DataW.trod_int (cs := [a12]) Try.underlying3 h2
    obtain ⟨up, e3, _, w3⟩ := DataW.trod_int (cs := [a13]) Try.underlying3 h3
    obtain ⟨down, e4, _, w4⟩ := DataW.trod_int (cs := [a14]) Try.underlying3 h4
    simp only [List.cons.injEq, and_true] at e1 e2 e3 e4
    subst e1 e2 e3 e4
    obtain ⟨at', nt, ct, ft, rfl, lt, mt, bt, st⟩ := field_rows (v := a15) Try.underlying43 Try.underlying56 (by kernel_rfl) (by kernel_rfl) (ints_rows 4 rfl (by kernel_rfl)) h5
    exact ⟨D, P, ⟨size, step, up, down, nt, ft⟩, ⟨at', ct⟩, rfl, ⟨ok, bounds_i64 w1, bounds_i64 w2, bounds_i64 w3, bounds_i64 w4, bt, lt, mt⟩, ⟨sn, st⟩⟩

set_option maxRecDepth 100000 in
/-- A face by value. -/
theorem arg_face {v : Value} {d : DataW H} {p : List MemPlace} (hv : Value.okWide Try.prog W .any base 45 v) (h : DataW.Trod enc Try.prog W 0 (fun _ => true) true 45 v d p) :
    ∃ (D : FontD) (P : FontP) (T : FaceT) (Q : FaceQ), v = faceV D P T Q ∧ FaceOk D P T Q ∧ SeenFace W D P T Q := by
  obtain ⟨cs, rfl, _⟩ := okWide_struct Try.underlying45 hv
  obtain ⟨fuel, hf⟩ := h
  obtain ⟨D, P, T, Q, e, ok, sn⟩ := face_cells hf
  refine ⟨D, P, T, Q, ?_, ok, sn⟩
  have e : cs.toList = [.int .i64 D.sum, .int .i64 D.design, .int .i64 D.first, .slice P.xc D.nc P.zc, .slice P.xw D.nw P.zw, .slice P.xh D.nh P.zh, .slice P.xd D.nd P.zd, .slice P.xi D.ni P.zi, .slice P.xs D.ns P.zs, .slice P.xk D.nk P.zk, .slice P.xp D.np P.zp, .int .i64 T.size, .int .i64 T.step, .int .i64 T.up, .int .i64 T.down, .slice Q.xt T.nt Q.zt] := e
  obtain ⟨l⟩ := cs
  subst e
  rfl
end
end Go.Proofs.Ytpkmpbpifbpomaa

