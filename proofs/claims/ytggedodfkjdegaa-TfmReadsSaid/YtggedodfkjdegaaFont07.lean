/- A font as an argument: what it reads as. -/
import Derived.Test.YtggedodfkjdegaaStructs
import Derived.OpenShut
namespace Go.Proofs.Ytggedodfkjdegaa
open Go.ChangeShapes Go.WideShapes Go.ChangeAt Go.RowKit Go.Deep

/-- A font's numbers: how many there are of each, and which. -/
structure FontD where
  sum : Int
  design : Int
  first : Int
  nc : Nat
  chr : Nat → Nat → Int
  nw : Nat
  wd : Nat → Int
  nh : Nat
  hd : Nat → Int
  nd : Nat
  dd : Nat → Int
  ni : Nat
  id : Nat → Int
  ns : Nat
  stp : Nat → Nat → Int
  nk : Nat
  kd : Nat → Int
  np : Nat
  pd : Nat → Int
/-- Where they are, and how much room there is. -/
structure FontP where
  xc : Option Addr
  zc : Nat
  xw : Option Addr
  zw : Nat
  xh : Option Addr
  zh : Nat
  xd : Option Addr
  zd : Nat
  xi : Option Addr
  zi : Nat
  xs : Option Addr
  zs : Nat
  xk : Option Addr
  zk : Nat
  xp : Option Addr
  zp : Nat
/-- The value. -/
def fontV (D : FontD) (P : FontP) : Value :=
  .agg #[.int .i64 D.sum, .int .i64 D.design, .int .i64 D.first, .slice P.xc D.nc P.zc, .slice P.xw D.nw P.zw, .slice P.xh D.nh P.zh, .slice P.xd D.nd P.zd, .slice P.xi D.ni P.zi, .slice P.xs D.ns P.zs, .slice P.xk D.nk P.zk, .slice P.xp D.np P.zp]
/-- It is seen in this world. -/
structure SeenFont (w : World) (D : FontD) (P : FontP) : Prop where
  oc : SeenN 6 w P.xc D.nc D.chr
  ow : SeenF w P.xw D.nw D.wd
  oh : SeenF w P.xh D.nh D.hd
  od : SeenF w P.xd D.nd D.dd
  oi : SeenF w P.xi D.ni D.id
  os : SeenN 4 w P.xs D.ns D.stp
  ok : SeenF w P.xk D.nk D.kd
  op : SeenF w P.xp D.np D.pd
theorem SeenFont.ext {w w' : World} {D : FontD} {P : FontP} (h : SeenFont w D P) (x : Ext w w') : SeenFont w' D P :=
  ⟨h.oc.ext x, h.ow.ext x, h.oh.ext x, h.od.ext x, h.oi.ext x, h.os.ext x, h.ok.ext x, h.op.ext x⟩
/-- A number of 64 bits. -/
def Wide (n : Int) : Prop := -9223372036854775808 ≤ n ∧ n ≤ 9223372036854775807
/-- Its numbers have 64 bits, and its lists are no longer than their room. -/
structure FontOk (D : FontD) (P : FontP) : Prop where
  sum : Wide D.sum
  design : Wide D.design
  first : Wide D.first
  bc : ∀ i j, i < D.nc → j < 6 → Wide (D.chr i j)
  bw : ∀ j, Wide (D.wd j)
  bh : ∀ j, Wide (D.hd j)
  bd : ∀ j, Wide (D.dd j)
  bi : ∀ j, Wide (D.id j)
  bs : ∀ i j, i < D.ns → j < 4 → Wide (D.stp i j)
  bk : ∀ j, Wide (D.kd j)
  bp : ∀ j, Wide (D.pd j)
  rc : D.nc ≤ P.zc ∧ P.zc ≤ maxLen
  rw : D.nw ≤ P.zw ∧ P.zw ≤ maxLen
  rh : D.nh ≤ P.zh ∧ P.zh ≤ maxLen
  rd : D.nd ≤ P.zd ∧ P.zd ≤ maxLen
  ri : D.ni ≤ P.zi ∧ P.zi ≤ maxLen
  rs : D.ns ≤ P.zs ∧ P.zs ≤ maxLen
  rk : D.nk ≤ P.zk ∧ P.zk ≤ maxLen
  rp : D.np ≤ P.zp ∧ P.zp ≤ maxLen

theorem eleven {cs : Array Value} {u0 u1 u2 u3 u4 u5 u6 u7 u8 u9 u10 : Value} (h : cs.size = 11) (h0 : cs[0]? = some u0) (h1 : cs[1]? = some u1) (h2 : cs[2]? = some u2) (h3 : cs[3]? = some u3) (h4 : cs[4]? = some u4)
    (h5 : cs[5]? = some u5) (h6 : cs[6]? = some u6) (h7 : cs[7]? = some u7) (h8 : cs[8]? = some u8) (h9 : cs[9]? = some u9) (h10 : cs[10]? = some u10) : cs = #[u0, u1, u2, u3, u4, u5, u6, u7, u8, u9, u10] := by
  obtain ⟨l⟩ := cs
  match l, h with
  | [a0, a1, a2, a3, a4, a5, a6, a7, a8, a9, a10], _ =>
    simp at h0 h1 h2 h3 h4 h5 h6 h7 h8 h9 h10
    subst h0 h1 h2 h3 h4 h5 h6 h7 h8 h9 h10
    rfl

theorem ints_rows {P : Program} {fs : Array Field} (k : Nat) (hk : fs.size = k) (h : (List.range k).map (fun j => fs[j]?.bind fun f => P.underlying f.type) = List.replicate k (some (.int .i64))) :
    ∀ (j : Nat) (f : Field), fs[j]? = some f → P.underlying f.type = some (.int .i64) := fun j f hj => by
  have hlt : j < k := by have := (Array.getElem?_eq_some_iff.1 hj).1; omega
  have := congrArg (·[j]?) h
  simpa [hlt, hj] using this

set_option maxRecDepth 100000 in
/-- A font by value. -/
theorem arg_font {H : Type} {enc : TypeId × Value → H} {W : World} {base : Nat} {v : Value} {d : DataW H} {p : List MemPlace}
    (hv : Value.okWide Try.prog W .any base 28 v) (h : DataW.Trod enc Try.prog W 0 (fun _ => true) true 28 v d p) :
    ∃ (D : FontD) (P : FontP), v = fontV D P ∧ FontOk D P ∧ SeenFont W D P := by
  obtain ⟨cs, rfl, hsz, hf⟩ := arg_fields Try.underlying28 (by kernel_rfl) (by kernel_rfl) hv h
  obtain ⟨u0, n0, y0, c0, t0⟩ := hf 0 _ rfl
  obtain ⟨u1, n1, y1, c1, t1⟩ := hf 1 _ rfl
  obtain ⟨u2, n2, y2, c2, t2⟩ := hf 2 _ rfl
  obtain ⟨u3, n3, y3, c3, t3⟩ := hf 3 _ rfl
  obtain ⟨u4, n4, y4, c4, t4⟩ := hf 4 _ rfl
  obtain ⟨u5, n5, y5, c5, t5⟩ := hf 5 _ rfl
  obtain ⟨u6, n6, y6, c6, t6⟩ := hf 6 _ rfl
  obtain ⟨u7, n7, y7, c7, t7⟩ := hf 7 _ rfl
  obtain ⟨u8, n8, y8, c8, t8⟩ := hf 8 _ rfl
  obtain ⟨u9, n9, y9, c9, t9⟩ := hf 9 _ rfl
  obtain ⟨u10, n10, y10, c10, t10⟩ := hf 10 _ rfl
  obtain rfl := eleven hsz c0 c1 c2 c3 c4 c5 c6 c7 c8 c9 c10
  obtain ⟨sum, e0, _, w0⟩ := DataW.trod_int Try.underlying3 t0
  simp only [List.cons.injEq, and_true] at e0
  subst e0
  obtain ⟨design, e1, _, w1⟩ := DataW.trod_int Try.underlying3 t1
  simp only [List.cons.injEq, and_true] at e1
  subst e1
  obtain ⟨first, e2, _, w2⟩ := DataW.trod_int Try.underlying3 t2
  simp only [List.cons.injEq, and_true] at e2
  subst e2
  obtain ⟨ac, nc, cc, fc, rfl, lc, mc, bc, sc⟩ := field_rows Try.underlying24 Try.underlying35 (by kernel_rfl) (by kernel_rfl) (ints_rows 6 rfl (by kernel_rfl)) t3
  obtain ⟨aw, nw, cw, fw, rfl, lw, mw, bw, sw⟩ := field_ints Try.underlying25 Try.underlying3 (by kernel_rfl) t4
  obtain ⟨ah, nh, ch, fh, rfl, lh, mh, bh, sh⟩ := field_ints Try.underlying25 Try.underlying3 (by kernel_rfl) t5
  obtain ⟨ad, nd, cd, fd, rfl, ld, md, bd, sd⟩ := field_ints Try.underlying25 Try.underlying3 (by kernel_rfl) t6
  obtain ⟨ai, ni, ci, fi, rfl, li, mi, bi, si⟩ := field_ints Try.underlying25 Try.underlying3 (by kernel_rfl) t7
  obtain ⟨as', ns, cs, fs, rfl, ls, ms, bs, ss⟩ := field_rows Try.underlying26 Try.underlying45 (by kernel_rfl) (by kernel_rfl) (ints_rows 4 rfl (by kernel_rfl)) t8
  obtain ⟨ak, nk, ck, fk, rfl, lk, mk, bk, sk⟩ := field_ints Try.underlying25 Try.underlying3 (by kernel_rfl) t9
  obtain ⟨ap, np, cp, fp, rfl, lp, mp, bp, sp⟩ := field_ints Try.underlying25 Try.underlying3 (by kernel_rfl) t10
  exact ⟨⟨sum, design, first, nc, fc, nw, fw, nh, fh, nd, fd, ni, fi, ns, fs, nk, fk, np, fp⟩, ⟨ac, cc, aw, cw, ah, ch, ad, cd, ai, ci, as', cs, ak, ck, ap, cp⟩, rfl,
    ⟨bounds_i64 w0, bounds_i64 w1, bounds_i64 w2, bc, bw, bh, bd, bi, bs, bk, bp, ⟨lc, mc⟩, ⟨lw, mw⟩, ⟨lh, mh⟩, ⟨ld, md⟩, ⟨li, mi⟩, ⟨ls, ms⟩, ⟨lk, mk⟩, ⟨lp, mp⟩⟩, ⟨sc, sw, sh, sd, si, ss, sk, sp⟩⟩
end Go.Proofs.Ytggedodfkjdegaa

