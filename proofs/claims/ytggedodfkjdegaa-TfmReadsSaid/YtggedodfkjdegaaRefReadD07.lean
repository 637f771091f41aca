/- The document's Read of layer 7: its places, and the font that it tells of. -/
import Derived.Test.YtggedodfkjdegaaRefReadB07
namespace Go.Proofs.Ytggedodfkjdegaa
open Go.RowKit
namespace L07
open L06

/-- Places of words: sums of counts, as the program reckons them. -/
theorem offs {q nc nw nh nd ni ns nk np : Nat} (h : q = 8 + nc + nw + nh + nd + ni + ns + nk + np) (hq : q ≤ 25000) :
    ∃ p1 p2 p3 p4 p5 p6 p7 : Nat, (p1 = 8 + nc ∧ p2 = p1 + nw ∧ p3 = p2 + nh ∧ p4 = p3 + nd ∧ p5 = p4 + ni ∧ p6 = p5 + ns ∧ p7 = p6 + nk) ∧
      ((8 : Int) + (nc : Int) = (p1 : Int) ∧ (p1 : Int) + (nw : Int) = (p2 : Int) ∧ (p2 : Int) + (nh : Int) = (p3 : Int) ∧ (p3 : Int) + (nd : Int) = (p4 : Int) ∧ (p4 : Int) + (ni : Int) = (p5 : Int) ∧ (p5 : Int) + (ns : Int) = (p6 : Int) ∧ (p6 : Int) + (nk : Int) = (p7 : Int)) ∧
      ((p1 : Int) ≤ 25000 ∧ (p2 : Int) ≤ 25000 ∧ (p3 : Int) ≤ 25000 ∧ (p4 : Int) ≤ 25000 ∧ (p5 : Int) ≤ 25000 ∧ (p6 : Int) ≤ 25000 ∧ (p7 : Int) ≤ 25000) ∧
      (p1 + nw ≤ q ∧ p2 + nh ≤ q ∧ p3 + nd ≤ q ∧ p4 + ni ≤ q ∧ p5 + ns ≤ q ∧ p6 + nk ≤ q ∧ p7 + np = q) :=
  ⟨8 + nc, 8 + nc + nw, 8 + nc + nw + nh, 8 + nc + nw + nh + nd, 8 + nc + nw + nh + nd + ni, 8 + nc + nw + nh + nd + ni + ns, 8 + nc + nw + nh + nd + ni + ns + nk,
    ⟨rfl, rfl, rfl, rfl, rfl, rfl, rfl⟩, ⟨by omega, by omega, by omega, by omega, by omega, by omega, by omega⟩, ⟨by omega, by omega, by omega, by omega, by omega, by omega, by omega⟩, ⟨by omega, by omega, by omega, by omega, by omega, by omega, by omega⟩⟩
theorem le4 {n q p m : Nat} (h : n = 4 * q) (hp : p + m ≤ q) : 4 * (p + m) ≤ n := by omega
theorem byte_wrap {y : Nat} (h : y < 256) : IntKind.i64.wrap (y : Int) = (y : Int) := IntWalk.i64_in _ (by omega)
theorem byte_by {y : Nat} (h : y < 256) (q : Int) (hq : q = 16 ∨ q = 4) : (y : Int).tdiv q = (y : Int) / q ∧ (y : Int).tmod q = (y : Int) % q ∧ IntKind.i64.wrap ((y : Int) / q) = (y : Int) / q := by
  refine ⟨Int.tdiv_eq_ediv_of_nonneg (by omega), Int.tmod_eq_emod_of_nonneg (by omega), IntWalk.i64_in _ ?_⟩
  rcases hq with rfl | rfl <;> omega
theorem wide_fix (l : List UInt8) (j : Nat) : Wide (fixA l j) := by have := fix_le l j; unfold Wide; omega
theorem wide_byte (l : List UInt8) (k i : Nat) : Wide (byteA l k i) := by have := byte_le l k i; unfold Wide; omega
theorem dec_ok32 (l : List UInt8) (P : FontP) (hc : (decD down32 l).nc ≤ P.zc ∧ P.zc ≤ maxLen) (hw : (decD down32 l).nw ≤ P.zw ∧ P.zw ≤ maxLen) (hh : (decD down32 l).nh ≤ P.zh ∧ P.zh ≤ maxLen) (hd : (decD down32 l).nd ≤ P.zd ∧ P.zd ≤ maxLen)
    (hi : (decD down32 l).ni ≤ P.zi ∧ P.zi ≤ maxLen) (hs : (decD down32 l).ns ≤ P.zs ∧ P.zs ≤ maxLen) (hk : (decD down32 l).nk ≤ P.zk ∧ P.zk ≤ maxLen) (hp : (decD down32 l).np ≤ P.zp ∧ P.zp ≤ maxLen) : FontOk (decD down32 l) P := by
  refine ⟨?_, wide_fix l 7, ?_, fun i j _ hj => ?_, fun j => wide_fix l _, fun j => wide_fix l _, fun j => wide_fix l _, fun j => wide_fix l _, fun i j _ _ => wide_byte l _ _, fun j => wide_fix l _, fun j => wide_fix l _, hc, hw, hh, hd, hi, hs, hk, hp⟩
  · have := word_le l 6
    show Wide (word4 l 6)
    unfold Wide; omega
  · have := half_le l 2
    show Wide (half l 2)
    unfold Wide; omega
  · have b0 := byte_le l (8 + i) 0
    have b1 := byte_le l (8 + i) 1
    have b2 := byte_le l (8 + i) 2
    have b3 := byte_le l (8 + i) 3
    match j, hj with
    | 0, _ => show Wide (byteA l (8 + i) 0); unfold Wide; omega
    | 1, _ => show Wide (byteA l (8 + i) 1 / 16); unfold Wide; omega
    | 2, _ => show Wide (byteA l (8 + i) 1 % 16); unfold Wide; omega
    | 3, _ => show Wide (byteA l (8 + i) 2 / 4); unfold Wide; omega
    | 4, _ => show Wide (byteA l (8 + i) 2 % 4); unfold Wide; omega
    | 5, _ => show Wide (byteA l (8 + i) 3); unfold Wide; omega
theorem font_of {F : Nat} {wx : World} {l : List UInt8} {D : FontD} {P : FontP} (hD : D = decD down32 l) (bc : D.nc ≤ P.zc ∧ P.zc ≤ maxLen) (bw : D.nw ≤ P.zw ∧ P.zw ≤ maxLen) (bh : D.nh ≤ P.zh ∧ P.zh ≤ maxLen) (bd : D.nd ≤ P.zd ∧ P.zd ≤ maxLen)
    (bi : D.ni ≤ P.zi ∧ P.zi ≤ maxLen) (bs : D.ns ≤ P.zs ∧ P.zs ≤ maxLen) (bk : D.nk ≤ P.zk ∧ P.zk ≤ maxLen) (bp : D.np ≤ P.zp ∧ P.zp ≤ maxLen)
    (rc : RowNK F 6 wx P.xc D.nc D.chr) (rw : RowK F wx P.xw D.nw D.wd) (rh : RowK F wx P.xh D.nh D.hd) (rd : RowK F wx P.xd D.nd D.dd) (ri : RowK F wx P.xi D.ni D.id) (rs : RowNK F 4 wx P.xs D.ns D.stp) (rk : RowK F wx P.xk D.nk D.kd) (rp : RowK F wx P.xp D.np D.pd) :
    FontOk D P ∧ SeenFont wx D P := by
  refine ⟨?_, rc.s, rw.s, rh.s, rd.s, ri.s, rs.s, rk.s, rp.s⟩
  subst hD
  exact dec_ok32 l P bc bw bh bd bi bs bk bp
theorem RowK.setsR {F R : Nat} (hR : R ≤ F) {A : Option Addr} {n : Nat} {f : Nat → Int} : ∀ (vs : List Value) (o : Nat) (w : World), RowK F w A n f → RowK F (w.setCells R o vs) A n f
  | [], _, _, h => h
  | v :: r, o, w, h => RowK.setsR hR r (o + 1) _ ⟨fun j hj => by
      obtain ⟨ad, e, hb, hc⟩ := h.s j hj
      have hF := h.at' ad e
      exact ⟨ad, e, by simpa [World.setCell] using hb, (kp_cell (F := R) (Kp.set w ⟨R, o, none⟩ v) (by rw [addr_block]; exact hb) (by rw [addr_block]; omega)).trans hc⟩, h.at'⟩
theorem RowNK.setsR {F R m : Nat} (hR : R ≤ F) {A : Option Addr} {n : Nat} {f : Nat → Nat → Int} : ∀ (vs : List Value) (o : Nat) (w : World), RowNK F m w A n f → RowNK F m (w.setCells R o vs) A n f
  | [], _, _, h => h
  | v :: r, o, w, h => RowNK.setsR hR r (o + 1) _ ⟨fun i hi j hj => by
      obtain ⟨ad, e, hb, hc⟩ := h.s i hi j hj
      have hF := h.at' ad e
      exact ⟨ad, e, by simpa [World.setCell] using hb, (kp_cell (F := R) (Kp.set w ⟨R, o, none⟩ v) (by rw [addr_block]; exact hb) (by rw [addr_block]; omega)).trans hc⟩, h.at'⟩
theorem strs_ne {a b : List UInt8} (h : ¬ a = b) : ¬ (⟨a.toArray⟩ : ByteArray) = ⟨b.toArray⟩ ∧ (((⟨a.toArray⟩ : ByteArray).toList == (⟨b.toArray⟩ : ByteArray).toList) = false) ∧ (((⟨a.toArray⟩ : ByteArray).toList != (⟨b.toArray⟩ : ByteArray).toList) = true) := by
  have h1 : ¬ (⟨a.toArray⟩ : ByteArray) = ⟨b.toArray⟩ := fun e => h (by simpa using e)
  have h2 : ¬ (⟨a.toArray⟩ : ByteArray).toList = (⟨b.toArray⟩ : ByteArray).toList := fun e => h (by simpa [ByteArray.toList_eq] using e)
  exact ⟨h1, by simpa using h2, by simpa using h2⟩
/-- A font of which these are the bytes is just what they tell of. -/
theorem readC_of {w w' : World} {l : List UInt8} {P : FontP} (ok : FontOk (decD down32 l) P) (sn : SeenFont w' (decD down32 l) P) (x : Ext w w') (hc : checkB (decD down32 l) = true) (hw : writeB (decD down32 l) = l) :
    ReadC w l (.returned (.tuple #[fontV (decD down32 l) P, .int .i64 0])) w' := .inl ⟨_, P, rfl, ok, sn, x, hc, hw⟩
theorem no_font {l : List UInt8} (h : checkB (decD down32 l) = false ∨ ¬ writeB (decD down32 l) = l) : ¬ FontOf l := fun hf => by
  obtain ⟨h1, h2⟩ := dec_of hf down32 (fun n h0 h9 => by unfold down32; rw [if_neg (by omega)])
  rcases h with h | h
  · rw [h1] at h; cases h
  · exact h h2
end L07
end Go.Proofs.Ytggedodfkjdegaa

