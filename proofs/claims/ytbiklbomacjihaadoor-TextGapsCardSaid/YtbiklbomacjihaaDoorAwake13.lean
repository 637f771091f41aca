/- What all statements of layer 13 begin with: it is so. -/
import Derived.Test.YtbiklbomacjihaaDoorTextR13
import Derived.Test.YtbiklbomacjihaaDoorTextC13
import Derived.Test.YtbiklbomacjihaaDoorSame13
import Derived.Lib.SlBytesConst
namespace Go.Proofs.YtbiklbomacjihaaDoor
open Go.RowKit
namespace L13

theorem seen_marked (w : World) (cs : Array Value) (l : List UInt8) (t : TypeId) (fr : Nat × Nat) (h : cs = (bv l).toArray) : SeenB (w.alloc (.cells cs t fr)) (some ⟨w.heap.size, 0, none⟩) l := fun k v hv => by
  have hk : k < (bv l).length := (List.getElem?_eq_some_iff.1 hv).1
  refine ⟨_, rfl, by simp, ?_⟩
  rw [show (⟨w.heap.size, 0, none⟩ : Addr).add k = ⟨w.heap.size, k, none⟩ by cases k <;> simp [Addr.add], World.cell?_alloc_mark, h]
  simpa using hv
theorem blk_seenL {w : World} {b : Nat} {t : TypeId} {l : List Int} {cs : List Value} (h : Blk w b t cs) (e : cs = l.map (.int .i64)) : SeenL w (some ⟨b, 0, none⟩) l := fun j v hv =>
  ⟨_, rfl, h.lt, by rw [show (⟨b, 0, none⟩ : Addr).add j = ⟨b, j, none⟩ by cases j <;> simp [Addr.add], h.cell, e]; exact hv⟩
theorem same_lists (A B : Option Addr) (l m : List Int) (c d : Nat) (w : World) (hs : SeenL w A l) (ht : SeenL w B m) (hn : l.length ≤ 1000000) :
    Calls Tryd.prog 19 #[.slice A l.length c, .slice B m.length d] w (Ret w (.bool (decide (l = m)))) := by
  have := L04.same_any A B l.length m.length c d _ _ w hs.fn ht.fn (by omega)
  rwa [sameB_list] at this
theorem aw_same {w : World} {A : Option Addr} {c B : Nat} {t : TypeId} {l : List Int} {cs : List Value} (n : Nat) (hn : n = l.length) (h : SeenL w A l) (k : Blk w B t cs) (e : cs = l.map (.int .i64)) (hl : l.length ≤ 1000000) :
    Calls Tryd.prog 19 #[.slice A n c, .slice (some ⟨B, 0, none⟩) n n] w (Ret w (.bool true)) := by
  subst hn
  have := same_lists A (some ⟨B, 0, none⟩) l l c l.length w h (blk_seenL k e) hl
  rwa [decide_eq_true rfl] at this

def T1 : List UInt8 := [32, 97, 98, 194, 173, 99, 10, 33]
def T2 : List UInt8 := [97, 98, 194, 173, 99, 32, 33]
theorem t1_R : readA T1 = ([([97, 98, 99], [2]), ([33], [])], 0) := by kernel_rfl
theorem t2_W : textL [([97, 98, 99], [2]), ([33], [])] = T2 := by kernel_rfl
theorem t3_R : readA [97, 0] = ([], 130) := by kernel_rfl
theorem t1_C : checkB [([97, 98, 99], [2]), ([33], [])] = true := by kernel_rfl
/-- Words that are answered, as a value in memory. -/
structure Good (w : World) (A : Option Addr) (wl : List CW) (c : Nat) : Prop where
  sn : SeenC w A wl
  ok : ∀ x ∈ wl, x.Ok
  cap : wl.length ≤ c ∧ c ≤ maxLen
theorem Good.ext {w w' : World} {A : Option Addr} {wl : List CW} {c : Nat} (h : Good w A wl c) (x : Ext w w') : Good w' A wl c := ⟨h.sn.ext x, h.ok, h.cap⟩
/-- Read, at a slice that lies somewhere. -/
def ReadG (w : World) (t : List UInt8) (e : Ending) (w' : World) : Prop :=
  Ext w w' ∧ ∃ (A : Option Addr) (wl : List CW) (c : Nat), e = .returned (.tuple #[.slice A wl.length c, .int .i64 (readA t).2]) ∧ wl.map tw = (readA t).1 ∧ Good w' A wl c
theorem read_all (A : Option Addr) (t : List UInt8) (n c : Nat) (w : World) (ht : SeenB w A t) (hn : n = t.length) (hm : n ≤ 800000) (hc : n ≤ c ∧ c ≤ maxLen) (hT : Tabs w) : Calls Tryd.prog 11 #[.slice A n c] w (ReadG w t) := by
  refine (read_text A t n c w ht hn hm hc.1 hc.2 hT).mono ?_
  rintro e w' ⟨hx, A', c', wl, rfl, h1, h2, h3, h4, h5⟩
  exact ⟨hx, A', wl, c', rfl, h1, h2, h3, h4, h5⟩
theorem two_tw {wl : List CW} {p q : TW} (h : wl.map tw = [p, q]) : ∃ x y, wl = [x, y] ∧ tw x = p ∧ tw y = q := by
  match wl, h with
  | [x, y], h => exact ⟨x, y, rfl, by simpa using h⟩

set_option maxRecDepth 100000 in
set_option maxHeartbeats 8000000 in
theorem awake_any (w : World) (hT : Tabs w) : Calls Tryd.prog 10 #[] w (Ret w (.bool true)) := by
  have HT := Lib.hid hT
  clear hT
  have kc := fun (w : World) (C : Array Value) (n c : Nat) => Lib.run_convert_bytes_const (P := Tryd.prog) w 22 5 C n c Tryd.underlying22 Tryd.underlying5
  go_enter Tryd.func10, Tryd.ntmps10
  go_wp2_with fail
  refine (read_all (some ⟨w.heap.size, 0, none⟩) T1 8 8 _ (seen_marked w _ T1 5 _ rfl) rfl (by omega) ⟨Nat.le_refl _, by unfold maxLen; omega⟩ (HT.out.ext ((Ext.refl _).alloc _))).mono ?_
  rintro e w1 ⟨x1, A1, wl, c1, rfl, hwl, g1⟩
  rw [t1_R] at hwl ⊢
  obtain ⟨⟨cs0, a0, k0, ss0, b0, d0⟩, ⟨cs1, a1, k1, ss1, b1, d1⟩, rfl, e0, e1⟩ := two_tw hwl
  unfold tw at e0 e1
  simp only [Prod.mk.injEq] at e0 e1
  obtain ⟨rfl, rfl⟩ := e0
  obtain ⟨rfl, rfl⟩ := e1
  have X1 := Lib.hid (((Ext.refl w).alloc _).trans x1)
  have HT1 := Lib.hid (HT.out.ext X1.out)
  have G1 := Lib.hid g1
  clear x1 HT g1 hwl
  go_wp2_with fail
  have CW1 := write_yes A1 _ 2 c1 w1 G1.out.sn rfl G1.out.ok t1_C
  change Calls _ _ _ _ (LWrQ w1 (textL [([97, 98, 99], [2]), ([33], [])])) at CW1
  rw [t2_W] at CW1
  refine CW1.mono ?_
  rintro e w2 ⟨x2, A2, c2, rfl, _, _, s2⟩
  rw [show T2.length = 7 from rfl]
  have Z2 := Lib.hid x2
  clear x2 CW1
  go_wp2_with fail
  refine (read_all (some ⟨w2.heap.size, 0, none⟩) [97, 0] 2 2 _ (seen_marked w2 _ [97, 0] 5 _ rfl) rfl (by omega) ⟨Nat.le_refl _, by unfold maxLen; omega⟩ (HT1.out.ext (Z2.out.trans ((Ext.refl _).alloc _)))).mono ?_
  rintro e w3 ⟨x3, A3, wl3, c3, rfl, _, _⟩
  rw [t3_R]
  have x23 : Ext w2 w3 := ((Ext.refl _).alloc _).trans x3
  have s2 := s2.ext x23
  have Z3 := Lib.hid (Z2.out.trans x23)
  clear x3 x23 Z2
  generalize wl3.length = n3 at *
  go_wp2_with fail
  refine (write_no none [] 0 0 w3 SeenC.nil rfl (fun x hx => by simp at hx) (by kernel_rfl)).mono ?_
  rintro e w4 ⟨rfl, x4⟩
  have s2 := s2.ext x4
  have Z4 := Lib.hid (Z3.out.trans x4)
  clear x4 Z3
  obtain ⟨⟨ad, hA, u0, u1⟩, i0, i1⟩ := (G1.out.ext Z4.out).sn.get (k := 0) (by simp)
  obtain ⟨⟨ad', hA', v0, v1⟩, j0, _⟩ := (G1.out.ext Z4.out).sn.get (k := 1) (by simp)
  subst hA
  cases hA'
  simp only [List.getElem_cons_zero, List.getElem_cons_succ, List.length_cons, List.length_nil, Nat.reduceAdd, Nat.zero_mul, Nat.one_mul, Addr.add_zero'] at u0 u1 v0 v1 i0 i1 j0
  rw [show ad.add 2 = ⟨ad.block, ad.off + 2, none⟩ from rfl] at v0
  have I0 := Lib.hid i0
  have I1 := Lib.hid i1
  have J0 := Lib.hid j0
  clear i0 i1 j0
  go_wp2_with fail
  refine (aw_same (B := w4.heap.size) (t := 3) 3 rfl (SeenL.ext I0.out ((Ext.refl w4).alloc _)) (Blk.lit w4 w4.heap.size 3 _ rfl) rfl (by decide)).mono ?_
  rintro e w5 ⟨rfl, x5⟩
  have x45 : Ext w4 w5 := ((Ext.refl _).alloc _).trans x5
  have s2 := s2.ext x45
  have u1 := x45.at u1
  have v0 := x45.at v0
  have Z5 := Lib.hid (Z4.out.trans x45)
  have I1 := Lib.hid (SeenL.ext I1.out x45)
  have J0 := Lib.hid (SeenL.ext J0.out x45)
  clear x45 x5 Z4 u0 v1 I0
  go_wp2_with fail
  refine (aw_same (B := w5.heap.size) (t := 3) 1 rfl (SeenL.ext I1.out ((Ext.refl w5).alloc _)) (Blk.lit w5 w5.heap.size 3 _ rfl) rfl (by decide)).mono ?_
  rintro e w6 ⟨rfl, x6⟩
  have x56 : Ext w5 w6 := ((Ext.refl _).alloc _).trans x6
  have s2 := s2.ext x56
  have v0 := x56.at v0
  have Z6 := Lib.hid (Z5.out.trans x56)
  have J0 := Lib.hid (SeenL.ext J0.out x56)
  clear x56 x6 Z5 u1 I1
  go_wp2_with fail
  refine (aw_same (B := w6.heap.size) (t := 3) 1 rfl (SeenL.ext J0.out ((Ext.refl w6).alloc _)) (Blk.lit w6 w6.heap.size 3 _ rfl) rfl (by decide)).mono ?_
  rintro e w7 ⟨rfl, x7⟩
  have x67 : Ext w6 w7 := ((Ext.refl _).alloc _).trans x7
  have s2 := s2.ext x67
  have Z7 := Lib.hid (Z6.out.trans x67)
  have hstr := SeenB.str (P := Tryd.prog) s2 22 9 5 c2 7 Tryd.underlying22 Tryd.underlying5 Tryd.underlying9 rfl
  have lit := (Blk.lit w7 w7.heap.size 5 #[.int .u8 97, .int .u8 98, .int .u8 194, .int .u8 173, .int .u8 99, .int .u8 32, .int .u8 33] rfl).seen (l := T2) rfl
  have hstr2 := SeenB.str (P := Tryd.prog) lit 22 9 5 7 7 Tryd.underlying22 Tryd.underlying5 Tryd.underlying9 rfl
  generalize (⟨T2.toArray⟩ : ByteArray) = st at *
  clear x67 x7 Z6 v0 J0 lit
  go_wp2_with fail
  have CK := check_any (some ad) _ 2 c1 _ (G1.out.ext (Z7.out.alloc (.cells #[.int .u8 97, .int .u8 98, .int .u8 194, .int .u8 173, .int .u8 99, .int .u8 32, .int .u8 33] 5))).sn rfl G1.out.ok
  change Calls _ _ _ _ (Ret _ (.bool (checkB [([97, 98, 99], [2]), ([33], [])]))) at CK
  rw [t1_C] at CK
  refine CK.mono ?_
  rintro e w8 ⟨rfl, x8⟩
  clear CK
  go_wp2_with fail
  refine (check_any none [] 0 0 w8 SeenC.nil rfl (fun x hx => by simp at hx)).mono ?_
  rintro e w9 ⟨rfl, x9⟩
  have hk : checkB (([] : List CW).map tw) = false := by kernel_rfl
  rw [hk]
  go_wp2_with fail
  go_ret
  exact ⟨rfl, ((X1.out.trans (Z7.out.alloc _)).trans x8).trans x9⟩
end L13
end Go.Proofs.YtbiklbomacjihaaDoor

