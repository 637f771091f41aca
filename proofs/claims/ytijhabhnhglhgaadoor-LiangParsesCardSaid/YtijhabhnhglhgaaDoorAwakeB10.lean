/- What all statements of layer 10 begin with: it is so. -/
import Derived.Test.YtijhabhnhglhgaaDoorAwake10
import Derived.Lib.SlBytesConst
namespace Go.Proofs.YtijhabhnhglhgaaDoor
open Go.RowKit
namespace L10

theorem seen_marked (w : World) (cs : Array Value) (l : List UInt8) (t : TypeId) (fr : Nat × Nat) (h : cs = (bv l).toArray) : SeenB (w.alloc (.cells cs t fr)) (some ⟨w.heap.size, 0, none⟩) l := fun k v hv => by
  have hk : k < (bv l).length := (List.getElem?_eq_some_iff.1 hv).1
  refine ⟨_, rfl, by simp, ?_⟩
  rw [show (⟨w.heap.size, 0, none⟩ : Addr).add k = ⟨w.heap.size, k, none⟩ by cases k <;> simp [Addr.add], World.cell?_alloc_mark, h]
  simpa using hv

set_option maxRecDepth 100000 in
set_option maxHeartbeats 8000000 in
theorem awake_any (w : World) (hT : Tabs w) : Calls Tryd.prog 9 #[] w (Ret w (.bool true)) := by
  have HT := Lib.hid hT
  clear hT
  have kc := fun (w : World) (C : Array Value) (n c : Nat) => Lib.run_convert_bytes_const (P := Tryd.prog) w 22 5 C n c Tryd.underlying22 Tryd.underlying5
  go_enter Tryd.func9, Tryd.ntmps9
  go_wp2_with fail
  refine (aw_parse (some ⟨w.heap.size, 0, none⟩) 12 _ (seen_marked w _ T1 5 _ rfl) (HT.out.ext ((Ext.refl _).alloc _))).mono ?_
  rintro e w1 ⟨x1, a, ca, b, cb, A1, c1, A2, c2, rfl, g⟩
  have X1 := Lib.hid (((Ext.refl w).alloc _).trans x1)
  have HT1 := Lib.hid (HT.out.ext X1.out)
  clear x1 HT
  have SN := Lib.hid g
  clear g
  go_wp2_with fail
  have G2 := (SN.out.ext ((Ext.refl w1).alloc (.cells #[.slice a 1 ca, .slice b 1 cb] 27)))
  refine (aw_write G2).mono ?_
  rintro e w2 ⟨x2, A3, c3, rfl, s3⟩
  have kP : Blk w2 w1.heap.size 27 [.slice a 1 ca, .slice b 1 cb] := (Blk.lit _ _ _ _ rfl).ext x2
  have Z2 := Lib.hid (((Ext.refl w1).alloc _).trans x2)
  clear x2 G2
  generalize w1.heap.size = B at *
  go_wp2_with fail
  refine (aw_none (some ⟨w2.heap.size, 0, none⟩) 2 _ (seen_marked w2 _ [97, 45] 5 _ rfl) (HT1.out.ext (Z2.out.trans ((Ext.refl _).alloc _)))).mono ?_
  rintro e w3 ⟨x3, a3, ca3, b3, cb3, rfl⟩
  have x23 : Ext w2 w3 := ((Ext.refl _).alloc _).trans x3
  have kP := kP.ext x23
  have s3 := s3.ext x23
  have Z3 := Lib.hid (Z2.out.trans x23)
  clear x3 x23 Z2
  go_wp2_with fail
  refine (aw_writeno (B := w3.heap.size + 1) (t := 42) (Blk.lit _ _ _ _ (by simp))).mono ?_
  rintro e w4 ⟨x4, A4, c4, rfl⟩
  have x34 : Ext w3 w4 := (((Ext.refl _).alloc _).alloc _).trans x4
  have kP := kP.ext x34
  have s3 := s3.ext x34
  have Z4 := Lib.hid (Z3.out.trans x34)
  have q0 : w4.cell? ⟨B, 0, none⟩ = some (.slice a 1 ca) := kP.cell 0
  have q1 : w4.cell? ⟨B, 1, none⟩ = some (.slice b 1 cb) := kP.cell 1
  obtain ⟨⟨ad, hA, e0, e1⟩, i1⟩ := ((SN.out.ext Z4.out).sn.l).get (k := 0) Nat.zero_lt_one
  obtain ⟨⟨be, hB, f0, f1⟩, i2⟩ := ((SN.out.ext Z4.out).sn.m).get (k := 0) Nat.zero_lt_one
  dsimp only at hA hB
  subst hA hB
  simp only [awD, List.getElem_cons_zero, List.length_cons, List.length_nil, Nat.reduceAdd, Nat.zero_mul, Addr.add_zero'] at e0 e1 f0 f1 i1 i2
  have I1 := Lib.hid i1
  have I2 := Lib.hid i2
  clear x34 x4 i1 i2 Z3
  have lb := kP.lt
  go_wp2_with fail
  refine (aw_same (B := w4.heap.size) (t := 3) 4 rfl (SeenL.ext I1.out ((Ext.refl w4).alloc _)) (Blk.lit w4 w4.heap.size 3 _ rfl) rfl (by decide)).mono ?_
  rintro e w5 ⟨rfl, x5⟩
  have x45 : Ext w4 w5 := ((Ext.refl _).alloc _).trans x5
  have kP := kP.ext x45
  have s3 := s3.ext x45
  have f0 := x45.at f0
  have f1 := x45.at f1
  have q0 := x45.at q0
  have q1 := x45.at q1
  have Z5 := Lib.hid (Z4.out.trans x45)
  have I2 := Lib.hid (SeenL.ext I2.out x45)
  clear x45 x5 Z4
  go_wp2_with fail
  refine (aw_same (B := w5.heap.size) (t := 3) 1 rfl (SeenL.ext I2.out ((Ext.refl w5).alloc _)) (Blk.lit w5 w5.heap.size 3 _ rfl) rfl (by decide)).mono ?_
  rintro e w6 ⟨rfl, x6⟩
  have x56 : Ext w5 w6 := ((Ext.refl _).alloc _).trans x6
  have kP := kP.ext x56
  have s3 := s3.ext x56
  have q0 := x56.at q0
  have q1 := x56.at q1
  have Z6 := Lib.hid (Z5.out.trans x56)
  have hstr := SeenB.str (P := Tryd.prog) s3 22 9 5 c3 12 Tryd.underlying22 Tryd.underlying5 Tryd.underlying9 rfl
  rw [show T2 = [46, 97, 49, 98, 10, 116, 97, 45, 98, 108, 101, 10] from rfl] at hstr
  clear x56 x6 Z5
  go_wp2_with fail
  refine (aw_check (SN.out.ext Z6.out)).mono ?_
  rintro e w7 ⟨rfl, x7⟩
  go_wp2_with fail
  refine (aw_checkno (B := w7.heap.size) (t := 45) (Blk.lit _ _ _ _ rfl)).mono ?_
  rintro e w8 ⟨rfl, x8⟩
  go_wp2_with fail
  go_ret
  exact ⟨rfl, ((X1.out.trans Z6.out).trans x7).trans (((Ext.refl _).alloc _).trans x8)⟩
end L10
end Go.Proofs.YtijhabhnhglhgaaDoor

