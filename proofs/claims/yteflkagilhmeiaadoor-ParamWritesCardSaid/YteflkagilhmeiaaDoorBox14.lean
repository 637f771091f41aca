/- A layout in a variable of its own. -/
import Derived.Test.YteflkagilhmeiaaDoorTurn14
import Derived.Lib.SlBytesConst
import Derived.Lib.QuietBelow
namespace Go.Proofs.YteflkagilhmeiaaDoor
open Go.RowKit
namespace L14

/-- A variable of a layout, new, with its value. -/
def boxW (w : World) (L : LayD) (A : Option Addr) (c : Nat) : World := (w.alloc (.cells #[.int .i64 0, .int .i64 0, .int .i64 0, .int .i64 0, .slice none 0 0, .int .i64 0, .int .i64 0, .int .i64 0, .int .i64 0, .int .i64 0, .int .i64 0, .int .i64 0, .int .i64 0, .int .i64 0, .int .i64 0, .int .i64 0, .int .i64 0, .int .i64 0, .int .i64 0, .int .i64 0, .int .i64 0] 24)).setCells w.heap.size 0 (layC L A c)
theorem boxW_ext (w : World) (L : LayD) (A : Option Addr) (c : Nat) : Ext w (boxW w L A c) := ext_setCells (Nat.le_refl _) _ _ _ ((Ext.refl _).alloc _)
theorem boxW_blk (w : World) (L : LayD) (A : Option Addr) (c : Nat) : Blk (boxW w L A c) w.heap.size 24 (layC L A c) := blk_setCells (cs := [.int .i64 0, .int .i64 0, .int .i64 0, .int .i64 0, .slice none 0 0, .int .i64 0, .int .i64 0, .int .i64 0, .int .i64 0, .int .i64 0, .int .i64 0, .int .i64 0, .int .i64 0, .int .i64 0, .int .i64 0, .int .i64 0, .int .i64 0, .int .i64 0, .int .i64 0, .int .i64 0, .int .i64 0]) (Blk.lit _ _ _ _ rfl) _ rfl
theorem boxW_there (w : World) : (w.alloc (.cells #[.int .i64 0, .int .i64 0, .int .i64 0, .int .i64 0, .slice none 0 0, .int .i64 0, .int .i64 0, .int .i64 0, .int .i64 0, .int .i64 0, .int .i64 0, .int .i64 0, .int .i64 0, .int .i64 0, .int .i64 0, .int .i64 0, .int .i64 0, .int .i64 0, .int .i64 0, .int .i64 0, .int .i64 0] 24)).there w.heap.size 0 21 :=
  Blk.there (Blk.lit w w.heap.size 24 #[.int .i64 0, .int .i64 0, .int .i64 0, .int .i64 0, .slice none 0 0, .int .i64 0, .int .i64 0, .int .i64 0, .int .i64 0, .int .i64 0, .int .i64 0, .int .i64 0, .int .i64 0, .int .i64 0, .int .i64 0, .int .i64 0, .int .i64 0, .int .i64 0, .int .i64 0, .int .i64 0, .int .i64 0] rfl)
/-- The value is stored where the variable was just made. -/
theorem wpList_boxW {ops : Array Oper} {rest : List Oper} {op : Oper} {a : Act} {W : World} {Q : Exit → Act → World → Prop} (hgd : op.guard = none) (x y : Operand) (ho : op.op = .store 24 x y)
    (w : World) (hW : W = w.alloc (.cells #[.int .i64 0, .int .i64 0, .int .i64 0, .int .i64 0, .slice none 0 0, .int .i64 0, .int .i64 0, .int .i64 0, .int .i64 0, .int .i64 0, .int .i64 0, .int .i64 0, .int .i64 0, .int .i64 0, .int .i64 0, .int .i64 0, .int .i64 0, .int .i64 0, .int .i64 0, .int .i64 0, .int .i64 0] 24)) (L : LayD) (A : Option Addr) (c : Nat) (hx : a.eval x = .pointer (some ⟨w.heap.size, 0, none⟩)) (hy : a.eval y = .agg (layC L A c).toArray)
    (h : wpList Tryd.prog ops Q rest (a.put op.dst undef) (boxW w L A c)) : wpList Tryd.prog ops Q (op :: rest) a W := by
  subst hW
  exact wpList_store_mid hgd 24 x y ho w.heap.size 0 (layC L A c).toArray hx hy (boxW_there w) lay_info (all_oneCell_toArray (layC_one _ _ _)) h
attribute [irreducible] boxW
/-- The value is loaded. -/
theorem wpList_getW {ops : Array Oper} {rest : List Oper} {op : Oper} {a : Act} {w : World} {Q : Exit → Act → World → Prop} (hw : Region.wanted op (yielded ops a.tmps) = true) (x : Operand) (ho : op.op = .load 24 x)
    (b : Nat) (hx : a.eval x = .pointer (some ⟨b, 0, none⟩)) {L : LayD} {A : Option Addr} {c : Nat} (k : Blk w b 24 (layC L A c))
    (h : wpList Tryd.prog ops Q rest (a.put op.dst (.agg (layC L A c).toArray)) w) : wpList Tryd.prog ops Q (op :: rest) a w :=
  wpList_load14 hw 24 x ho b hx (layC L A c) _ k.range Tryd.underlying24 rfl (by kernel_rfl) h

theorem seen_marked (w : World) (cs : Array Value) (l : List UInt8) (t : TypeId) (fr : Nat × Nat) (h : cs = (bv l).toArray) : SeenB (w.alloc (.cells cs t fr)) (some ⟨w.heap.size, 0, none⟩) l := fun k v hv => by
  have hk : k < (bv l).length := (List.getElem?_eq_some_iff.1 hv).1
  refine ⟨_, rfl, by simp, ?_⟩
  rw [show (⟨w.heap.size, 0, none⟩ : Addr).add k = ⟨w.heap.size, k, none⟩ by cases k <;> simp [Addr.add], World.cell?_alloc_mark, h]
  simpa using hv
theorem zero_ok : LayOk LZ 0 := ⟨fun _ => wide0, fun i h => absurd h (by show ¬ i < 0; omega), Nat.le_refl _, Nat.zero_le _⟩

/-- The texts that the statements begin with. -/
def T1 : List UInt8 := [119, 105, 100, 116, 104, 32, 49, 48, 48, 10, 115, 104, 97, 112, 101, 32, 51, 32, 53, 48, 10]
def T2 : List UInt8 := [119, 105, 100, 116, 104, 32, 49, 48, 48, 10, 119, 105, 100, 116, 104, 32, 49, 48, 48, 10]
def T3 : List UInt8 := [119, 105, 100, 116, 104, 32, 49, 48, 48]
def TW : List UInt8 := "width 100\nspace 0 0 0\nshape 3 50\nhang 0 0\nparts 0 0\nbad 0 0\nextra 0\npenalties 0 0 0\ndemerits 0 0 0 0 0\nloose 0\n".toUTF8.data.toList
def D1 : LayD := ⟨fun k => if k = 0 then 100 else 0, 1, fun _ => (3, 50)⟩
theorem i100 : Lib.itoa 100 = [49, 48, 48] := by simp [Lib.itoa, dec_big, dec_small]
theorem i50 : Lib.itoa 50 = [53, 48] := by simp [Lib.itoa, dec_big, dec_small]
theorem i3 : Lib.itoa 3 = [51] := by simp [Lib.itoa, dec_small]
theorem i0 : Lib.itoa 0 = [48] := by simp [Lib.itoa, dec_small]
theorem d1_wide (x : Nat × Nat) (i : Nat) : Wide (valD D1 x.1 x.2 i) := by
  unfold valD D1
  split
  · split
    · exact (⟨by decide, by decide⟩ : Wide 3)
    · exact (⟨by decide, by decide⟩ : Wide 50)
  · simp only
    split
    · exact (⟨by decide, by decide⟩ : Wide 100)
    · exact wide0
theorem d1_may : mayL D1 = true := by decide +kernel
theorem t1_text : [(0, 0), (2, 0)].flatMap (lineL D1) = T1 := by
  simp [lineL, D1, T1, nameL, cntK, valD, baseK, List.range_succ, i100, i50, i3]
theorem tw_text : textL D1 = TW := by
  have h : TW = [119, 105, 100, 116, 104, 32, 49, 48, 48, 10, 115, 112, 97, 99, 101, 32, 48, 32, 48, 32, 48, 10, 115, 104, 97, 112, 101, 32, 51, 32, 53, 48, 10, 104, 97, 110, 103, 32, 48, 32, 48, 10, 112, 97, 114, 116, 115, 32, 48, 32, 48, 10, 98, 97, 100, 32, 48, 32, 48, 10, 101, 120, 116, 114, 97, 32, 48, 10, 112, 101, 110, 97, 108, 116, 105, 101, 115, 32, 48, 32, 48, 32, 48, 10, 100, 101, 109, 101, 114, 105, 116, 115, 32, 48, 32, 48, 32, 48, 32, 48, 32, 48, 10, 108, 111, 111, 115, 101, 32, 48, 10] := by decide +kernel
  rw [h]
  simp [textL, seqN, lineL, D1, nameL, cntK, valD, baseK, List.range_succ, i100, i50, i3, i0]
theorem t1_parse : ∃ M, parseT T1 = some M ∧ LEq D1 M := by
  obtain ⟨M, h1, h2⟩ := parse_keys D1 [(0, 0), (2, 0)] (fun x _ i _ => d1_wide x i) (by decide +kernel) (by decide +kernel) (fun x hx => by
    have h : x = (0, 0) ∨ x = (2, 0) ∨ (x.1 < 10 ∧ x.1 ≠ 2 ∧ x.1 ≠ 0) := by
      rcases seq_of hx with ⟨a, b, c⟩ | ⟨a, b⟩
      · by_cases h0 : x.1 = 0
        · exact .inl (Prod.ext h0 c)
        · exact .inr (.inr ⟨a, b, h0⟩)
      · exact .inr (.inl (Prod.ext a (by have : x.2 < 1 := b; show x.2 = 0; omega)))
    rcases h with rfl | rfl | ⟨a, b, c⟩
    · exact .inl (by simp)
    · exact .inl (by simp)
    · refine .inr fun i hi => ?_
      have hb : baseK x.1 + i ≠ 0 := by
        have : x.1 = 1 ∨ x.1 = 3 ∨ x.1 = 4 ∨ x.1 = 5 ∨ x.1 = 6 ∨ x.1 = 7 ∨ x.1 = 8 ∨ x.1 = 9 := by omega
        rcases this with e | e | e | e | e | e | e | e <;> rw [e] <;> simp [baseK]
      rw [valD, valD, if_neg b, if_neg b]
      show (0 : Int) = if baseK x.1 + i = 0 then 100 else 0
      rw [if_neg hb])
  rw [t1_text, if_pos d1_may] at h1
  exact ⟨M, h1, h2⟩
theorem t2_parse : parseT T2 = none := by
  obtain ⟨M', h1, _⟩ := take_lines D1 [(0, 0)] L0 (fun _ => 0) (by decide +kernel) (fun x _ i _ => d1_wide x i)
  have e1 : lineL D1 (0, 0) = [119, 105, 100, 116, 104, 32, 49, 48, 48, 10] := by simp [lineL, D1, nameL, cntK, valD, baseK, List.range_succ, i100]
  have e : T2 = [(0, 0)].flatMap (lineL D1) ++ (bodyL D1 (0, 0) ++ 10 :: []) := by
    have := lineL_body D1 (0, 0)
    rw [← this]
    simp [e1, T2]
  have hf : ((bodyL D1 (0, 0) ++ 10 :: []) : List UInt8) ≠ [] := by simp
  have hc := cut_at (c := 10) [] (bodyL_free D1 (0, 0))
  have hn : nameJ ⟨(Lib.cut (bodyL D1 (0, 0)) [32]).1.toArray⟩ = some 0 := by
    have hb : bodyL D1 (0, 0) = nameL 0 ++ 32 :: [49, 48, 48] := by
      have h2 := (lineL_body D1 (0, 0)).symm.trans e1
      exact List.append_cancel_right (h2.trans (by rfl : _ = (nameL 0 ++ 32 :: [49, 48, 48]) ++ [10]))
    rw [hb, cut_at _ (name_free 0).1]
    exact nameJ_B 0 (by decide)
  have ht : takeT (T2.length + 1) L0 (fun _ => 0) T2 = none := by
    have hh := h1 20 (bodyL D1 (0, 0) ++ 10 :: [])
    rw [← e] at hh
    refine (show takeT (T2.length + 1) L0 (fun _ => 0) T2 = _ from hh).trans ?_
    exact takeT_none hf (by rw [hc]; exact stepT_full hn (by decide +kernel))
  rw [parseT, ht]
theorem t3_parse : parseT T3 = none := by
  have : takeT (T3.length + 1) L0 (fun _ => 0) T3 = none := takeT_bad (by simp [T3]) (by rw [cut_none (by decide)])
  rw [parseT, this]
end L14
end Go.Proofs.YteflkagilhmeiaaDoor

