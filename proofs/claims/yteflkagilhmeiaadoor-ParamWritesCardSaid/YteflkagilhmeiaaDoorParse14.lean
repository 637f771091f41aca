/- The landed Parse of layouts. -/
import Derived.Test.YteflkagilhmeiaaDoorTakeA14
import Derived.Test.YteflkagilhmeiaaDoorWr14
namespace Go.Proofs.YteflkagilhmeiaaDoor
open Go.RowKit
namespace L14

/-- A load of a struct, guarded or not. -/
theorem wpList_load14 {P : Program} {ops : Array Oper} {rest : List Oper} {op : Oper} {a : Act} {w : World} {Q : Exit → Act → World → Prop} (hw : Region.wanted op (yielded ops a.tmps) = true) (ty : TypeId) (x : Operand) (ho : op.op = .load ty x)
    (b : Nat) (hx : a.eval x = .pointer (some ⟨b, 0, none⟩)) (cs : List Value) (d : TypeDesc) (hc : w.rangeAt b 0 cs)
    (hu : P.underlying ty = some d) (hd : d.isRow = true) (hi : (P.info? ty).map (·.size) = some cs.length)
    (h : wpList P ops Q rest (a.put op.dst (.agg cs.toArray)) w) : wpList P ops Q (op :: rest) a w := by
  unfold wpList
  rw [if_pos hw]
  exact Or.inl (wp_load_mid ty x ho b 0 hx cs d hc hu hd hi h)
/-- The layout of a text. -/
def parseT (l : List UInt8) : Option LayD := match takeT (l.length + 1) L0 (fun _ => 0) l with
  | none => none
  | some (L, tk) => if mayL ⟨L.v, tk 2, L.sh⟩ = true then some ⟨L.v, tk 2, L.sh⟩ else none
def LZ : LayD := ⟨fun _ => 0, 0, fun _ => (0, 0)⟩
/-- What Parse answers. -/
def ParseQ (w : World) (r : Option LayD) (e : Ending) (w' : World) : Prop := ∃ (L : LayD) (A : Option Addr) (c : Nat) (z : Int), e = .returned (.tuple #[.agg (layC L A c).toArray, .int .i64 z]) ∧ LayOk L c ∧ SeenP w' A L.n L.sh ∧ Ext w w' ∧ (∀ ad, A = some ad → w.heap.size ≤ ad.block) ∧ match r with
  | none => z = 140 ∧ L = LZ
  | some L' => z = 0 ∧ L = L'

set_option maxRecDepth 100000 in
set_option maxHeartbeats 8000000 in
theorem parse_any (A0 : Option Addr) (l : List UInt8) (n c0 : Nat) (w : World) (hs : SeenB w A0 l) (hn : n = l.length) (hl : n ≤ 800000) (hc : n ≤ c0) (hH : Home w) : Calls Tryd.prog 12 #[.slice A0 n c0] w (ParseQ w (parseT l)) := by
  subst hn
  obtain ⟨WA, hWA⟩ : ∃ WA, WA = w.alloc (.cells #[.int .i64 0, .int .i64 0, .int .i64 0, .int .i64 0, .slice none 0 0, .int .i64 0, .int .i64 0, .int .i64 0, .int .i64 0, .int .i64 0, .int .i64 0, .int .i64 0, .int .i64 0, .int .i64 0, .int .i64 0, .int .i64 0, .int .i64 0, .int .i64 0, .int .i64 0, .int .i64 0, .int .i64 0] 24) := ⟨_, rfl⟩
  have xA : Ext w WA := by rw [hWA]; exact (Ext.refl _).alloc _
  have k2 : Blk WA w.heap.size 24 [.int .i64 0, .int .i64 0, .int .i64 0, .int .i64 0, .slice none 0 0, .int .i64 0, .int .i64 0, .int .i64 0, .int .i64 0, .int .i64 0, .int .i64 0, .int .i64 0, .int .i64 0, .int .i64 0, .int .i64 0, .int .i64 0, .int .i64 0, .int .i64 0, .int .i64 0, .int .i64 0, .int .i64 0] := by rw [hWA]; exact Blk.lit _ _ _ _ rfl
  have CV := (hs.ext xA).str (P := Tryd.prog) 26 9 5 c0 l.length Tryd.underlying26 Tryd.underlying5 Tryd.underlying9 rfl
  have TQ := Lib.hid (take_any ⟨l.toArray⟩ WA (by show l.toArray.size ≤ _; rw [List.size_toArray]; omega) (hH.ext xA))
  rw [show (⟨l.toArray⟩ : ByteArray).data.toList = l from rfl] at TQ
  have K2 := Lib.hid k2
  have XA := Lib.hid xA
  have HH := Lib.hid hH
  clear hs k2 xA hH
  generalize hln : l.length = ln at *
  have HLN := Lib.hid hln
  clear hln
  generalize hr2 : w.heap.size = r2 at *
  go_enter Tryd.func12, Tryd.ntmps12
  go_upto_region 1 with (fail)
  rw [← hWA]
  clear hWA
  go_wp2_with fail
  refine TQ.out.mono ?_
  rintro e w1 ⟨L, A, c, r, rfl, ok, sn, hnew, x1, hm⟩
  obtain ⟨WB, hWB⟩ : ∃ WB, WB = w1.alloc (.cells #[.int .i64 0, .int .i64 0, .int .i64 0, .int .i64 0, .slice none 0 0, .int .i64 0, .int .i64 0, .int .i64 0, .int .i64 0, .int .i64 0, .int .i64 0, .int .i64 0, .int .i64 0, .int .i64 0, .int .i64 0, .int .i64 0, .int .i64 0, .int .i64 0, .int .i64 0, .int .i64 0, .int .i64 0] 24) := ⟨_, rfl⟩
  have xb : Ext w1 WB := by rw [hWB]; exact (Ext.refl _).alloc _
  have TH : Hid (WB.there w1.heap.size 0 21) := by rw [hWB]; exact Blk.there (Blk.lit w1 w1.heap.size 24 #[.int .i64 0, .int .i64 0, .int .i64 0, .int .i64 0, .slice none 0 0, .int .i64 0, .int .i64 0, .int .i64 0, .int .i64 0, .int .i64 0, .int .i64 0, .int .i64 0, .int .i64 0, .int .i64 0, .int .i64 0, .int .i64 0, .int .i64 0, .int .i64 0, .int .i64 0, .int .i64 0, .int .i64 0] rfl)
  have hlt := (K2.out.ext x1).lt
  obtain ⟨W6, hW6⟩ : ∃ W6, W6 = WB.setCells w1.heap.size 0 (layC L A c) := ⟨_, rfl⟩
  have K6 : Hid (Blk W6 r2 24 [.int .i64 0, .int .i64 0, .int .i64 0, .int .i64 0, .slice none 0 0, .int .i64 0, .int .i64 0, .int .i64 0, .int .i64 0, .int .i64 0, .int .i64 0, .int .i64 0, .int .i64 0, .int .i64 0, .int .i64 0, .int .i64 0, .int .i64 0, .int .i64 0, .int .i64 0, .int .i64 0, .int .i64 0]) := by rw [hW6]; exact blk_setFar (by omega) _ _ _ (K2.out.ext (x1.trans xb))
  have KB : Hid (Blk W6 w1.heap.size 24 (layC L A c)) := by
    rw [hW6]; exact blk_setCells (cs := [.int .i64 0, .int .i64 0, .int .i64 0, .int .i64 0, .slice none 0 0, .int .i64 0, .int .i64 0, .int .i64 0, .int .i64 0, .int .i64 0, .int .i64 0, .int .i64 0, .int .i64 0, .int .i64 0, .int .i64 0, .int .i64 0, .int .i64 0, .int .i64 0, .int .i64 0, .int .i64 0, .int .i64 0]) (by rw [hWB]; exact Blk.lit _ _ _ _ rfl) _ rfl
  have x16 : Ext w1 W6 := by rw [hW6]; exact ext_setCells (Nat.le_refl _) _ _ _ xb
  have X6 := Lib.hid (XA.out.trans (x1.trans x16))
  have SN6 := Lib.hid (sn.ext x16)
  have OK := Lib.hid ok
  have TH6 : Hid (W6.there r2 0 21) := K6.out.there
  have NEW0 := Lib.hid (show ∀ ad, A = some ad → r2 < ad.block from fun ad e => by have := hnew ad e; have := K2.out.lt; omega)
  clear xb x1 x16 ok sn TQ K2 XA CV
  go_upto_region 2 with (refine wpList_store_mid rfl 24 _ _ rfl w1.heap.size 0 _ rfl rfl (hWB ▸ TH.out) lay_info (all_oneCell_toArray (layC_one _ _ _)) ?_)
  rw [← hWB]
  have e6 : WB.setCells w1.heap.size 0 (layC L A c) = W6 := hW6.symm
  simp only [e6]
  clear hWB hW6 e6 TH
  generalize w1.heap.size = b4 at *
  cases htt : takeT (l.length + 1) L0 (fun _ => 0) l with
  | none =>
    rw [htt] at hm
    have NO := Lib.hid (show parseT l = none by rw [parseT, htt])
    have hre : r.toList.isEmpty = false := by
      rw [ByteArray.toList_eq]
      cases hq : r.data.toList with
      | nil => exact absurd (by simpa using congrArg List.length hq) hm
      | cons _ _ => rfl
    rw [NO.out]
    clear htt hm
    go_wp2_with ((refine wpList_store_mid rfl 24 _ _ rfl r2 0 _ rfl rfl (TH6.out) lay_info (all_oneCell_toArray (layC_one LZ none 0)) ?_))
    refine bodyPost_ret (results_box_tmp rfl _ _ r2 (layC LZ none 0) (.int .i64 140) rfl rfl (Blk.range (blk_setCells K6.out _ rfl)) (by kernel_rfl) (by kernel_rfl)) rfl ?_
    exact ⟨LZ, none, 0, 140, rfl, ⟨fun _ => wide0, fun i h => absurd h (by show ¬ i < 0; omega), Nat.le_refl _, Nat.zero_le _⟩, SeenP.nil, ext_setCells (by omega) _ _ _ X6.out, (fun ad e => by cases e), by rw [NO.out]; exact ⟨rfl, rfl⟩⟩
  | some p =>
    obtain ⟨L1, tk⟩ := p
    rw [htt] at hm
    obtain ⟨rfl, hL, _⟩ := hm
    have CK := Lib.hid (check_any L A c W6 OK.out SN6.out (HH.out.ext X6.out))
    cases hmay : mayL L with
    | false =>
      have NO := Lib.hid (show parseT l = none by rw [parseT, htt]; show (if mayL _ = true then _ else _) = _; rw [← hL, hmay]; rfl)
      rw [hmay] at CK
      rw [NO.out]
      clear htt hL
      go_wp2_with (refine wpList_load14 (by kernel_rfl) 24 _ rfl b4 rfl (layC L A c) _ (KB.out.range) Tryd.underlying24 rfl (by kernel_rfl) ?_)
      refine CK.out.mono ?_
      rintro e w9 ⟨rfl, x9⟩
      have K6 := Lib.hid (K6.out.ext x9)
      have TH6 : Hid (w9.there r2 0 21) := K6.out.there
      have X6 := Lib.hid (X6.out.trans x9)
      clear CK SN6 KB
      go_wp2_with ((refine wpList_store_mid rfl 24 _ _ rfl r2 0 _ rfl rfl (TH6.out) lay_info (all_oneCell_toArray (layC_one LZ none 0)) ?_))
      refine bodyPost_ret (results_box_tmp rfl _ _ r2 (layC LZ none 0) (.int .i64 140) rfl rfl (Blk.range (blk_setCells K6.out _ rfl)) (by kernel_rfl) (by kernel_rfl)) rfl ?_
      exact ⟨LZ, none, 0, 140, rfl, ⟨fun _ => wide0, fun i h => absurd h (by show ¬ i < 0; omega), Nat.le_refl _, Nat.zero_le _⟩, SeenP.nil, ext_setCells (by omega) _ _ _ X6.out, (fun ad e => by cases e), by rw [NO.out]; exact ⟨rfl, rfl⟩⟩
    | true =>
      have YES := Lib.hid (show parseT l = some L by rw [parseT, htt]; show (if mayL _ = true then _ else _) = _; rw [← hL, hmay]; rfl)
      rw [hmay] at CK
      rw [YES.out]
      clear htt hL
      go_wp2_with (refine wpList_load14 (by kernel_rfl) 24 _ rfl b4 rfl (layC L A c) _ (KB.out.range) Tryd.underlying24 rfl (by kernel_rfl) ?_)
      refine CK.out.mono ?_
      rintro e w9 ⟨rfl, x9⟩
      have K6 := Lib.hid (K6.out.ext x9)
      have KB := Lib.hid (KB.out.ext x9)
      have TH6 : Hid (w9.there r2 0 21) := K6.out.there
      have X6 := Lib.hid (X6.out.trans x9)
      have SN6 := Lib.hid (SN6.out.ext x9)
      clear CK
      go_wp2_with (first | (refine wpList_store_mid rfl 24 _ _ rfl r2 0 _ rfl rfl (TH6.out) lay_info (all_oneCell_toArray (layC_one _ _ _)) ?_) | (refine wpList_load14 (by kernel_rfl) 24 _ rfl b4 rfl (layC L A c) _ (KB.out.range) Tryd.underlying24 rfl (by kernel_rfl) ?_))
      refine bodyPost_ret (results_box_tmp rfl _ _ r2 (layC L A c) (.int .i64 0) rfl rfl (Blk.range (blk_setCells K6.out _ rfl)) (by kernel_rfl) (by kernel_rfl)) rfl ?_
      exact ⟨L, A, c, 0, rfl, OK.out, seenP_sets (fun ad e => Nat.ne_of_lt (NEW0.out ad e)) _ _ _ SN6.out, ext_setCells (by omega) _ _ _ X6.out, (fun ad e => by have := NEW0.out ad e; omega), by rw [YES.out]; exact ⟨rfl, rfl⟩⟩
end L14
end Go.Proofs.YteflkagilhmeiaaDoor

