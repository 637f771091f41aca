/- The landed put of layer 11. The landed build of layer 11. The landed raise of layer 11. A trie, made or not, and what asking it leaves: layer 11's Nodes. The landed wordMayBe of layer 11. The landed Values of layer 11. What changes is at a few places alone: cells elsewhere stay. Any program. The landed New of layer 11: what it keeps; slices.Clone. -/
import Derived.Test.YtmmgmcfhlhghoaaGreatDoorGB16
import Derived.Test.YtmmgmcfhlhghoaaGreatDoorGC16
import Derived.Lib.LazyBuf
import Derived.Deep.RegionHeld3
import Derived.Test.YtmmgmcfhlhghoaaGreatDoorGA16
import Derived.RangeFuncBox
import Derived.Maps.AppendAt
import Derived.Below
namespace Go.Proofs.YtmmgmcfhlhghoaaGreatDoor
open Go.RowKit
open Go.Lib hiding intOf
namespace L11
open L10 (TN plainB patB tn)

theorem RowsAt.addTo {w : World} {bv n : Nat} {ns : List (List UInt8)} {p : List TN} {G : List UInt8 → Nat} (h : RowsAt w bv n ns p G) (hk : ∀ q, q ∈ keysL p → q ∈ ns) (l : List UInt8) : ∀ k, RowsAt w bv n (addTo ns l k) p G
  | 0 => h
  | k + 1 => by
    have ih := RowsAt.addTo h hk l k
    rw [L11.addTo, addQ]
    split
    · exact ih
    · rename_i hn
      exact ih.grow (fun hq => hn (mem_addTo.2 (.inl (hk _ hq))))
theorem RowsAt.keepB {S : Nat → Prop} {w w' : World} {bv n : Nat} {ns : List (List UInt8)} {p : List TN} {G : List UInt8 → Nat} (h : RowsAt w bv n ns p G) (x : But S w w') (hb : ¬ S bv) (hS : ∀ q, q ∈ keysL p → ¬ S (G q)) : RowsAt w' bv n ns p G :=
  h.keep (x.block bv h.lt hb) (fun q hq => x.block _ (h.row q hq).lt (hS q hq))
/-- make([]int, m). -/
theorem make_blk (n : Nat) (hn : n ≤ 1000000) : ∃ cs : Array Value, (∀ w, (Instr.makeSlice 48 (.int .i64 n) (.int .i64 n)).run Tryz.prog w = .ok (.slice (some ⟨w.heap.size, 0, none⟩) n n) (w.alloc (.cells cs 3))) ∧ cs.toList = (List.range n).map fun _ => .int .i64 0 := by
  obtain ⟨i, h1, h2, h3, h4⟩ := info_parts (show (Tryz.prog.info? 3).map (fun i => (i.zero, i.size, i.bytes)) = some (some (.int .i64 0), 1, 8) by kernel_rfl)
  refine ⟨_, fun w => run_make w 48 3 i _ Tryz.underlying48 h1 h2 .i64 .i64 n n (by omega) (Int.le_refl _) (by rw [h4]; omega) (by omega), ?_⟩
  apply List.ext_getElem
  · simp [madeCells, h3, Value.cells]
  · intro j hj1 hj2
    simp [madeCells, h3, Value.cells, Nat.mod_one]
theorem valF_over (p : List TN) (l : List UInt8) (n : Nat) (vs : List Int) (q : List UInt8) (k : Nat) : valF ((p ++ [(l, List.replicate n 0)]) ++ [(l, vs)]) q k = valF (p ++ [(l, vs)]) q k := by
  refine eq_of_le fun m => ?_
  rw [valF_le, valF_le]
  simp only [List.mem_append, List.mem_singleton]
  constructor
  · rintro ⟨h0, h1⟩
    exact ⟨h0, fun x hx e => h1 x (hx.elim (fun h => .inl (.inl h)) .inr) e⟩
  · rintro ⟨h0, h1⟩
    refine ⟨h0, fun x hx e => ?_⟩
    rcases hx with (hx | hx) | hx
    · exact h1 x (.inl hx) e
    · rw [hx]
      by_cases hk : k < n
      · simpa [List.getD, hk] using h0
      · simpa [List.getD, hk] using h0
    · exact h1 x (.inr hx) e
/-- A new row of noughts, and the map's new entry. -/
theorem put_new (W : World) (bv n2 : Nat) (ns : List (List UInt8)) (p : List TN) (G : List UInt8 → Nat) (l : List UInt8) (cs : Array Value) (m : Nat) (kr : RowsAt W bv n2 ns p G) (N : Nds ns) (hq : l ∈ ns) (hin : l ∉ keysL p) (hn : n2 < 1000000) (hl : ns.length < 1000000) (hm : l.length + 1 = m)
    (hcs : cs.toList = (List.range m).map fun _ => .int .i64 0) :
    ∃ w5, (Instr.mapUpdate 75 (.map (some bv)) (.int .i64 (num ns l)) (.slice (some ⟨W.heap.size, 0, none⟩) m m)).run Tryz.prog (W.alloc (.cells cs 3)) = .ok () w5 ∧
      RowsAt w5 bv (n2 + 1) ns (p ++ [(l, List.replicate m 0)]) (fun r => if r = l then W.heap.size else G r) ∧ But (Only bv) W w5 ∧ W.heap.size < w5.heap.size := by
  have hg : Blk (W.alloc (.cells cs 3)) W.heap.size 3 ((List.range (l.length + 1)).map fun _ => .int .i64 0) := by
    have := Blk.new W 3 cs
    rw [hcs] at this
    rw [hm]; exact this
  have x : Ext W (W.alloc (.cells cs 3)) := (Ext.refl W).alloc _
  obtain ⟨w5, h1, h2, h3⟩ := (kr.keep (x.block _ kr.lt) (fun q hq => x.block _ (kr.row q hq).lt)).new N hq hin hn hl hg (fun r hr => by have := (kr.row r hr).lt; omega)
  rw [hm] at h1 h2
  refine ⟨w5, h1, h2, (But.of_ext x).trans (But.of_grown (S := Only bv) h3 (fun g hg => by cases hg; rfl)) (fun i hi => .inl hi), ?_⟩
  have := h3.size
  have e : (W.alloc (.cells cs 3)).heap.size = W.heap.size + 1 := by simp
  omega
theorem take_at {s : ByteArray} {k : Nat} (h : k < s.size) : s.data.toList.take (k + 1) = s.data.toList.take k ++ [s[k]] := by
  rw [List.take_succ_eq_append_getElem (by simpa using h)]; rfl
theorem list_size (s : ByteArray) : s.data.toList.length = s.size := by simp
theorem RowsAt.mono {w : World} {bv n m : Nat} {ns : List (List UInt8)} {p : List TN} {G : List UInt8 → Nat} (h : RowsAt w bv n ns p G) (hn : n ≤ m) : RowsAt w bv m ns p G := by
  obtain ⟨⟨x, hm, q⟩, hr, hi⟩ := h
  exact ⟨⟨x, hm.mono hn, q⟩, hr, hi⟩
/-- A row that lift has lifted. -/
theorem RowsAt.lifted {w w' : World} {bv n m : Nat} {ns : List (List UInt8)} {p : List TN} {G : List UInt8 → Nat} (h : RowsAt w bv n ns p G) (l : List UInt8) (vs : List Int) (hx : l ∈ keysL p) (hm : l.length + 1 = m) (hb : But (Only (G l)) w w')
    (hg : Blk w' (G l) 3 (rowI m (liftF (valF p l) 0 m (fun j => vs.getD j 0)))) : RowsAt w' bv n ns (p ++ [(l, vs)]) G := by
  refine h.lift (l, vs) hx hb ?_
  show Blk w' (G l) 3 (rowI (l.length + 1) (fun k => max (valF p l k) (vs.getD k 0)))
  rw [hm, rowI_congr (g := liftF (valF p l) 0 m (fun j => vs.getD j 0))]
  · exact hg
  · intro j hj
    unfold liftF
    rw [if_pos (by omega), Nat.sub_zero]
/-- What put may change. -/
def putS (B bs bv : Nat) (p : List TN) (G : List UInt8 → Nat) (k : Nat) : Prop := k = B ∨ k = bs ∨ k = bv ∨ ∃ q, q ∈ keysL p ∧ k = G q
/-- What put leaves. -/
def PutQ (w : World) (B bs bv n n2 : Nat) (vl : Value) (d st : Int) (ns : List (List UInt8)) (p : List TN) (x : TN) (G : List UInt8 → Nat) (e : Ending) (w' : World) : Prop :=
  e = .returned (.tuple #[]) ∧ But (putS B bs bv p G) w w' ∧ Blk w' B 77 (trieC vl d st ns.length bs bv) ∧ StepsAt w' bs n ns ∧
    ∃ G', RowsAt w' bv n2 ns (p ++ [x]) G' ∧ (∀ q, q ∈ keysL p → G' q = G q) ∧ ∀ q, q ∈ keysL (p ++ [x]) → q ∉ keysL p → w.heap.size ≤ G' q

set_option maxRecDepth 100000 in
set_option maxHeartbeats 8000000 in
theorem put_any (B bs bv n n2 : Nat) (vl : Value) (d st : Int) (ns : List (List UInt8)) (p : List TN) (G : List UInt8 → Nat) (x : WP) (w : World) (N : Nds ns) (hk : ∀ q, q ∈ keysL p → q ∈ ns) (kb : Blk w B 77 (trieC vl d st ns.length bs bv))
    (ks : StepsAt w bs n ns) (kr : RowsAt w bv n2 ns p G) (hx : patB (tn x) = true) (sn : SeenL w x.A x.ns) (hA : ∀ ad, x.A = some ad → ¬ putS B bs bv p G ad.block) (hbb : bs ≠ bv) (hn : n < 800000) (hn2 : n2 < 800000) (hl : ns.length < 800000) :
    Calls Tryz.prog 101 #[.pointer (some ⟨B, 0, none⟩), wpV x] w (PutQ w B bs bv (n + x.s.size) (n2 + 1) vl d st (addTo ns x.s.data.toList x.s.size) p (tn x) G) := by
  obtain ⟨s, vs, A, c⟩ := x
  dsimp only at sn hA ⊢
  have hpl : 1 ≤ s.size ∧ s.size ≤ 42 := by have := L10.pat_len hx; simpa [tn] using this
  have hvl : vs.length = s.size + 1 := by have := (L10.pat_vals hx).1; simpa [tn] using this
  obtain ⟨V, hV⟩ : ∃ V, V = w.alloc (.cells #[.string s, .slice A vs.length c] 56) := ⟨_, rfl⟩
  have W0 : Ext w V := by rw [hV]; exact (Ext.refl _).alloc _
  have kP : Blk V w.heap.size 56 [.string s, .slice A vs.length c] := by rw [hV]; exact Blk.lit _ _ _ _ rfl
  have hRB : w.heap.size ≠ B := by have := kb.lt; omega
  have hRs : w.heap.size ≠ bs := by have := ks.lt; omega
  have hBs : B ≠ bs := ks.not_block kb
  have HX := Lib.hid W0
  have KB := Lib.hid (kb.ext W0)
  have KS := Lib.hid (ks.ext W0)
  have KR := Lib.hid (show RowsAt V bv n2 ns p G from kr.keep (W0.block _ kr.lt) (fun q hq => W0.block _ (kr.row q hq).lt))
  have SN := Lib.hid (sn.ext W0)
  have KP := Lib.hid kP
  have HL := Lib.hid (num_nil N)
  have HVL := Lib.hid hvl
  have HK := Lib.hid hk
  have HPX := Lib.hid hx
  have HAH := Lib.hid hA
  have HSZ := Lib.hid (show V.heap.size = w.heap.size + 1 by rw [hV]; simp)
  have LTR := Lib.hid (show bs < w.heap.size ∧ bv < w.heap.size ∧ B < w.heap.size ∧ ∀ q, q ∈ keysL p → G q < w.heap.size from ⟨ks.lt, kr.lt, kb.lt, fun q hq => (kr.row q hq).lt⟩)
  have HNB := Lib.hid (show B ≠ bv ∧ (∀ q, q ∈ keysL p → G q ≠ bs ∧ G q ≠ bv ∧ G q ≠ B) from ⟨kr.not_block kb, fun q hq => ⟨ks.not_block (kr.row q hq), kr.not_block (kr.row q hq), fun e => by have h1 := kr.row q hq; rw [e] at h1; exact blk_not h1 kb (by decide) rfl⟩⟩)
  unfold wpV
  dsimp only
  generalize hm : vs.length = m at *
  have HM := Lib.hid hm
  clear kb ks kr sn kP W0 hk hx hvl hA hm
  go_enter Tryz.func101, Tryz.ntmps101
  go_upto_region 1 with (fail)
  rw [← hV]
  clear hV
  generalize hR : w.heap.size = R at *
  have HRW := Lib.hid hR
  clear hR
  have p0 : V.cell? ⟨R, 0, none⟩ = some (.string s) := KP.out.cell 0
  go_wp2_with fail
  go_loopw [4, 9] (fun at' i wr => ∃ k : Nat, k ≤ s.size ∧ i = .int .i64 k ∧ at' = .int .i64 (num (addTo ns s.data.toList k) (s.data.toList.take k)) ∧ Hid (But (fun j => j = B ∨ j = bs) V wr ∧ Blk wr B 77 (trieC vl d st (addTo ns s.data.toList k).length bs bv) ∧ StepsAt wr bs (n + k) (addTo ns s.data.toList k))) (fun _ i _ => s.size - (intOf i).toNat)
  case atStart => exact ⟨0, Nat.zero_le _, rfl, (by rw [show num (addTo ns s.data.toList 0) (s.data.toList.take 0) = 1 from HL.out]), ⟨But.refl _ _, KB.out, KS.out⟩⟩
  case round =>
    obtain ⟨k, hk, rfl, rfl, hh⟩ := hrel
    have HB := Lib.hid hh.out.1
    have p0 : wr.cell? ⟨R, 0, none⟩ = some (.string s) := HB.out.at p0 (by show ¬ (R = B ∨ R = bs); omega)
    have p1 : wr.cell? ⟨R, 1, none⟩ = some (.slice A m c) := HB.out.at (KP.out.cell 1) (by show ¬ (R = B ∨ R = bs); omega)
    have hal := addTo_length ns s.data.toList k
    have N2 := N.addTo s.data.toList k (by rw [list_size]; omega)
    by_cases hlt : k < s.size
    · have GR := Lib.hid (grow_any B bs bv (n + k) vl d st (addTo ns s.data.toList k) (s.data.toList.take k) s[k] wr N2 (take_mem_addTo N _ _) hh.out.2.1 hh.out.2.2 (by omega) (by omega))
      have E1 := Lib.hid (show addQ (addTo ns s.data.toList k) (s.data.toList.take k ++ [s[k]]) = addTo ns s.data.toList (k + 1) ∧ s.data.toList.take k ++ [s[k]] = s.data.toList.take (k + 1) by rw [addTo, take_at hlt]; exact ⟨rfl, rfl⟩)
      clear hh hal N2
      generalize hz : num (addTo ns s.data.toList k) (s.data.toList.take k) = a at *
      clear hz
      go_wp2_with fail
      refine GR.out.mono ?_; rintro e w2 ⟨rfl, b2, k2, s2⟩
      rw [E1.out.1, E1.out.2]
      rw [E1.out.1] at k2 s2
      have HH := Lib.hid (show But (fun j => j = B ∨ j = bs) V w2 ∧ Blk w2 B 77 (trieC vl d st (addTo ns s.data.toList (k + 1)).length bs bv) ∧ StepsAt w2 bs (n + (k + 1)) (addTo ns s.data.toList (k + 1)) from ⟨HB.out.trans b2 (fun i hi => .inl hi), k2, by rw [show n + (k + 1) = n + k + 1 by omega]; exact s2⟩)
      clear b2 k2 s2 GR E1 HB
      go_wp2_with fail
      go_roundw
      case rel => exact ⟨k + 1, by omega, by go_num, rfl, HH⟩
      case measure => simp [intOf]; omega
    · obtain rfl : k = s.size := by omega
      have hh := hh.out
      have hlen := list_size s
      have htk : s.data.toList.take s.size = s.data.toList := List.take_of_length_le (by omega)
      have hmem : s.data.toList ∈ addTo ns s.data.toList s.size := by have := take_mem_addTo N s.data.toList s.size; rwa [htk] at this
      have hb2 := HB.out
      have ⟨l1, l2, l3, l4⟩ := LTR.out
      have ⟨hBv, hGG⟩ := HNB.out
      have kr2 : RowsAt wr bv n2 (addTo ns s.data.toList s.size) p G := (RowsAt.addTo KR.out HK.out _ _).keepB hb2 (by show ¬ (bv = B ∨ bv = bs); omega) (fun q hq => by have := hGG q hq; show ¬ (G q = B ∨ G q = bs); omega)
      have q6 : wr.cell? ⟨B, 6, none⟩ = some (.map (some bv)) := hh.2.1.cell 6
      have hnr : 1 ≤ num (addTo ns s.data.toList s.size) s.data.toList ∧ num (addTo ns s.data.toList s.size) s.data.toList ≤ 9223372036854775807 := ⟨num_pos _ _, by have := num_le hmem; omega⟩
      have so2 : SeenL wr A vs := fun j v hv => by
        obtain ⟨ad, e, hbk, hc⟩ := SN.out j v hv
        refine ⟨ad, e, Nat.lt_of_lt_of_le hbk hb2.size, hb2.at hc (fun hh => HAH.out ad e ?_)⟩
        rw [addr_block] at hh
        exact hh.elim .inl (fun h => .inr (.inl h))
      have b1 : But (putS B bs bv p G) w wr := (But.of_ext HX.out).trans (hb2.mono (T := fun i => i = B ∨ i = bs) (fun i _ hi => hi)) (fun i hi => .inl (hi.elim .inl (fun h => .inr (.inl h))))
      have FIN := Lib.hid (show But (putS B bs bv p G) w wr ∧ Blk wr B 77 (trieC vl d st (addTo ns s.data.toList s.size).length bs bv) ∧ StepsAt wr bs (n + s.size) (addTo ns s.data.toList s.size) from ⟨b1, hh.2.1, hh.2.2⟩)
      have SO2 := Lib.hid so2
      have KR2 := Lib.hid kr2
      have HMEM := Lib.hid hmem
      have HSZ2 := Lib.hid (show R ≤ wr.heap.size by have := hb2.size; have := HSZ.out; omega)
      rw [htk]
      have LK1 := kr2.look (num (addTo ns s.data.toList s.size) s.data.toList) ⟨by omega, hnr.2⟩
      have LK2 : (Instr.lookup 75 (.map (some bv)) (.int .i64 (num (addTo ns s.data.toList s.size) s.data.toList)) false).run Tryz.prog wr.drew = .ok (rowV (valN (addTo ns s.data.toList s.size) (keysL p) G (num (addTo ns s.data.toList s.size) s.data.toList))) wr.drew :=
        (kr2.keep (w' := wr.drew) rfl (fun _ _ => rfl)).look _ ⟨by omega, hnr.2⟩
      rw [valN_num hmem] at LK1 LK2
      have hml : s.data.toList.length + 1 = m := by rw [hlen]; exact HVL.out.symm
      rw [hml] at LK1 LK2
      have HML := Lib.hid hml
      have HDEF := Lib.hid (show num (addTo ns s.data.toList s.size) s.data.toList = num (addTo ns s.data.toList s.size) s.data.toList from rfl)
      generalize hz : num (addTo ns s.data.toList s.size) s.data.toList = a at *
      have HZ := Lib.hid hz
      clear kr2 so2 hmem hnr hml hlen htk b1 hh hal N2 hz HDEF hb2 l1 l2 l3 l4 hBv hGG
      by_cases hin : s.data.toList ∈ keysL p
      · rw [if_pos hin] at LK1 LK2
        simp only [rowV] at LK1 LK2
        have HIN := Lib.hid hin
        have HG := Lib.hid ((KR2.out.row _ hin))
        generalize hg : G s.data.toList = g at *
        have HGE := Lib.hid hg
        have heq := fun W => Go.run_eql_slice_nil (P := Tryz.prog) W 48 3 (some ⟨g, 0, none⟩) m m Tryz.underlying48
        simp only [Option.isNone_some] at heq
        clear hin hg
        have LF := Lib.hid (lift_any g 0 m m m (valF p s.data.toList) A m c (fun j => vs.getD j 0) wr.drew (by have := HG.out; rw [rowL, HML.out] at this; exact this) (by have := SO2.out.fn; rw [HM.out] at this; exact this.ext ((Ext.refl wr).drew)) (fun _ ad e hb => HAH.out ad e (.inr (.inr (.inr ⟨_, HIN.out, by rw [HGE.out]; exact hb⟩)))) (Nat.le_refl _) (by omega) (by have := HVL.out; omega))
        go_wp2_with fail
        go_still_tail 8, (by kernel_rfl)
        change wpList _ _ _ _ _ wr.drew
        go_wp2_with fail
        refine LF.out.mono ?_; rintro e w3 ⟨rfl, b3, k3⟩
        go_wp2_with fail
        go_end0
        obtain ⟨f1, f2, f3⟩ := FIN.out
        obtain ⟨hBv, hGG⟩ := HNB.out
        have hgg := hGG _ HIN.out
        rw [HGE.out] at hgg
        have b4 : But (Only g) wr w3 := ((But.refl (Only g) wr).drew).trans b3 (fun i hi => .inl hi)
        refine ⟨rfl, f1.trans b4 (fun i hi => .inl (.inr (.inr (.inr ⟨_, HIN.out, by rw [HGE.out]; exact hi⟩)))), b4.blk f2 (fun e => hgg.2.2 e.symm), f3.keepB b4 (fun e => hgg.1 e.symm), G, ?_, fun _ _ => rfl, fun q hq hn => ?_⟩
        · exact ((KR2.out.keep (w' := wr.drew) rfl (fun _ _ => rfl)).lifted s.data.toList vs HIN.out HML.out (by rw [HGE.out]; exact b3) (by rw [HGE.out]; exact k3)).mono (by omega)
        · rcases (keysL_snoc _ _ _).1 hq with h | h
          · exact absurd h hn
          · rw [h] at hn; exact absurd HIN.out hn
      · rw [if_neg hin] at LK1 LK2
        simp only [rowV] at LK1 LK2
        have HIN := Lib.hid hin
        have heq := fun W => Go.run_eql_slice_nil (P := Tryz.prog) W 48 3 none 0 0 Tryz.underlying48
        simp only [Option.isNone_none] at heq
        clear hin
        obtain ⟨cs, MK, RW⟩ := make_blk m (by have := HVL.out; omega)
        have E7 : Ext wr wr.drew := (Ext.refl wr).drew
        have KR7 := Lib.hid (KR2.out.keep (w' := wr.drew) rfl (fun _ _ => rfl))
        have FIN7 := Lib.hid (show But (putS B bs bv p G) w wr.drew ∧ Blk wr.drew B 77 (trieC vl d st (addTo ns s.data.toList s.size).length bs bv) ∧ StepsAt wr.drew bs (n + s.size) (addTo ns s.data.toList s.size) from ⟨FIN.out.1.drew, FIN.out.2.1.ext E7, FIN.out.2.2.ext E7⟩)
        have SO7 := Lib.hid (SO2.out.ext E7)
        have HSZ7 := Lib.hid (show R ≤ wr.drew.heap.size from HSZ2.out)
        have p1b : wr.drew.cell? ⟨R, 1, none⟩ = some (.slice A m c) := p1
        have q6b : wr.drew.cell? ⟨B, 6, none⟩ = some (.map (some bv)) := q6
        have E7 := Lib.hid E7
        go_wp2_with fail
        clear LK1 LK2
        refine wp_region_noPanic ?_
        refine wp_region_held_drew (S := (fun w' => w'.cell? ⟨R, 1, none⟩ = some (.slice A m c) ∧ w'.cell? ⟨B, 6, none⟩ = some (.map (some bv)))) (by kernel_rfl) ⟨p1b, q6b⟩ (fun h0 => ?_)
        generalize wr.drew = W7 at *
        have NEW := Lib.hid (show _ from put_new W7 bv n2 (addTo ns s.data.toList s.size) p G s.data.toList cs m KR7.out (N.addTo s.data.toList s.size (by rw [list_size]; omega)) HMEM.out HIN.out (by omega) (by have := addTo_length ns s.data.toList s.size; omega) HML.out RW)
        clear p1b q6b p0 p1 q6
        refine wpAnyH_take (i := 0) (oi := ?_) (v := ?_) ?_ (by kernel_rfl) (by kernel_rfl) (by kernel_rfl) ?_ ?_ h0 ?_
        rotate_left 2
        · simp only [List.getElem?_toArray, List.getElem?_cons_zero]; rfl
        · exact fun _ _ _ h => h
        · refine Or.inl ⟨by rfl, ?_⟩
          intro w hSw
          (try dsimp only at hSw)
          go_simp
          (try with_reducible rfl)
        (try simp only [Act.put, List.setIfInBounds_toArray, List.set_cons_zero, List.set_cons_succ])
        refine wpAnyH_take (i := 1) (oi := ?_) (v := ?_) ?_ (by kernel_rfl) (by kernel_rfl) (by kernel_rfl) ?_ ?_ h0 ?_
        rotate_left 2
        · simp only [List.getElem?_toArray, List.getElem?_cons_zero, List.getElem?_cons_succ]; rfl
        · exact fun _ _ _ h => h
        · refine Or.inl ⟨by rfl, ?_⟩
          intro w hSw
          (try dsimp only at hSw)
          go_simp
          (try with_reducible rfl)
        (try simp only [Act.put, List.setIfInBounds_toArray, List.set_cons_zero, List.set_cons_succ])
        refine wpAnyH_take (i := 2) (oi := ?_) (v := ?_) ?_ (by kernel_rfl) (by kernel_rfl) (by kernel_rfl) ?_ ?_ h0 ?_
        rotate_left 2
        · simp only [List.getElem?_toArray, List.getElem?_cons_zero, List.getElem?_cons_succ]; rfl
        · exact fun _ _ _ h => h
        · refine Or.inl ⟨by rfl, ?_⟩
          intro w hSw
          (try dsimp only at hSw)
          go_simp
          (try with_reducible rfl)
        (try simp only [Act.put, List.setIfInBounds_toArray, List.set_cons_zero, List.set_cons_succ])
        refine wpAnyH_take (i := 3) (oi := ?_) (v := ?_) ?_ (by kernel_rfl) (by kernel_rfl) (by kernel_rfl) ?_ ?_ h0 ?_
        rotate_left 2
        · simp only [List.getElem?_toArray, List.getElem?_cons_zero, List.getElem?_cons_succ]; rfl
        · exact fun _ _ _ h => h
        · refine Or.inl ⟨by rfl, ?_⟩
          intro w hSw
          (try dsimp only at hSw)
          go_simp
          (try with_reducible rfl)
        (try simp only [Act.put, List.setIfInBounds_toArray, List.set_cons_zero, List.set_cons_succ])
        refine wpAnyH_take (i := 4) (oi := ?_) (v := ?_) ?_ (by kernel_rfl) (by kernel_rfl) (by kernel_rfl) ?_ ?_ h0 ?_
        rotate_left 2
        · simp only [List.getElem?_toArray, List.getElem?_cons_zero, List.getElem?_cons_succ]; rfl
        · exact fun _ _ _ h => h
        · refine Or.inl ⟨by rfl, ?_⟩
          intro w hSw
          (try dsimp only at hSw)
          go_simp
          (try with_reducible rfl)
        (try simp only [Act.put, List.setIfInBounds_toArray, List.set_cons_zero, List.set_cons_succ])
        refine wpAnyH_take (i := 5) (oi := ?_) (v := ?_) ?_ (by kernel_rfl) (by kernel_rfl) (by kernel_rfl) ?_ ?_ h0 ?_
        rotate_left 2
        · simp only [List.getElem?_toArray, List.getElem?_cons_zero, List.getElem?_cons_succ]; rfl
        · exact fun _ _ _ h => h
        · refine Or.inl ⟨by rfl, ?_⟩
          intro w hSw
          (try dsimp only at hSw)
          go_simp
          (try with_reducible rfl)
        (try simp only [Act.put, List.setIfInBounds_toArray, List.set_cons_zero, List.set_cons_succ])
        refine wpAnyH_take (i := 6) (oi := ?_) (v := ?_) ?_ (by kernel_rfl) (by kernel_rfl) (by kernel_rfl) ?_ ?_ h0 ?_
        rotate_left 2
        · simp only [List.getElem?_toArray, List.getElem?_cons_zero, List.getElem?_cons_succ]; rfl
        · exact fun _ _ _ h => h
        · refine Or.inl ⟨by rfl, ?_⟩
          intro w hSw
          (try dsimp only at hSw)
          go_simp
          (try with_reducible rfl)
        (try simp only [Act.put, List.setIfInBounds_toArray, List.set_cons_zero, List.set_cons_succ])
        refine wpAnyH_take (i := 7) (oi := ?_) (v := ?_) ?_ (by kernel_rfl) (by kernel_rfl) (by kernel_rfl) ?_ ?_ h0 ?_
        rotate_left 2
        · simp only [List.getElem?_toArray, List.getElem?_cons_zero, List.getElem?_cons_succ]; rfl
        · exact fun _ _ _ h => h
        · refine Or.inl ⟨by rfl, ?_⟩
          intro w hSw
          (try dsimp only at hSw)
          go_simp
          (try with_reducible rfl)
        (try simp only [Act.put, List.setIfInBounds_toArray, List.set_cons_zero, List.set_cons_succ])
        refine wpAnyH_ready (rs := [8]) (by kernel_rfl) (by simp) ?_
        refine AllReadyH.cons (o := ?_) ?_ (fun K hK => ?_) AllReadyH.nil
        rotate_left
        · simp only [List.getElem?_toArray, List.getElem?_cons_zero, List.getElem?_cons_succ]; rfl
        go_simp
        refine hK.out _ _ (⟨((Ext.refl W7).alloc _).at h0.1, ((Ext.refl W7).alloc _).at h0.2⟩) (fun h1 => ?_)
        clear hK K
        (try simp only [Act.put, List.setIfInBounds_toArray, List.set_cons_zero, List.set_cons_succ])
        obtain ⟨w5, hst, kr5, b5, lt5⟩ := NEW.out
        rw [HZ.out] at hst
        have hBv := HNB.out.1
        have hRv := LTR.out.2.1
        have c1 : w5.cell? ⟨R, 1, none⟩ = some (.slice A m c) := b5.at h0.1 (by show ¬ R = bv; omega)
        have c6 : w5.cell? ⟨B, 6, none⟩ = some (.map (some bv)) := b5.at h0.2 (by show ¬ B = bv; omega)
        have KR5 := Lib.hid kr5
        have B5 := Lib.hid b5
        have LT5 := Lib.hid lt5
        clear NEW kr5 b5 lt5 hBv hRv
        refine wpAnyH_ready (rs := [9]) (by kernel_rfl) (by simp) ?_
        refine AllReadyH.cons (o := ?_) ?_ (fun K hK => ?_) AllReadyH.nil
        rotate_left
        · simp only [List.getElem?_toArray, List.getElem?_cons_zero, List.getElem?_cons_succ]; rfl
        go_simp
        refine hK.out _ _ (⟨c1, c6⟩) (fun h2 => ?_)
        clear hK K
        (try simp only [Act.put, List.setIfInBounds_toArray, List.set_cons_zero, List.set_cons_succ])
        refine wpAnyH_done (by kernel_rfl) ?_ _
        refine NoPanic.normal ?_
        clear h0 h1 h2 MK hst
        have hin2 : s.data.toList ∈ keysL (p ++ [(s.data.toList, List.replicate m 0)]) := (keysL_snoc _ _ _).2 (.inr rfl)
        have hna := num_pos (addTo ns s.data.toList s.size) s.data.toList
        have hnb := num_le HMEM.out
        have hnc := addTo_length ns s.data.toList s.size
        have hval : valN (addTo ns s.data.toList s.size) (keysL (p ++ [(s.data.toList, List.replicate m 0)])) (fun r => if r = s.data.toList then W7.heap.size else G r) a = some (W7.heap.size, m) := by
          rw [← HZ.out, valN_num HMEM.out, if_pos hin2, if_pos rfl, HML.out]
        rw [HZ.out] at hna hnb
        have LK1 := KR5.out.look a ⟨by omega, by omega⟩
        have LK2 := (KR5.out.keep (w' := w5.drew) rfl (fun _ _ => rfl)).look a ⟨by omega, by omega⟩
        rw [hval] at LK1 LK2
        simp only [rowV] at LK1 LK2
        have HG := Lib.hid (show Blk w5 W7.heap.size 3 (rowI m (valF (p ++ [(s.data.toList, List.replicate m 0)]) s.data.toList)) by
          have := KR5.out.row _ hin2
          rw [rowL, HML.out, if_pos rfl] at this
          exact this)
        have HRL := Lib.hid (show R ≤ W7.heap.size from HSZ7.out)
        have HAL := Lib.hid (show ∀ ad, A = some ad → m ≠ 0 → ad.block ≠ W7.heap.size from fun ad e h => by
          have h0 : 0 < vs.length := by rw [HM.out]; omega
          obtain ⟨ad', e', hb, _⟩ := SO7.out 0 (.int .i64 vs[0]) (by simp [h0])
          rw [e] at e'
          cases e'
          omega)
        have HIN2 := Lib.hid hin2
        have HGG := Lib.hid (show ∀ q, q ∈ keysL p → G q ≠ W7.heap.size from fun q hq => by have := LTR.out.2.2.2 q hq; have := HSZ7.out; omega)
        have HAP := Lib.hid (show B ≠ W7.heap.size ∧ bs ≠ W7.heap.size ∧ bv ≠ W7.heap.size by have := LTR.out; have := HSZ7.out; omega)
        clear hna hnb hnc hval hin2
        generalize hg : W7.heap.size = g at *
        clear hg
        have LF := Lib.hid (lift_any g 0 m m m (valF (p ++ [(s.data.toList, List.replicate m 0)]) s.data.toList) A m c (fun j => vs.getD j 0) w5.drew (HG.out.ext ((Ext.refl w5).drew)) (by
          have h3 : SeenL w5 A vs := fun j v hv => by
            obtain ⟨ad, e, hbk, hc⟩ := SO7.out j v hv
            exact ⟨ad, e, Nat.lt_of_lt_of_le hbk B5.out.size, B5.out.at hc (fun hh => HAH.out ad e (.inr (.inr (.inl (by rw [addr_block] at hh; exact hh)))))⟩
          have := h3.fn; rw [HM.out] at this; exact this.ext ((Ext.refl w5).drew)) (fun h ad e => HAL.out ad e h) (Nat.le_refl _) (by omega) (by have := HVL.out; omega))
        go_wp2_with fail
        go_still_tail 8, (by kernel_rfl)
        change wpList _ _ _ _ _ w5.drew
        go_wp2_with fail
        refine LF.out.mono ?_; rintro e w3 ⟨rfl, b3, k3⟩
        go_wp2_with fail
        go_end0
        obtain ⟨f1, f2, f3⟩ := FIN7.out
        have b4 : But (Only g) w5 w3 := ((But.refl (Only g) w5).drew).trans b3 (fun i hi => .inl hi)
        obtain ⟨a1, a2, a3⟩ := HAP.out
        have hBv := HNB.out.1
        refine ⟨rfl, (f1.trans B5.out (fun i hi => .inl (.inr (.inr (.inl hi))))).trans b4 (fun i hi => .inr (by rw [HRW.out]; have := HRL.out; rw [show i = g from hi]; exact this)), b4.blk (B5.out.blk f2 hBv) a1, (f3.keepB B5.out hbb).keepB b4 a2,
          (fun r => if r = s.data.toList then g else G r), ?_, fun q hq => if_neg (fun e => HIN.out (by rw [← e]; exact hq)), fun q hq hn => ?_⟩
        · have hl := (KR5.out.keep (w' := w5.drew) rfl (fun _ _ => rfl)).lifted s.data.toList vs HIN2.out HML.out (w' := w3) (by rw [if_pos rfl]; exact b3) (by rw [if_pos rfl]; exact k3)
          refine hl.congr (fun q => ?_) (fun q k _ => (valF_over p s.data.toList m vs q k).symm)
          simp only [keysL_snoc, tn, or_assoc, or_self]
        · rcases (keysL_snoc _ _ _).1 hq with h | h
          · exact absurd h hn
          · rw [HRW.out]
            show R ≤ if q = s.data.toList then g else G q
            rw [if_pos (show q = s.data.toList from h)]
            exact HRL.out
end L11
end Go.Proofs.YtmmgmcfhlhghoaaGreatDoor

namespace Go.Proofs.YtmmgmcfhlhghoaaGreatDoor
open Go.RowKit
open Go.Lib hiding intOf
namespace L11
open L10 (TN plainB patB tn)

theorem size_set (w : World) (p : Addr) (u : Value) : (w.setCell p u).heap.size = w.heap.size := by simp [World.setCell]
theorem seenL_keep {S : Nat → Prop} {w w' : World} {A : Option Addr} {vs : List Int} (h : SeenL w A vs) (x : But S w w') (hA : vs ≠ [] → ∀ ad, A = some ad → ¬ S ad.block) : SeenL w' A vs := fun j v hv => by
  obtain ⟨ad, e, hb, hc⟩ := h j v hv
  refine ⟨ad, e, Nat.lt_of_lt_of_le hb x.size, x.at hc ?_⟩
  rw [addr_block]
  exact hA (by rintro rfl; simp at hv) ad e
theorem seenL_lt {w : World} {A : Option Addr} {vs : List Int} (h : SeenL w A vs) (hv : 0 < vs.length) {ad : Addr} (e : A = some ad) : ad.block < w.heap.size := by
  obtain ⟨ad', e', hb, _⟩ := h 0 (.int .i64 vs[0]) (by simp [hv])
  rw [e] at e'
  cases e'
  exact hb
/-- A trie that is made, of the patterns p; d, st: its Once. -/
structure MadeAt (w : World) (B bs bv : Nat) (d st : Int) (p : List TN) (G : List UInt8 → Nat) : Prop where
  box : Blk w B 77 (trieC (.slice none 0 0) d st (nodesL p).length bs bv)
  steps : StepsAt w bs 100000 (nodesL p)
  rows : RowsAt w bv 100000 (nodesL p) p G
  ne : bs ≠ bv
/-- Its pieces' blocks. -/
def pieces (bs bv : Nat) (p : List TN) (G : List UInt8 → Nat) (k : Nat) : Prop := k = bs ∨ k = bv ∨ ∃ q, q ∈ keysL p ∧ k = G q
def BuildQ (w : World) (B : Nat) (p : List TN) (w' : World) : Prop := But (Only B) w w' ∧ ∃ bs bv G, MadeAt w' B bs bv 0 1 p G ∧ ∀ k, pieces bs bv p G k → w.heap.size ≤ k
def BuildE (w : World) (B : Nat) (p : List TN) (e : Ending) (w' : World) : Prop := e = .returned (.tuple #[]) ∧ BuildQ w B p w'
theorem keys_nodes {p : List TN} {q : List UInt8} (h : q ∈ keysL p) : q ∈ nodesL p := by
  obtain ⟨x, hx, rfl⟩ := List.mem_map.1 h
  exact mem_nodes.2 (.inr ⟨x, hx, List.prefix_refl _⟩)
theorem sumLen_le {p : List TN} (h : ∀ x ∈ p, patB x = true) : sumLen p ≤ 42 * p.length := by
  unfold sumLen
  induction p with
  | nil => simp
  | cons x p ih =>
    have h1 := (L10.pat_len (h x (by simp))).2
    have h2 := ih (fun y hy => h y (by simp [hy]))
    simp only [List.map_cons, List.sum_cons, List.length_cons]
    omega

set_option maxRecDepth 100000 in
set_option maxHeartbeats 8000000 in
theorem build_any (B : Nat) (LA : Option Addr) (lc : Nat) (l : List WP) (w : World) (kb : Blk w B 77 [.slice LA l.length lc, .int .u32 0, .int .i32 1, .int .u32 0, .int .i64 0, .map none, .map none]) (sl : SeenW w LA l)
    (hp : ∀ x ∈ l, patB (tn x) = true) (hLA : l ≠ [] → ∀ ad, LA = some ad → ad.block ≠ B) (hx : ∀ x ∈ l, ∀ ad, x.A = some ad → ad.block ≠ B) (hn : l.length ≤ 300) :
    Calls Tryz.prog 77 #[.pointer (some ⟨B, 0, none⟩)] w (BuildE w B (l.map tn)) := by
  have BL := kb.lt
  have ST := Lib.hid (store64_any ⟨B, 4, none⟩ (.int .i64 0) 1 w (kb.cell 4) (kb.free 4))
  have KB := Lib.hid kb
  have SL := Lib.hid sl
  have HP := Lib.hid hp
  have HLA := Lib.hid hLA
  have HX := Lib.hid hx
  obtain ⟨n, hnl⟩ : ∃ n, n = l.length := ⟨_, rfl⟩
  have HN := Lib.hid hnl
  rw [← hnl] at hn
  clear kb sl hp hLA hx hnl
  go_enter Tryz.func77, Tryz.ntmps77
  go_wp2_with fail
  refine ST.out.mono ?_; rintro e w1 ⟨rfl, hw1⟩
  have b1 : But (Only B) w w1 := by rw [hw1]; exact But.set (S := Only B) w ⟨B, 4, none⟩ _ rfl
  have kb1 : Blk w1 B 77 [.slice LA n lc, .int .u32 0, .int .i32 1, .int .u32 0, .int .i64 1, .map none, .map none] := by rw [hw1, HN.out]; exact KB.out.set 4 _
  have BL1 : B < w1.heap.size := kb1.lt
  have c5 : w1.cell? ⟨B, 5, none⟩ = some (.map none) := kb1.cell 5
  have z5 : w1.frozen? ⟨B, 5, none⟩ = false := kb1.free 5
  have B1 := Lib.hid b1
  have KB1 := Lib.hid kb1
  clear hw1 b1 kb1 ST KB
  have hmm := @run_makeMap Tryz.prog
  have hne1 : ¬ w1.heap.size = B := by omega
  go_upto_region 2 with (fail)
  obtain ⟨w2, hw2⟩ : ∃ w2, w2 = (w1.setCell ⟨B, 5, none⟩ (.map (some w1.heap.size))).alloc (.map #[] 0) := ⟨_, rfl⟩
  rw [← hw2]
  have b2 : But (Only B) w1 w2 := by rw [hw2]; exact (But.set (S := Only B) w1 ⟨B, 5, none⟩ _ rfl).trans (But.alloc (S := Only B) _ (.map #[] 0)) (fun i hi => .inl hi)
  have kb2 : Blk w2 B 77 [.slice LA n lc, .int .u32 0, .int .i32 1, .int .u32 0, .int .i64 1, .map (some w1.heap.size), .map none] := by rw [hw2]; exact (KB1.out.set 5 (.map (some w1.heap.size))).ext ((Ext.refl _).alloc (.map #[] 0))
  have st2 : StepsAt w2 w1.heap.size 0 [[]] := by
    have h1 := StepsAt.made (w1.setCell ⟨B, 5, none⟩ (.map (some w1.heap.size)))
    rw [← hw2, size_set] at h1
    exact h1
  have BL2 : B < w2.heap.size := kb2.lt
  have hsz2 : w1.heap.size < w2.heap.size := st2.lt
  have B2 := Lib.hid (B1.out.trans b2 (fun i hi => .inl hi))
  have KB2 := Lib.hid kb2
  have ST2 := Lib.hid st2
  have c6 : w2.cell? ⟨B, 6, none⟩ = some (.map none) := kb2.cell 6
  have z6 : w2.frozen? ⟨B, 6, none⟩ = false := kb2.free 6
  have HS1 := Lib.hid (show w.heap.size ≤ w1.heap.size from B1.out.size)
  clear hw2 b2 kb2 st2 c5 z5 B1 KB1 BL1
  generalize hbs : w1.heap.size = bs at *
  clear hbs
  have hne2 : ¬ w2.heap.size = B := by omega
  go_upto_region 3 with (fail)
  obtain ⟨w3, hw3⟩ : ∃ w3, w3 = (w2.setCell ⟨B, 6, none⟩ (.map (some w2.heap.size))).alloc (.map #[] 0) := ⟨_, rfl⟩
  rw [← hw3]
  have b3 : But (Only B) w2 w3 := by rw [hw3]; exact (But.set (S := Only B) w2 ⟨B, 6, none⟩ _ rfl).trans (But.alloc (S := Only B) _ (.map #[] 0)) (fun i hi => .inl hi)
  have kb3 : Blk w3 B 77 [.slice LA n lc, .int .u32 0, .int .i32 1, .int .u32 0, .int .i64 1, .map (some bs), .map (some w2.heap.size)] := by rw [hw3]; exact (KB2.out.set 6 (.map (some w2.heap.size))).ext ((Ext.refl _).alloc (.map #[] 0))
  have rw3 : RowsAt w3 w2.heap.size 0 [[]] [] (fun _ => 0) := by
    have h1 := RowsAt.made (w2.setCell ⟨B, 6, none⟩ (.map (some w2.heap.size))) (fun _ => 0)
    rw [← hw3, size_set] at h1
    exact h1
  have st3 : StepsAt w3 bs 0 [[]] := ST2.out.keepB b3 (by show ¬ bs = B; exact hne1)
  have hB3 : But (Only B) w w3 := B2.out.trans b3 (fun i hi => .inl hi)
  have hBs2 : w.heap.size ≤ w2.heap.size := B2.out.size
  have HIN := Lib.hid (show bs ≠ w2.heap.size ∧ B ≠ bs ∧ B ≠ w2.heap.size ∧ w.heap.size ≤ bs ∧ w.heap.size ≤ w2.heap.size ∧ B < w.heap.size from ⟨by omega, fun e => hne1 e.symm, fun e => hne2 e.symm, HS1.out, hBs2, BL⟩)
  have c0 : w3.cell? ⟨B, 0, none⟩ = some (.slice LA n lc) := kb3.cell 0
  have START := Lib.hid (show But (Only B) w w3 ∧ Blk w3 B 77 (trieC (.slice LA n lc) 0 1 (nodesL []).length bs w2.heap.size) ∧ StepsAt w3 bs 0 (nodesL []) ∧ RowsAt w3 w2.heap.size 0 (nodesL []) [] (fun _ => 0) from ⟨hB3, kb3, st3, rw3⟩)
  clear hw3 b3 kb3 rw3 st3 hB3 hBs2 c6 z6 hmm B2 KB2 ST2 BL2 hsz2 HS1 hne1 hne2
  generalize hbv : w2.heap.size = bv at *
  clear hbv
  go_wp2_with fail
  go_loopw [21] (fun i wr => ∃ k : Nat, k ≤ n ∧ i = .int .i64 k ∧ Hid (But (Only B) w wr ∧ Blk wr B 77 (trieC (.slice LA n lc) 0 1 (nodesL ((l.take k).map tn)).length bs bv) ∧ StepsAt wr bs (42 * k) (nodesL ((l.take k).map tn)) ∧ ∃ G, RowsAt wr bv k (nodesL ((l.take k).map tn)) ((l.take k).map tn) G ∧ ∀ q, q ∈ keysL ((l.take k).map tn) → w.heap.size ≤ G q)) (fun i _ => n - (intOf i).toNat)
  case atStart => exact ⟨0, Nat.zero_le _, rfl, ⟨START.out.1, START.out.2.1, START.out.2.2.1, _, START.out.2.2.2, fun q hq => by simp [keysL] at hq⟩⟩
  case round =>
    obtain ⟨k, hk, rfl, hh⟩ := hrel
    by_cases hlt : k < n
    · have hlt' : k < l.length := by rw [← HN.out]; exact hlt
      obtain ⟨hbut, hbox, hst, G, hrow, hG⟩ := hh.out
      obtain ⟨⟨ad, rfl, a0, a1⟩, sx⟩ := SL.out.get hlt'
      have hxm : l[k] ∈ l := List.getElem_mem hlt'
      have hpx := HP.out _ hxm
      have hax := HX.out _ hxm
      have hLne : ad.block ≠ B := HLA.out (by rintro h; rw [h] at hlt'; simp at hlt') ad rfl
      have a0 := hbut.at a0 (by rw [addr_block]; exact hLne)
      have a1 := hbut.at a1 (by show ¬ (ad.add (k * 2)).block = B; rw [addr_block]; exact hLne)
      have hlen : (nodesL ((l.take k).map tn)).length ≤ 1 + 42 * k := by
        have h1 := (nodes_length ((l.take k).map tn)).2
        have h2 := sumLen_le (p := (l.take k).map tn) (fun x hx => by
          obtain ⟨y, hy, rfl⟩ := List.mem_map.1 hx
          exact HP.out y (List.mem_of_mem_take hy))
        simp only [List.length_map, List.length_take] at h2
        omega
      have hvpos : 0 < l[k].ns.length := by
        have := (L10.pat_vals hpx).1
        simp only [tn] at this
        omega
      have hsz : l[k].s.size ≤ 42 := by have := (L10.pat_len hpx).2; simpa [tn] using this
      have hin := HIN.out
      have hab : ∀ ad', l[k].A = some ad' → ¬ putS B bs bv ((l.take k).map tn) G ad'.block := fun ad' e h => by
        have h1 := seenL_lt sx hvpos e
        have h2 := hax ad' e
        rcases h with h | h | h | ⟨q, hq, h⟩
        · exact h2 h
        · omega
        · omega
        · have := hG q hq; omega
      have sxr : SeenL wr l[k].A l[k].ns := seenL_keep sx hbut (fun _ ad' e h => hax ad' e h)
      have PUT := Lib.hid (fun w' (x : Ext wr w') => put_any B bs bv (42 * k) k (.slice (some ad) n lc) 0 1 (nodesL ((l.take k).map tn)) ((l.take k).map tn) G l[k] w' (nds_nodes _) (fun q hq => keys_nodes hq) (hbox.ext x) (hst.ext x) (hrow.keep (x.block _ hrow.lt) (fun q hq => x.block _ (hrow.row q hq).lt)) hpx (sxr.ext x) hab hin.1 (by omega) (by omega) (by omega))
      have TK := Lib.hid (show (l.take (k + 1)).map tn = (l.take k).map tn ++ [tn l[k]] by rw [List.take_succ_eq_append_getElem hlt', List.map_append]; rfl)
      have HSZX := Lib.hid hsz
      have HB := Lib.hid hbut
      have HGG := Lib.hid hG
      have HNX := Lib.hid (show Nat.lt k n from hlt)
      unfold wpV at PUT
      clear hh hbut hbox hst hrow hG sx hpx hax hLne hlen hvpos hsz hin hab sxr hxm
      generalize l[k] = x at *
      go_wp2_with fail
      refine (PUT.out _ ((Ext.refl wr).alloc _)).mono ?_; rintro e w5 ⟨rfl, hb5, k5, s5, G5, r5, g5, n5⟩
      have HH := Lib.hid (show But (Only B) w w5 ∧ Blk w5 B 77 (trieC (.slice (some ad) n lc) 0 1 (nodesL ((l.take (k + 1)).map tn)).length bs bv) ∧ StepsAt w5 bs (42 * (k + 1)) (nodesL ((l.take (k + 1)).map tn)) ∧
          ∃ G, RowsAt w5 bv (k + 1) (nodesL ((l.take (k + 1)).map tn)) ((l.take (k + 1)).map tn) G ∧ ∀ q, q ∈ keysL ((l.take (k + 1)).map tn) → w.heap.size ≤ G q by
        have hin := HIN.out
        have hx5 := HSZX.out
        have e1 : nodesL ((l.take k).map tn ++ [tn x]) = addTo (nodesL ((l.take k).map tn)) x.s.data.toList x.s.size := by rw [nodesL_snoc, ← list_size x.s]; rfl
        rw [TK.out, e1]
        refine ⟨(HB.out.trans (But.alloc (S := Only B) wr _) (fun i hi => .inl hi)).trans hb5 (fun i hi => ?_), k5, s5.mono (by omega), G5, r5, fun q hq => ?_⟩
        · rcases hi with h | h | h | ⟨q, hq, h⟩
          · exact .inl h
          · exact .inr (by omega)
          · exact .inr (by omega)
          · exact .inr (by rw [h]; exact HGG.out q hq)
        · by_cases h : q ∈ keysL ((l.take k).map tn)
          · rw [g5 q h]; exact HGG.out q h
          · have h1 := n5 q hq h
            have h2 := HB.out.size
            have h3 : (wr.alloc (.cells #[.string x.s, .slice x.A x.ns.length x.c] 56)).heap.size = wr.heap.size + 1 := by simp
            omega)
      clear hb5 k5 s5 r5 g5 n5 PUT TK HSZX HB HGG
      go_wp2_with fail
      go_roundw
      case rel => exact ⟨k + 1, HNX.out, by go_num, HH⟩
      case measure => have := HNX.out; simp [intOf]; omega
    · obtain rfl : k = n := by omega
      have z0 : wr.frozen? ⟨B, 0, none⟩ = false := hh.out.2.1.free 0
      have c0 : wr.cell? ⟨B, 0, none⟩ = some (.slice LA k lc) := hh.out.2.1.cell 0
      go_wp2_with fail
      go_end0
      obtain ⟨hbut, hbox, hst, G, hrow, hG⟩ := hh.out
      have TK : l.take k = l := List.take_of_length_le (by rw [← HN.out]; exact Nat.le_refl _)
      rw [TK] at hbox hst hrow hG
      have hin := HIN.out
      have bS : But (Only B) wr (wr.setCell ⟨B, 0, none⟩ (.slice none 0 0)) := But.set (S := Only B) wr ⟨B, 0, none⟩ _ rfl
      refine ⟨rfl, hbut.trans bS (fun i hi => .inl hi), bs, bv, G, ⟨hbox.set 0 (.slice none 0 0), (hst.keepB bS (fun e => hin.2.1 e.symm)).mono (by omega), (hrow.keepB bS (fun e => hin.2.2.1 e.symm) (fun q hq e => by have := hG q hq; have e' : G q = B := e; omega)).mono (by omega), hin.1⟩, fun i hi => ?_⟩
      rcases hi with h | h | ⟨q, hq, h⟩
      · omega
      · omega
      · rw [h]; exact hG q hq
end L11
end Go.Proofs.YtmmgmcfhlhghoaaGreatDoor

namespace Go.Proofs.YtmmgmcfhlhghoaaGreatDoor
open Go.RowKit
open Go.Lib hiding intOf
namespace L11
open L10 (TN plainB patB tn)

theorem valF_beyond {p : List TN} (h : ∀ x ∈ p, patB x = true) {q : List UInt8} {k : Nat} (hk : q.length + 1 ≤ k) : valF p q k = 0 :=
  eq_of_le fun n => by
    rw [valF_le]
    refine ⟨fun h => h.1, fun h0 => ⟨h0, fun x hx e => ?_⟩⟩
    have := (L10.pat_vals (h x hx)).1
    rw [List.getD, List.getElem?_eq_none (by rw [this, e]; exact hk)]
    simpa using h0
/-- A node's row, of its values. -/
theorem lift_node {p : List TN} (hp : ∀ x ∈ p, patB x = true) {s : List UInt8} {H : TN → Nat → Prop} {f : Nat → Int} (h : Sup s H f) (a k m : Nat) (hm : m = if (s.drop a).take k ∈ keysL p then ((s.drop a).take k).length + 1 else 0) (h' : Nat → Int)
    (hh : ∀ j, j < m → h' j = valF p ((s.drop a).take k) j) : Sup s (fun x b => H x b ∨ (x ∈ p ∧ x.1 = (s.drop a).take k ∧ b = a)) (liftF f a m h') := by
  refine h.lift p a k (fun i => ?_)
  unfold liftF
  have h0 := h.nonneg i
  by_cases hi : a ≤ i
  · rw [if_pos hi]
    by_cases h1 : i < a + m
    · rw [if_pos ⟨hi, h1⟩, hh _ (by omega)]
    · rw [if_neg (fun k => h1 k.2)]
      have e : valF p ((s.drop a).take k) (i - a) = 0 := by
        by_cases h2 : (s.drop a).take k ∈ keysL p
        · rw [if_pos h2] at hm
          exact valF_beyond hp (by omega)
        · exact valF_none (fun x hx e => h2 (List.mem_map.2 ⟨x, hx, e⟩)) _
      rw [e]
      omega
  · rw [if_neg hi, if_neg (fun k => hi k.1)]
/-- What is said of the beginnings of so many bytes. -/
def upTo (H : TN → Nat → Prop) (p : List TN) (s : List UInt8) (a k : Nat) (x : TN) (b : Nat) : Prop := H x b ∨ (x ∈ p ∧ b = a ∧ ∃ j, 1 ≤ j ∧ j ≤ k ∧ x.1 = (s.drop a).take j)
theorem upTo_zero {H : TN → Nat → Prop} {p : List TN} {s : List UInt8} {a : Nat} {f : Nat → Int} (h : Sup s H f) : Sup s (upTo H p s a 0) f :=
  h.iff fun x b _ => ⟨.inl, fun k => k.elim id fun ⟨_, _, j, h1, h2, _⟩ => by omega⟩
theorem upTo_step {H : TN → Nat → Prop} {p : List TN} {s : List UInt8} {a k : Nat} {f : Nat → Int} (h : Sup s (fun x b => upTo H p s a k x b ∨ (x ∈ p ∧ x.1 = (s.drop a).take (k + 1) ∧ b = a)) f) : Sup s (upTo H p s a (k + 1)) f :=
  h.iff fun x b _ => by
    constructor
    · rintro ((h | ⟨h1, h2, j, h3, h4, h5⟩) | ⟨h1, h2, h3⟩)
      · exact .inl h
      · exact .inr ⟨h1, h2, j, h3, by omega, h5⟩
      · exact .inr ⟨h1, h3, k + 1, by omega, Nat.le_refl _, h2⟩
    · rintro (h | ⟨h1, h2, j, h3, h4, h5⟩)
      · exact .inl (.inl h)
      · by_cases e : j = k + 1
        · exact .inr ⟨h1, by rw [h5, e], h2⟩
        · exact .inl (.inr ⟨h1, h2, j, h3, by omega, h5⟩)
theorem upTo_end {H : TN → Nat → Prop} {p : List TN} (hp : ∀ x ∈ p, patB x = true) {s : List UInt8} {a k : Nat} {f : Nat → Int} (h : Sup s (upTo H p s a k) f) (hk : ∀ x ∈ p, x.1 <+: s.drop a → x.1.length ≤ k) : Sup s (fun x b => H x b ∨ (x ∈ p ∧ b = a)) f :=
  h.iff fun x b hx => by
    constructor
    · rintro (h | ⟨h1, h2, _⟩)
      · exact .inl h
      · exact .inr ⟨h1, h2⟩
    · rintro (h | ⟨h1, h2⟩)
      · exact .inl h
      · subst h2
        exact .inr ⟨h1, rfl, x.1.length, (L10.pat_len (hp x h1)).1, hk x h1 hx, List.prefix_iff_eq_take.1 hx⟩
/-- What raise leaves. -/
def RaiseQ (w : World) (g N : Nat) (s : List UInt8) (H : TN → Nat → Prop) (p : List TN) (a : Nat) (e : Ending) (w' : World) : Prop :=
  e = .returned (.tuple #[]) ∧ But (Only g) w w' ∧ ∃ f, Blk w' g 3 (rowI N f) ∧ Sup s (fun x b => H x b ∨ (x ∈ p ∧ b = a)) f

set_option maxRecDepth 100000 in
set_option maxHeartbeats 8000000 in
theorem raise_any (B bs bv : Nat) (d st : Int) (p : List TN) (G : List UInt8 → Nat) (g a ln cp N : Nat) (f : Nat → Int) (t : ByteArray) (s : List UInt8) (H : TN → Nat → Prop) (w : World) (mk : MadeAt w B bs bv d st p G) (hp : ∀ x ∈ p, patB x = true) (hp3 : p.length ≤ 300)
    (kg : Blk w g 3 (rowI N f)) (hg : g ≠ B ∧ ¬ pieces bs bv p G g) (ht : t.data.toList = s.drop a) (sup : Sup s H f) (hln : t.size + 1 ≤ ln) (hN : a + ln ≤ N) (hN2 : N ≤ 100000) :
    Calls Tryz.prog 78 #[.pointer (some ⟨B, 0, none⟩), .slice (some ⟨g, a, none⟩) ln cp, .string t] w (RaiseQ w g N s H p a) := by
  have hnl : (nodesL p).length ≤ 20000 := by
    have h1 := (nodes_length p).2
    have h2 := sumLen_le hp
    omega
  have hts : t.size = (s.drop a).length := by rw [← ht, list_size]
  have MK := Lib.hid mk
  have HP := Lib.hid hp
  have KG := Lib.hid kg
  have HG := Lib.hid hg
  have HT := Lib.hid ht
  have SUP := Lib.hid sup
  have HTS := Lib.hid hts
  have HROOT := Lib.hid (num_nil (nds_nodes p))
  clear mk hp kg hg ht sup hts
  go_enter Tryz.func78, Tryz.ntmps78
  go_wp2_with fail
  go_loopw [6, 12] (fun at' i wr => ∃ k : Nat, k ≤ t.size ∧ i = .int .i64 k ∧ at' = .int .i64 (num (nodesL p) ((s.drop a).take k)) ∧ Hid ((s.drop a).take k ∈ nodesL p ∧ But (Only g) w wr ∧ ∃ f, Blk wr g 3 (rowI N f) ∧ Sup s (upTo H p s a k) f)) (fun _ i _ => t.size - (intOf i).toNat)
  case atStart => exact ⟨0, Nat.zero_le _, rfl, (by rw [List.take_zero, HROOT.out]), ⟨(nds_nodes p).nil, But.refl _ _, f, KG.out, upTo_zero SUP.out⟩⟩
  case round =>
    obtain ⟨k, hk, rfl, rfl, hh⟩ := hrel
    obtain ⟨hmem, hb, fk, kk, supk⟩ := hh.out
    have hgp := HG.out
    have hBg : ¬ Only g B := fun e => hgp.1 e.symm
    have hbx := hb.blk MK.out.box hBg
    have hst := MK.out.steps.keepB hb (fun e => hgp.2 (.inl e.symm))
    have hrw := MK.out.rows.keepB hb (fun e => hgp.2 (.inr (.inl e.symm))) (fun q hq e => hgp.2 (.inr (.inr ⟨q, hq, e.symm⟩)))
    have c5 : wr.cell? ⟨B, 5, none⟩ = some (.map (some bs)) := hbx.cell 5
    have c6 : wr.cell? ⟨B, 6, none⟩ = some (.map (some bv)) := hbx.cell 6
    have n1 := num_pos (nodesL p) ((s.drop a).take k)
    have n2 := num_le hmem
    by_cases hlt : k < t.size
    · have LK := fun m => (hst.ext ((Ext.refl wr).drewN m)).look (num (nodesL p) ((s.drop a).take k)) t[k] (by omega)
      have hta : (s.drop a).take (k + 1) = (s.drop a).take k ++ [t[k]] := by rw [← HT.out]; exact take_at hlt
      have hsn := stepN_num hmem t[k]
      rw [← hta] at hsn
      by_cases hin : (s.drop a).take (k + 1) ∈ nodesL p
      · rw [if_pos hin] at hsn
        rw [hsn] at LK
        simp only [Option.getD_some, Option.isSome_some] at LK
        have n3 := num_pos (nodesL p) ((s.drop a).take (k + 1))
        have n4 := num_le hin
        have LV := fun m => (hrw.keep (w' := wr.drewN m) rfl (fun _ _ => rfl)).look (num (nodesL p) ((s.drop a).take (k + 1))) (by omega)
        rw [valN_num hin] at LV
        have HIN := Lib.hid hin
        have HB := Lib.hid hb
        have KK := Lib.hid kk
        have SK := Lib.hid supk
        have HRW := Lib.hid hrw
        have hlen : ((s.drop a).take (k + 1)).length = k + 1 := by rw [List.length_take, ← HTS.out]; omega
        have HLEN := Lib.hid hlen
        generalize hz : num (nodesL p) ((s.drop a).take k) = z at *
        generalize hy : num (nodesL p) ((s.drop a).take (k + 1)) = y at *
        have HY := Lib.hid hy
        clear hh hin hb kk supk hbx hst hrw hmem hta hsn hz hy hgp hBg n2
        by_cases hkey : (s.drop a).take (k + 1) ∈ keysL p
        · rw [if_pos hkey] at LV
          simp only [rowV] at LV
          rw [hlen] at LV
          have ROW := Lib.hid (HRW.out.row _ hkey)
          have HKEY := Lib.hid hkey
          clear hkey hlen
          go_wp2_with fail
          go_quiet (fail)
          rename_i nq
          have X2 := (Ext.refl wr).drewN nq
          have c6 := X2.at c6
          have LV := LV nq
          have LF := Lib.hid (lift_any g a ln cp N fk (some ⟨G ((s.drop a).take (k + 1)), 0, none⟩) (k + 1 + 1) (k + 1 + 1) (valF p ((s.drop a).take (k + 1))) (wr.drewN nq) (KK.out.ext X2)
            (by have h1 := ROW.out.ext X2; intro j hj
                refine ⟨_, rfl, h1.lt, ?_⟩
                rw [add_zero_addr]
                have h2 := h1.cell j
                rw [h2, rowL, HLEN.out]
                exact rowI_get (f := valF p ((s.drop a).take (k + 1))) hj)
            (fun _ ad e => by cases e; exact fun e' => HG.out.2 (.inr (.inr ⟨_, HKEY.out, e'.symm⟩))) (by omega) hN (by omega))
          have HB2 := Lib.hid (HB.out.trans (But.of_ext (S := Only g) X2) (fun i hi => .inl hi))
          generalize wr.drewN nq = V2 at *
          clear LK X2
          go_wp2_with fail
          refine LF.out.mono ?_; rintro e w3 ⟨rfl, b3, k3⟩
          have HH := Lib.hid (show (s.drop a).take (k + 1) ∈ nodesL p ∧ But (Only g) w w3 ∧ ∃ f, Blk w3 g 3 (rowI N f) ∧ Sup s (upTo H p s a (k + 1)) f from
            ⟨HIN.out, HB2.out.trans b3 (fun i hi => .inl hi), _, k3, upTo_step (lift_node HP.out SK.out a (k + 1) (k + 1 + 1) (by rw [if_pos HKEY.out, HLEN.out]) _ (fun j _ => rfl))⟩)
          clear b3 k3 LF HB2 KK SK ROW HRW HB
          go_wp2_with fail
          go_roundw
          case rel => exact ⟨k + 1, by omega, by go_num, by rw [HY.out], HH⟩
          case measure => simp [intOf]; omega
        · rw [if_neg hkey] at LV
          simp only [rowV] at LV
          have HKEY := Lib.hid hkey
          clear hkey hlen
          go_wp2_with fail
          go_quiet (fail)
          rename_i nq
          have X2 := (Ext.refl wr).drewN nq
          have c6 := X2.at c6
          have LV := LV nq
          have LF := Lib.hid (lift_any g a ln cp N fk none 0 0 (fun _ => 0) (wr.drewN nq) (KK.out.ext X2) SeenF.none (fun h => absurd rfl h) (by omega) hN (by omega))
          have HB2 := Lib.hid (HB.out.trans (But.of_ext (S := Only g) X2) (fun i hi => .inl hi))
          generalize wr.drewN nq = V2 at *
          clear LK X2
          go_wp2_with fail
          refine LF.out.mono ?_; rintro e w3 ⟨rfl, b3, k3⟩
          have HH := Lib.hid (show (s.drop a).take (k + 1) ∈ nodesL p ∧ But (Only g) w w3 ∧ ∃ f, Blk w3 g 3 (rowI N f) ∧ Sup s (upTo H p s a (k + 1)) f from
            ⟨HIN.out, HB2.out.trans b3 (fun i hi => .inl hi), _, k3, upTo_step (lift_node HP.out SK.out a (k + 1) 0 (by rw [if_neg HKEY.out]) _ (fun j hj => by omega))⟩)
          clear b3 k3 LF HB2 KK SK HRW HB
          go_wp2_with fail
          go_roundw
          case rel => exact ⟨k + 1, by omega, by go_num, by rw [HY.out], HH⟩
          case measure => simp [intOf]; omega
      · rw [if_neg hin] at hsn
        rw [hsn] at LK
        simp only [Option.getD_none, Option.isSome_none] at LK
        have FIN := Lib.hid (show But (Only g) w wr ∧ ∃ f, Blk wr g 3 (rowI N f) ∧ Sup s (fun x b => H x b ∨ (x ∈ p ∧ b = a)) f from
          ⟨hb, fk, kk, upTo_end HP.out supk (fun x hx hpre => by
            rcases Nat.lt_or_ge k x.1.length with h | h
            · refine absurd (mem_nodes.2 (.inr ⟨x, hx, ?_⟩)) hin
              rw [List.prefix_iff_eq_take.1 hpre, List.prefix_take_iff]
              exact ⟨List.take_prefix _ _, by rw [List.length_take]; omega⟩
            · exact h)⟩)
        generalize hz : num (nodesL p) ((s.drop a).take k) = z at *
        clear hh hin hb kk supk hbx hst hrw hmem hta hsn hz hgp hBg n2
        go_wp2_with fail
        go_quiet (fail)
        rename_i nq
        go_wp2_with fail
        go_end0
        have X2 := (Ext.refl wr).drewN nq
        obtain ⟨f1, f2, f3, f4⟩ := FIN.out
        exact ⟨rfl, f1.trans (But.of_ext (S := Only g) X2) (fun i hi => .inl hi), f2, f3.ext X2, f4⟩
    · obtain rfl : k = t.size := by omega
      have FIN := Lib.hid (show But (Only g) w wr ∧ ∃ f, Blk wr g 3 (rowI N f) ∧ Sup s (fun x b => H x b ∨ (x ∈ p ∧ b = a)) f from
        ⟨hb, fk, kk, upTo_end HP.out supk (fun x hx hpre => by have := hpre.length_le; rw [HTS.out]; exact this)⟩)
      generalize hz : num (nodesL p) ((s.drop a).take t.size) = z at *
      clear hh hb kk supk hbx hst hrw hmem hz hgp hBg n2
      go_wp2_with fail
      go_end0
      exact ⟨rfl, FIN.out⟩
end L11
end Go.Proofs.YtmmgmcfhlhghoaaGreatDoor

namespace Go.Proofs.YtmmgmcfhlhghoaaGreatDoor
open Go.RowKit
open Go.Lib hiding intOf
namespace L11
open L10 (TN plainB patB tn)

/-- A trie that is not made yet. -/
def RawAt (w : World) (B : Nat) (F : Nat → Prop) (p : List TN) : Prop :=
  ∃ LA lc l, List.map tn l = p ∧ Blk w B 77 [.slice LA l.length lc, .int .u32 0, .int .i32 0, .int .u32 0, .int .i64 0, .map none, .map none] ∧ SeenW w LA l ∧ (l ≠ [] → ∀ ad, LA = some ad → F ad.block) ∧ ∀ x ∈ l, ∀ ad, x.A = some ad → F ad.block
/-- A trie of the patterns p, at block B; its pieces' blocks are all in F. -/
structure TrieAt (w : World) (B : Nat) (F : Nat → Prop) (p : List TN) : Prop where
  pat : ∀ x ∈ p, patB x = true
  len : p.length ≤ 300
  own : ¬ F B
  low : ∀ k, F k → k < w.heap.size
  st : RawAt w B F p ∨ ∃ bs bv G, MadeAt w B bs bv 1 0 p G ∧ ∀ k, pieces bs bv p G k → F k
theorem MadeAt.lt {w : World} {B bs bv : Nat} {d st : Int} {p : List TN} {G : List UInt8 → Nat} (h : MadeAt w B bs bv d st p G) {k : Nat} (hk : pieces bs bv p G k) : k < w.heap.size := by
  rcases hk with rfl | rfl | ⟨q, hq, rfl⟩
  · exact h.steps.lt
  · exact h.rows.lt
  · exact (h.rows.row q hq).lt
theorem MadeAt.keepB {S : Nat → Prop} {w w' : World} {B bs bv : Nat} {d st : Int} {p : List TN} {G : List UInt8 → Nat} (h : MadeAt w B bs bv d st p G) (x : But S w w') (hB : ¬ S B) (hP : ∀ k, pieces bs bv p G k → ¬ S k) : MadeAt w' B bs bv d st p G :=
  ⟨x.blk h.box hB, h.steps.keepB x (hP _ (.inl rfl)), h.rows.keepB x (hP _ (.inr (.inl rfl))) (fun q hq => hP _ (.inr (.inr ⟨q, hq, rfl⟩))), h.ne⟩
theorem TrieAt.lt {w : World} {B : Nat} {F : Nat → Prop} {p : List TN} (h : TrieAt w B F p) : B < w.heap.size := by
  rcases h.st with ⟨_, _, _, _, hb, _⟩ | ⟨_, _, _, hm, _⟩
  · exact hb.lt
  · exact hm.box.lt
theorem pat_ne {x : WP} (h : patB (tn x) = true) : x.ns ≠ [] := fun e => by
  have h1 := (L10.pat_vals h).1
  simp only [tn] at h1
  rw [e] at h1
  simp at h1
theorem TrieAt.keepB {S : Nat → Prop} {w w' : World} {B : Nat} {F : Nat → Prop} {p : List TN} (h : TrieAt w B F p) (x : But S w w') (hB : ¬ S B) (hF : ∀ k, F k → ¬ S k) : TrieAt w' B F p := by
  refine ⟨h.pat, h.len, h.own, fun k hk => Nat.lt_of_lt_of_le (h.low k hk) x.size, ?_⟩
  rcases h.st with ⟨LA, lc, l, hl, hb, hs, h1, h2⟩ | ⟨bs, bv, G, hm, h1⟩
  · refine .inl ⟨LA, lc, l, hl, x.blk hb hB, fun i y hy => ?_, h1, h2⟩
    obtain ⟨⟨ad, e, hlt, a0, a1⟩, hn⟩ := hs i y hy
    have hne : l ≠ [] := by rintro rfl; simp at hy
    have hnS := hF _ (h1 hne ad e)
    have hym : y ∈ l := List.mem_of_getElem? hy
    exact ⟨⟨ad, e, Nat.lt_of_lt_of_le hlt x.size, x.at a0 (by rw [addr_block]; exact hnS), x.at a1 (by rw [addr_block]; exact hnS)⟩, seenL_keep hn x (fun _ ad' e' => hF _ (h2 y hym ad' e'))⟩
  · exact .inr ⟨bs, bv, G, hm.keepB x hB (fun k hk => hF k (h1 k hk)), h1⟩
theorem TrieAt.ext {w w' : World} {B : Nat} {F : Nat → Prop} {p : List TN} (h : TrieAt w B F p) (x : Ext w w') : TrieAt w' B F p := h.keepB (But.of_ext (S := fun _ => False) x) id (fun _ _ => id)
theorem TrieAt.wide {w : World} {B : Nat} {F F' : Nat → Prop} {p : List TN} (h : TrieAt w B F p) (hF : ∀ k, F k → F' k) (hB : ¬ F' B) (hl : ∀ k, F' k → k < w.heap.size) : TrieAt w B F' p := by
  refine ⟨h.pat, h.len, hB, hl, ?_⟩
  rcases h.st with ⟨LA, lc, l, hl, hb, hs, h1, h2⟩ | ⟨bs, bv, G, hm, h1⟩
  · exact .inl ⟨LA, lc, l, hl, hb, hs, fun hne ad e => hF _ (h1 hne ad e), fun x hx ad e => hF _ (h2 x hx ad e)⟩
  · exact .inr ⟨bs, bv, G, hm, fun k hk => hF k (h1 k hk)⟩
/-- What asking leaves of the trie: it is made. -/
def AskedAt (w : World) (B : Nat) (F : Nat → Prop) (p : List TN) (w' : World) : Prop :=
  But (Only B) w w' ∧ ∃ bs bv G, MadeAt w' B bs bv 1 0 p G ∧ ∀ k, pieces bs bv p G k → F k ∨ (w.heap.size ≤ k ∧ k < w'.heap.size)
def AskQ (w : World) (B : Nat) (F : Nat → Prop) (p : List TN) (e : Ending) (w' : World) : Prop := e = .returned (.tuple #[]) ∧ AskedAt w B F p w'

theorem ask_any (w : World) (B : Nat) (F : Nat → Prop) (p : List TN) (T : TrieAt w B F p) :
    Calls Tryz.prog 76 #[.pointer (some ⟨B, 1, none⟩), .func (.func 77) #[.pointer (some ⟨B, 0, none⟩)] #[]] w (AskQ w B F p) := by
  rcases T.st with ⟨LA, lc, l, hl, hb, hs, h1, h2⟩ | ⟨bs, bv, G, hm, h1⟩
  · have bS : But (Only B) w (w.setCell ⟨B, 2, none⟩ (.int .i32 1)) := But.set (S := Only B) w ⟨B, 2, none⟩ _ rfl
    have hlB : ∀ x ∈ l, ∀ ad, x.A = some ad → ad.block ≠ B := fun x hx ad e k => T.own (by rw [← k]; exact h2 x hx ad e)
    have hLB : l ≠ [] → ∀ ad, LA = some ad → ad.block ≠ B := fun hne ad e k => T.own (by rw [← k]; exact h1 hne ad e)
    have hp : ∀ x ∈ l, patB (tn x) = true := fun x hx => T.pat _ (by rw [← hl]; exact List.mem_map.2 ⟨x, hx, rfl⟩)
    have hn : l.length ≤ 300 := by have := T.len; rw [← hl] at this; simpa using this
    have hs2 : SeenW (w.setCell ⟨B, 2, none⟩ (.int .i32 1)) LA l := fun i y hy => by
      obtain ⟨⟨ad, e, hlt, a0, a1⟩, hn⟩ := hs i y hy
      have hne : l ≠ [] := by rintro rfl; simp at hy
      have hnS := hLB hne ad e
      have hym : y ∈ l := List.mem_of_getElem? hy
      exact ⟨⟨ad, e, Nat.lt_of_lt_of_le hlt bS.size, bS.at a0 (by rw [addr_block]; exact hnS), bS.at a1 (by rw [addr_block]; exact hnS)⟩, seenL_keep hn bS (fun _ ad' e' => hlB y hym ad' e')⟩
    refine (do_first (BuildQ (w.setCell ⟨B, 2, none⟩ (.int .i32 1)) B p) B 1 (.pointer (some ⟨B, 0, none⟩)) w (hb.cell 1) (hb.cell 2) (hb.free 2) ?_).mono ?_
    · refine (build_any B LA lc l _ (hb.set 2 (.int .i32 1)) hs2 hp hLB hlB hn).mono ?_
      rintro e w1 ⟨rfl, hq⟩
      rw [hl] at hq
      obtain ⟨_, bs, bv, G, hm, _⟩ := id hq
      exact ⟨rfl, hq, hm.box.cell 1, hm.box.free 1, hm.box.cell 2, hm.box.free 2⟩
    · rintro e w' ⟨rfl, w1, ⟨hb1, bs, bv, G, hm, hF⟩, hw'⟩
      have hB : B < w.heap.size := hb.lt
      have b2 : But (Only B) w1 w' := by
        rw [hw']
        exact ((But.refl (Only B) w1).drew.trans (But.set (S := Only B) w1.drew ⟨B, 1, none⟩ (.int .u32 1) rfl) (fun i hi => .inl hi)).trans (But.set (S := Only B) _ ⟨B, 1 + 1, none⟩ (.int .i32 0) rfl) (fun i hi => .inl hi)
      have hsz : (w.setCell ⟨B, 2, none⟩ (.int .i32 1)).heap.size = w.heap.size := size_set _ _ _
      rw [hsz] at hF
      have hm2 : MadeAt w' B bs bv 1 0 p G := by
        have hP : ∀ k, pieces bs bv p G k → ¬ Only B k := fun k hk e => by have := hF k hk; have e' : k = B := e; omega
        refine ⟨?_, hm.steps.keepB b2 (hP _ (.inl rfl)), hm.rows.keepB b2 (hP _ (.inr (.inl rfl))) (fun q hq => hP _ (.inr (.inr ⟨q, hq, rfl⟩))), hm.ne⟩
        rw [hw']
        have h3 : Blk w1.drew B 77 (trieC (.slice none 0 0) 0 1 (nodesL p).length bs bv) := hm.box
        exact (h3.set 1 (.int .u32 1)).set 2 (.int .i32 0)
      exact ⟨rfl, (bS.trans hb1 (fun i hi => .inl hi)).trans b2 (fun i hi => .inl hi), bs, bv, G, hm2, fun k hk => .inr ⟨hF k hk, hm2.lt hk⟩⟩
  · refine (do_done ⟨B, 1, none⟩ _ w (hm.box.cell 1)).mono ?_
    rintro e w' ⟨rfl, rfl⟩
    exact ⟨rfl, But.refl _ _, bs, bv, G, hm, fun k hk => .inl (h1 k hk)⟩
/-- A trie that is asked, as it is afterwards. -/
def Later (w : World) (B : Nat) (F : Nat → Prop) (p : List TN) (w' : World) : Prop := But (Only B) w w' ∧ ∃ F', TrieAt w' B F' p ∧ ∀ k, F' k → F k ∨ (w.heap.size ≤ k ∧ k < w'.heap.size)
theorem AskedAt.later {w w' : World} {B : Nat} {F : Nat → Prop} {p : List TN} (h : AskedAt w B F p w') (T : TrieAt w B F p) : Later w B F p w' := by
  obtain ⟨hb, bs, bv, G, hm, hF⟩ := h
  exact ⟨hb, fun k => F k ∨ (w.heap.size ≤ k ∧ k < w'.heap.size), ⟨T.pat, T.len, fun k => k.elim T.own (fun h => by have := T.lt; omega), fun k hk => hk.elim (fun h => Nat.lt_of_lt_of_le (T.low k h) hb.size) (fun h => h.2), .inr ⟨bs, bv, G, hm, hF⟩⟩, fun _ h => h⟩

end L11
end Go.Proofs.YtmmgmcfhlhghoaaGreatDoor

namespace Go.Proofs.YtmmgmcfhlhghoaaGreatDoor
open Go.RowKit
open Go.Lib hiding intOf
namespace L11
open L10 (TN plainB patB tn letterB)

theorem plain_size (s : ByteArray) : plainB s.data.toList = (decide (1 ≤ s.size ∧ s.size ≤ 40) && s.data.toList.all letterB) := by rw [plainB, list_size]
theorem all_drop_at {s : ByteArray} {k : Nat} (h : k < s.size) : (s.data.toList.drop k).all letterB = (letterB s[k] && (s.data.toList.drop (k + 1)).all letterB) := by
  rw [List.drop_eq_getElem_cons (by rw [list_size]; exact h), List.all_cons]; rfl
set_option maxRecDepth 100000 in
set_option maxHeartbeats 4000000 in
theorem word_any (s : ByteArray) (w : World) : Calls Tryz.prog 75 #[.string s] w (Ret w (.bool (plainB s.data.toList))) := by
  by_cases h1 : s.size < 1
  · rw [plain_size, decide_eq_false (by omega)]
    go_enter Tryz.func75, Tryz.ntmps75
    go_wp2_with fail
    go_ret
    exact ⟨rfl, Ext.refl _⟩
  · by_cases h2 : 40 < s.size
    · rw [plain_size, decide_eq_false (by omega)]
      go_enter Tryz.func75, Tryz.ntmps75
      go_wp2_with fail
      go_ret
      exact ⟨rfl, Ext.refl _⟩
    · rw [plain_size, decide_eq_true (by omega)]
      obtain ⟨b, hb⟩ : ∃ b, (true && s.data.toList.all letterB) = b := ⟨_, rfl⟩
      rw [hb]
      have HB := Lib.hid (show (s.data.toList.drop 0).all letterB = b from hb)
      clear hb
      go_enter Tryz.func75, Tryz.ntmps75
      go_wp2_with fail
      go_loop [14] (fun i => ∃ k : Nat, k ≤ s.size ∧ i = .int .i64 k ∧ Hid ((s.data.toList.drop k).all letterB = b)) (fun i => s.size - (intOf i).toNat)
      case atStart => exact ⟨0, Nat.zero_le _, rfl, HB⟩
      case round =>
        obtain ⟨k, hk, rfl, hh⟩ := hrel
        by_cases hlt : k < s.size
        · have hr := hh.out
          rw [all_drop_at hlt] at hr
          by_cases l1 : s[k].toNat < 97
          · have H := Lib.hid (show false = b by rw [← hr, show letterB s[k] = false from decide_eq_false (by omega)]; rfl)
            clear hr hh HB
            go_wp2_with fail
            go_ret
            exact ⟨ret_bool H.out, Ext.refl _⟩
          · by_cases l2 : 122 < s[k].toNat
            · have H := Lib.hid (show false = b by rw [← hr, show letterB s[k] = false from decide_eq_false (by omega)]; rfl)
              clear hr hh HB
              go_wp2_with fail
              go_ret
              exact ⟨ret_bool H.out, Ext.refl _⟩
            · have H := Lib.hid (show (s.data.toList.drop (k + 1)).all letterB = b by rw [← hr, show letterB s[k] = true from decide_eq_true (by omega)]; rfl)
              clear hr hh HB
              go_wp2_with fail
              go_round
              case rel => exact ⟨k + 1, by omega, by go_num, H⟩
              case measure => simp [intOf]; omega
        · obtain rfl : k = s.size := by omega
          have H := Lib.hid (show true = b by rw [← hh.out, List.drop_of_length_le (by rw [list_size]; exact Nat.le_refl _)]; rfl)
          clear hh HB
          go_wp2_with fail
          go_ret
          exact ⟨ret_bool H.out, Ext.refl _⟩
end L11
end Go.Proofs.YtmmgmcfhlhghoaaGreatDoor

namespace Go.Proofs.YtmmgmcfhlhghoaaGreatDoor
open Go.RowKit
open Go.Lib hiding intOf
namespace L11
open L10 (TN plainB patB tn letterB)

/-- What Values leaves, and answers. -/
def ValsQ (w : World) (B : Nat) (F : Nat → Prop) (p : List TN) (l : List UInt8) (e : Ending) (w' : World) : Prop :=
  But (Only B) w w' ∧ ∃ F' A c, e = .returned (.slice A (valsL p l).length c) ∧ TrieAt w' B F' p ∧ (∀ k, F' k → F k ∨ (w.heap.size ≤ k ∧ k < w'.heap.size)) ∧ SeenL w' A (valsL p l) ∧
    ∀ ad, A = some ad → w.heap.size ≤ ad.block ∧ ¬ F' ad.block ∧ ∀ j, j < (valsL p l).length → w'.frozen? (ad.add j) = false
theorem vals_nil (v : Value) (w : World) : Calls Tryz.prog 65 #[.pointer none, v] w (Ret w (.slice none 0 0)) := by
  go_enter Tryz.func65, Tryz.ntmps65
  go_wp2_with fail
  go_ret
  exact ⟨rfl, Ext.refl _⟩
theorem text_list (s : ByteArray) : ((⟨#[46]⟩ : ByteArray) ++ s ++ (⟨#[46]⟩ : ByteArray)).data.toList = textL s.data.toList := by
  simp [ByteArray.data_append, textL]
theorem text_size (s : ByteArray) : ((⟨#[46]⟩ : ByteArray) ++ s ++ (⟨#[46]⟩ : ByteArray)).size = s.size + 2 := by
  have := congrArg List.length (text_list s)
  rw [list_size, textL_length, list_size] at this
  exact this
theorem extract_list (t : ByteArray) (k : Nat) : (t.extract k t.size).data.toList = t.data.toList.drop k := by
  rw [Lib.extract_data, List.take_of_length_le (by rw [List.length_drop, list_size]; omega)]
theorem extract_size' (t : ByteArray) (k : Nat) : (t.extract k t.size).size = t.size - k := by
  have := congrArg List.length (extract_list t k)
  rw [list_size, List.length_drop, list_size] at this
  exact this

set_option maxRecDepth 100000 in
set_option maxHeartbeats 8000000 in
theorem vals_any (w : World) (B : Nat) (F : Nat → Prop) (p : List TN) (T : TrieAt w B F p) (s : ByteArray) : Calls Tryz.prog 65 #[.pointer (some ⟨B, 0, none⟩), .string s] w (ValsQ w B F p s.data.toList) := by
  have TH := Lib.hid T
  have WD := Lib.hid (word_any s w)
  have hmf : ∀ (fn : Fn) (first cap : Array Value) (w : World), (Instr.makeFunc fn first cap).run Tryz.prog w = .ok (.func fn first cap) w := fun _ _ _ _ => rfl
  clear T
  cases hp : plainB s.data.toList with
  | false =>
    rw [hp] at WD
    have HV := Lib.hid (valsL_no (p := p) hp)
    clear hp
    go_enter Tryz.func65, Tryz.ntmps65
    go_wp2_with fail
    refine WD.out.mono ?_; rintro e w1 ⟨rfl, x1⟩
    go_wp2_with fail
    go_ret
    have T1 := TH.out.ext x1
    exact ⟨But.of_ext x1, F, none, 0, by rw [HV.out]; rfl, T1, fun k h => .inl h, by rw [HV.out]; exact SeenL.nil, fun ad e => by cases e⟩
  | true =>
    rw [hp] at WD
    have hsz := plain_len hp
    rw [list_size] at hsz
    have HP := Lib.hid hp
    clear hp
    go_enter Tryz.func65, Tryz.ntmps65
    go_wp2_with fail
    refine WD.out.mono ?_; rintro e w1 ⟨rfl, x1⟩
    have T1 := TH.out.ext x1
    have AK := Lib.hid (ask_any w1 B F p T1)
    have HX := Lib.hid x1
    have HSZ := Lib.hid (show B < w.heap.size ∧ w.heap.size ≤ w1.heap.size from ⟨TH.out.lt, x1.size⟩)
    clear T1 x1 WD
    go_wp2_with fail
    refine AK.out.mono ?_; rintro e w2 ⟨rfl, hb2, hmade⟩
    have B2 := Lib.hid ((But.of_ext (S := Only B) HX.out).trans hb2 (fun i hi => .inl hi))
    have MD := Lib.hid hmade
    have SZ2 := Lib.hid hb2.size
    clear AK HX hb2 hmade
    obtain ⟨t, ht⟩ : ∃ t, t = (⟨#[46]⟩ : ByteArray) ++ s ++ (⟨#[46]⟩ : ByteArray) := ⟨_, rfl⟩
    have htl : t.data.toList = textL s.data.toList := by rw [ht]; exact text_list s
    have hts : t.size = s.size + 2 := by rw [ht]; exact text_size s
    obtain ⟨cs, MK, RW⟩ := make_blk (t.size + 1) (by omega)
    rw [show ((t.size + 1 : Nat) : Int) = (t.size : Int) + 1 by omega] at MK
    go_upto_region 5 with (fail)
    rw [← ht]
    have HTL := Lib.hid htl
    have HTS := Lib.hid hts
    clear ht htl hts
    have ht40 : t.size ≤ 42 := by have := HTS.out; omega
    have ht1 : 1 ≤ t.size := by have := HTS.out; omega
    have KG := Lib.hid (show Blk (w2.alloc (.cells cs 3)) w2.heap.size 3 (rowI (t.size + 1) (fun _ => 0)) by
      have := Blk.new w2 3 cs
      rw [RW] at this
      exact this)
    have X3 := Lib.hid (show Ext w2 (w2.alloc (.cells cs 3)) from (Ext.refl w2).alloc _)
    go_wp2_with fail
    generalize w2.alloc (.cells cs 3) = w3 at *
    have HG2 := Lib.hid (show ∀ bs bv G, MadeAt w2 B bs bv 1 0 p G → w2.heap.size ≠ B ∧ ¬ pieces bs bv p G w2.heap.size from fun bs bv G hm => ⟨fun e => by have := hm.box.lt; omega, fun h => by have := hm.lt h; omega⟩)
    have HGL := Lib.hid (show w.heap.size ≤ w2.heap.size from B2.out.size)
    generalize hg : w2.heap.size = g at *
    have HGE := Lib.hid hg
    clear hg MK RW
    go_loopw [30] (fun i wr => ∃ k : Nat, k ≤ t.size ∧ i = .int .i64 k ∧ Hid (But (Only g) w3 wr ∧ ∃ f, Blk wr g 3 (rowI (t.size + 1) f) ∧ Sup (textL s.data.toList) (fun x b => x ∈ p ∧ b < k) f)) (fun i _ => t.size - (intOf i).toNat)
    case atStart => exact ⟨0, Nat.zero_le _, rfl, ⟨But.refl _ _, _, KG.out, (Sup.zero _).iff (fun x b _ => ⟨fun h => h.elim, fun h => by omega⟩)⟩⟩
    case round =>
      obtain ⟨k, hk, rfl, hh⟩ := hrel
      by_cases hlt : k < t.size
      · obtain ⟨bs, bv, G, hm, hF⟩ := MD.out
        obtain ⟨hb, f, kk, sup⟩ := hh.out
        have hgg := HG2.out bs bv G hm
        have hm3 := (hm.keepB (But.of_ext (S := fun _ => False) X3.out) id (fun _ _ => id)).keepB hb (fun e => hgg.1 e.symm) (fun i hi e => hgg.2 (by rw [← show i = g from e]; exact hi))
        have RS := Lib.hid (raise_any B bs bv 1 0 p G g k (t.size + 1 - k) (t.size + 1 - k) (t.size + 1) f (t.extract k t.size) (textL s.data.toList) (fun x b => x ∈ p ∧ b < k) wr.drew
          (hm3.keepB (But.of_ext (S := fun _ => False) ((Ext.refl wr).drew)) id (fun _ _ => id)) TH.out.pat TH.out.len (kk.ext ((Ext.refl wr).drew)) hgg (by rw [extract_list, HTL.out]) sup (by rw [extract_size']; omega) (by omega) (by omega))
        have HB := Lib.hid hb
        clear hh hm hF hb kk sup hgg hm3
        go_wp2_with fail
        refine wp_region_noPanic ?_
        refine wp_region_held_drew (S := (fun _ => True)) (by kernel_rfl) trivial (fun h0 => ?_)
        refine wpAnyH_take (i := 0) (oi := ?_) (v := ?_) ?_ (by kernel_rfl) (by kernel_rfl) (by kernel_rfl) ?_ ?_ h0 ?_
        rotate_left 2
        · simp only [List.getElem?_toArray, List.getElem?_cons_zero]; rfl
        · exact fun _ _ _ h => h
        · refine Or.inl ⟨by rfl, ?_⟩
          intro w hSw
          (try dsimp only at hSw)
          go_simp
          (try with_reducible rfl)
        (try simp only [Act.put, List.setIfInBounds_toArray, List.set_cons_zero, List.set_cons_succ])
        refine wpAnyH_take (i := 1) (oi := ?_) (v := ?_) ?_ (by kernel_rfl) (by kernel_rfl) (by kernel_rfl) ?_ ?_ h0 ?_
        rotate_left 2
        · simp only [List.getElem?_toArray, List.getElem?_cons_zero, List.getElem?_cons_succ]; rfl
        · exact fun _ _ _ h => h
        · refine Or.inl ⟨by rfl, ?_⟩
          intro w hSw
          (try dsimp only at hSw)
          go_simp
          (try with_reducible rfl)
        (try simp only [Act.put, List.setIfInBounds_toArray, List.set_cons_zero, List.set_cons_succ])
        refine wpAnyH_take (i := 2) (oi := ?_) (v := ?_) ?_ (by kernel_rfl) (by kernel_rfl) (by kernel_rfl) ?_ ?_ h0 ?_
        rotate_left 2
        · simp only [List.getElem?_toArray, List.getElem?_cons_zero, List.getElem?_cons_succ]; rfl
        · exact fun _ _ _ h => h
        · refine Or.inl ⟨by rfl, ?_⟩
          intro w hSw
          (try dsimp only at hSw)
          go_simp
          (try with_reducible rfl)
        (try simp only [Act.put, List.setIfInBounds_toArray, List.set_cons_zero, List.set_cons_succ])
        refine wpAnyH_take (i := 3) (oi := ?_) (v := .slice (some ⟨g, k, none⟩) (t.size + 1 - k) (t.size + 1 - k)) ?_ (by kernel_rfl) (by kernel_rfl) (by kernel_rfl) ?_ ?_ h0 ?_
        rotate_left
        · simp only [List.getElem?_toArray, List.getElem?_cons_zero, List.getElem?_cons_succ]; rfl
        · exact fun _ _ _ h => h
        · refine Or.inl ⟨by rfl, ?_⟩
          intro w hSw
          (try dsimp only at hSw)
          go_simp
          rw [if_pos (by omega), if_neg (by omega)]
        (try simp only [Act.put, List.setIfInBounds_toArray, List.set_cons_zero, List.set_cons_succ])
        refine wpAnyH_take (i := 4) (oi := ?_) (v := ?_) ?_ (by kernel_rfl) (by kernel_rfl) (by kernel_rfl) ?_ ?_ h0 ?_
        rotate_left 2
        · simp only [List.getElem?_toArray, List.getElem?_cons_zero, List.getElem?_cons_succ]; rfl
        · exact fun _ _ _ h => h
        · refine Or.inl ⟨by rfl, ?_⟩
          intro w hSw
          (try dsimp only at hSw)
          go_simp
          (try with_reducible rfl)
        (try simp only [Act.put, List.setIfInBounds_toArray, List.set_cons_zero, List.set_cons_succ])
        refine wpAnyH_take (i := 5) (oi := ?_) (v := ?_) ?_ (by kernel_rfl) (by kernel_rfl) (by kernel_rfl) ?_ ?_ h0 ?_
        rotate_left 2
        · simp only [List.getElem?_toArray, List.getElem?_cons_zero, List.getElem?_cons_succ]; rfl
        · exact fun _ _ _ h => h
        · refine Or.inl ⟨by rfl, ?_⟩
          intro w hSw
          (try dsimp only at hSw)
          go_simp
          (try with_reducible rfl)
        (try simp only [Act.put, List.setIfInBounds_toArray, List.set_cons_zero, List.set_cons_succ])
        refine wpAnyH_take (i := 6) (oi := ?_) (v := .string (t.extract k t.size)) ?_ (by kernel_rfl) (by kernel_rfl) (by kernel_rfl) ?_ ?_ h0 ?_
        rotate_left
        · simp only [List.getElem?_toArray, List.getElem?_cons_zero, List.getElem?_cons_succ]; rfl
        · exact fun _ _ _ h => h
        · refine Or.inl ⟨by rfl, ?_⟩
          intro w hSw
          (try dsimp only at hSw)
          go_simp
          skip
        (try simp only [Act.put, List.setIfInBounds_toArray, List.set_cons_zero, List.set_cons_succ])
        refine wpAnyH_ready (rs := [7]) (by kernel_rfl) (by simp) ?_
        refine AllReadyH.cons (o := ?_) ?_ (fun K hK => ?_) AllReadyH.nil
        rotate_left
        · simp only [List.getElem?_toArray, List.getElem?_cons_zero, List.getElem?_cons_succ]; rfl
        go_simp
        refine RS.out.mono ?_; rintro e w5 ⟨rfl, b5, f5, k5, s5⟩
        go_wp2_with fail
        refine hK.out _ _ trivial (fun h1 => ?_)
        clear hK K
        refine wpAnyH_done (by kernel_rfl) ?_ _
        refine NoPanic.normal ?_
        have HH := Lib.hid (show But (Only g) w3 w5 ∧ ∃ f, Blk w5 g 3 (rowI (t.size + 1) f) ∧ Sup (textL s.data.toList) (fun x b => x ∈ p ∧ b < k + 1) f from
          ⟨HB.out.trans ((But.refl (Only g) wr).drew.trans b5 (fun i hi => .inl hi)) (fun i hi => .inl hi), f5, k5, s5.iff (fun x b _ => ⟨fun h => h.elim (fun h => ⟨h.1, by omega⟩) (fun h => ⟨h.1, by omega⟩), fun ⟨h1, h2⟩ => by
            by_cases e : b = k
            · exact .inr ⟨h1, e⟩
            · exact .inl ⟨h1, by omega⟩⟩)⟩)
        clear b5 k5 s5 h0 h1 RS HB
        go_wp2_with fail
        go_roundw
        case rel => exact ⟨k + 1, by omega, by go_num, HH⟩
        case measure => simp [intOf]; omega
      · obtain rfl : k = t.size := by omega
        have hte : ¬ t = ByteArray.empty := by
          intro h
          rw [h] at ht1
          simp at ht1
        go_wp2_with fail
        go_ret
        obtain ⟨hb, f, kk, sup⟩ := hh.out
        obtain ⟨bs, bv, G, hm, hF⟩ := MD.out
        have hgg := HG2.out bs bv G hm
        have hs := HTS.out
        have hlen : (valsL p s.data.toList).length = t.size - 1 := by rw [valsL_length HP.out, list_size]; omega
        have hget : ∀ j, j < t.size - 1 → (valsL p s.data.toList)[j]? = some (f (j + 1)) := fun j hj => by
          rw [valsL_get HP.out (by rw [list_size]; omega)]
          congr 1
          exact (numF_sup p _).uniq sup (fun x b _ => by rw [textL_length, list_size, ← hs]) (j + 1)
        have b3 : But (Only g) w2 wr := (But.of_ext X3.out).trans hb (fun i hi => .inl hi)
        have hm3 := hm.keepB b3 (fun e => hgg.1 e.symm) (fun i hi e => hgg.2 (by rw [← show i = g from e]; exact hi))
        have hz := HSZ.out
        have hw2 := HGL.out
        have hg3 := kk.lt
        have hwr := b3.size
        have hsz2 := SZ2.out
        refine ⟨B2.out.trans b3 (fun i hi => .inr (by rw [show i = g from hi]; exact hw2)), (fun i => F i ∨ (w1.heap.size ≤ i ∧ i < g)), some ⟨g, 1, none⟩, t.size, by rw [hlen]; rfl,
          ⟨TH.out.pat, TH.out.len, fun h => h.elim TH.out.own (fun h => by omega), fun i hi => hi.elim (fun h => by have := TH.out.low i h; omega) (fun h => by omega), .inr ⟨bs, bv, G, hm3, hF⟩⟩, fun i hi => hi.imp id (fun h => ⟨by omega, by omega⟩), fun j v hv => ?_, fun ad e => ?_⟩
        · have hj : j < t.size - 1 := by
            have := (List.getElem?_eq_some_iff.1 hv).1
            rw [List.length_map, hlen] at this
            exact this
          rw [List.getElem?_map, hget j hj] at hv
          simp only [Option.map_some, Option.some.injEq] at hv
          refine ⟨_, rfl, hg3, ?_⟩
          have e1 : (⟨g, 1, none⟩ : Addr).add j = ⟨g, j + 1, none⟩ := by
            unfold Addr.add
            by_cases h0 : j = 0
            · subst h0; rfl
            · simp [h0]; omega
          rw [e1, kk.cell, rowI_get (by omega), hv]
        · cases e
          refine ⟨hw2, fun h => h.elim (fun h => ?_) (fun h => by simp at h), fun j _ => ?_⟩
          · have := TH.out.low _ h
            simp only at this
            omega
          · have e1 : (⟨g, 1, none⟩ : Addr).add j = ⟨g, j + 1, none⟩ := by
              unfold Addr.add
              by_cases h0 : j = 0
              · subst h0; rfl
              · simp [h0]; omega
            rw [e1]
            exact kk.free _
end L11
end Go.Proofs.YtmmgmcfhlhghoaaGreatDoor

namespace Go.Proofs.YtmmgmcfhlhghoaaGreatDoor
open Go.RowKit

/-- All cells but those at T are as they were; so is all that lies below N. -/
structure Chg (T : Addr → Prop) (N : Nat) (w w' : World) : Prop where
  size : w.heap.size ≤ w'.heap.size
  cell : ∀ p v, ¬ T p → w.cell? p = some v → w'.cell? p = some v
  fz : ∀ p v, ¬ T p → w.cell? p = some v → w.frozen? p = false → w'.frozen? p = false
  blk : ∀ b cs t f, (∀ o, ¬ T ⟨b, o, none⟩) → w.heap[b]? = some (.cells cs t f) → w'.heap[b]? = some (.cells cs t f)
  old : ∀ w0, w0.heap.size ≤ N → Ext w0 w → Ext w0 w'
theorem Chg.refl (T : Addr → Prop) (N : Nat) (w : World) : Chg T N w w := ⟨Nat.le_refl _, fun _ _ _ h => h, fun _ _ _ _ h => h, fun _ _ _ _ _ h => h, fun _ _ h => h⟩
theorem Chg.trans {T : Addr → Prop} {N : Nat} {a b c : World} (h : Chg T N a b) (k : Chg T N b c) : Chg T N a c :=
  ⟨Nat.le_trans h.size k.size, fun p v hp hc => k.cell p v hp (h.cell p v hp hc), fun p v hp hc hf => k.fz p v hp (h.cell p v hp hc) (h.fz p v hp hc hf), fun b cs t f hb hc => k.blk b cs t f hb (h.blk b cs t f hb hc), fun w0 l x => k.old w0 l (h.old w0 l x)⟩
theorem Chg.of_ext {T : Addr → Prop} {N : Nat} {a b : World} (x : Ext a b) : Chg T N a b :=
  ⟨x.size, fun _ _ _ hc => x.at hc, fun _ _ _ hc hf => x.fz hc hf, fun b _ _ _ _ hc => (x.block b (Array.getElem?_eq_some_iff.1 hc).1).trans hc, fun _ _ y => y.trans x⟩
theorem Chg.wide {T U : Addr → Prop} {N M : Nat} {a b : World} (h : Chg T N a b) (hTU : ∀ p, T p → U p) (hM : M ≤ N) : Chg U M a b :=
  ⟨h.size, fun p v hp => h.cell p v (fun t => hp (hTU p t)), fun p v hp => h.fz p v (fun t => hp (hTU p t)), fun b cs t f hb => h.blk b cs t f (fun o t => hb o (hTU _ t)), fun w0 l => h.old w0 (by omega)⟩
theorem Chg.set {T : Addr → Prop} {N : Nat} (w : World) (g o : Nat) (u : Value) (ht : T ⟨g, o, none⟩) (hg : N ≤ g) : Chg T N w (w.setCell ⟨g, o, none⟩ u) := by
  refine ⟨Nat.le_of_eq (by simp [World.setCell]), fun p v hp hc => ?_, fun p v _ _ hf => by rw [World.frozen?_setCell]; exact hf, fun b cs t f hb hc => ?_, fun w0 l x => x.setCell (by simp; omega) u⟩
  · have hne : (⟨g, o, none⟩ : Addr) ≠ p := fun e => hp (by rw [← e]; exact ht)
    rw [World.cell?_setCell_other _ _ _ _ hne]
    exact hc
  · show (w.heap.modify g _)[b]? = _
    rw [Array.getElem?_modify, if_neg (fun e => hb o (by rw [← e]; exact ht)), hc]
theorem cell_of_block {w w' : World} {p : Addr} (h : w'.heap[p.block]? = w.heap[p.block]?) : w'.cell? p = w.cell? p ∧ w'.frozen? p = w.frozen? p := by
  unfold World.cell? World.frozen?
  rw [h]
  exact ⟨rfl, rfl⟩
theorem Chg.grown {T : Addr → Prop} {N : Nat} {a b c : World} {row : Option Nat} (h : Chg T N a b) (x : b.grownBy c row) (hr : ∀ k, row = some k → a.heap.size ≤ k) (hN : N ≤ a.heap.size) : Chg T N a c := by
  have e : ∀ p v, a.cell? p = some v → c.cell? p = b.cell? p ∧ c.frozen? p = b.frozen? p := fun p v hc => by
    have hlt := World.block_lt_of_cell? a _ hc
    exact cell_of_block (x.block p.block (Nat.lt_of_lt_of_le hlt h.size) fun e => by have := hr _ e.symm; omega)
  refine ⟨Nat.le_trans h.size x.size, fun p v hp hc => (e p v hc).1.trans (h.cell p v hp hc), fun p v hp hc hf => (e p v hc).2.trans (h.fz p v hp hc hf), fun n cs t f hb hc => ?_, fun w0 l y => ?_⟩
  · have hlt := (Array.getElem?_eq_some_iff.1 hc).1
    exact (x.block n (Nat.lt_of_lt_of_le hlt h.size) fun e => by have := hr _ e.symm; omega).trans (h.blk n cs t f hb hc)
  exact Below.grown (h.old w0 l y) x (h.old w0 l y).size fun k hk => Nat.le_trans l (Nat.le_trans hN (hr k hk))

/-- append(own, more...), whatever the elements are. -/
theorem run_putV {P : Program} {w : World} {base : Nat} (t ty e : TypeId) (z : Value) (size bytes : Nat) (ht : P.underlying t = some (.slice e)) (hz : (P.info? e).map (fun i => (i.zero, i.size, i.bytes)) = some (some z, size, bytes))
    (hzs : z.cells.size = size) (hsz : 0 < size) (hb : bytes ≤ 1000) {v : Value} {n : Nat} {xs : List Value} (hown : w.ownsRow base e size v n xs) (a : Addr) (m c : Nat) (news : List Value) (hl : news.length = m * size)
    (hnews : ∀ j u, news[j]? = some u → w.cell? (a.add j) = some u) (h1 : ∀ u ∈ news, u.oneCell' = true) (hm : n + m ≤ 1000000) (hbase : base ≤ w.heap.size) :
    ∃ A' c' w', (Builtin.append_ #[t, t] ty #[v, .slice (some a) m c]).run P w = .ok (.slice A' (n + m) c') w' ∧ w'.ownsRow base e size (.slice A' (n + m) c') (n + m) (xs ++ news) ∧ w.grownBy w' v.ownBlock := by
  obtain ⟨i, hi, hz0, hsz', hby⟩ := info_parts hz
  obtain ⟨v', w', hr, ho, hg, _, _⟩ := run_append_own_at (P := P) w base t ty e i z size bytes ht hi hz0 hsz' hby hzs hsz v n xs hown a m c news hl hnews h1 (by unfold maxLen; omega)
    (Nat.le_trans (Nat.mul_le_mul hm hb) (by omega)) hbase
  obtain ⟨A', c', rfl, _⟩ := own_seen ho
  exact ⟨A', c', w', hr, ho, hg⟩

/-- A row of integers of one's own reads as a function of the place. -/
theorem own_rowF {w : World} {base : Nat} {e : TypeId} {v : Value} {n : Nat} {f : Nat → Int} (h : w.ownsRow base e 1 v n ((List.range n).map fun j => .int .i64 (f j))) :
    ∃ A c, v = .slice A n c ∧ n ≤ c ∧ c ≤ maxLen ∧ ∀ j, j < n → ∃ r, A = some ⟨r, 0, none⟩ ∧ base ≤ r ∧ r < w.heap.size ∧ w.cell? ⟨r, j, none⟩ = some (.int .i64 (f j)) := by
  obtain ⟨hl, ⟨rfl, rfl⟩ | ⟨g, cap, cur, rfl, hb, hg, hc, hm, hs, ht⟩⟩ := h
  · exact ⟨none, 0, rfl, Nat.le_refl _, by simp [maxLen], fun j hj => by omega⟩
  · refine ⟨_, cap, rfl, hc, hm, fun j hj => ⟨g, rfl, hb, (Array.getElem?_eq_some_iff.1 hg).1, ?_⟩⟩
    have e1 : w.cell? ⟨g, j, none⟩ = cur[j]? := by simp [World.cell?, hg]
    rw [e1]
    have e2 : cur[j]? = (cur.toList.take (n * 1))[j]? := by rw [List.getElem?_take_of_lt (by omega)]; simp
    rw [e2, ht]
    simp [hj]
theorem Chg.owns {T : Addr → Prop} {N base size n : Nat} {e : TypeId} {w w' : World} {v : Value} {xs : List Value} (h : Chg T N w w') (ow : w.ownsRow base e size v n xs) (hT : ∀ r o, base ≤ r → ¬ T ⟨r, o, none⟩) : w'.ownsRow base e size v n xs := by
  refine ⟨ow.1, ?_⟩
  rcases ow.2 with hn | ⟨g, cap, cur, rfl, hb, hgg, rest⟩
  · exact .inl hn
  · exact .inr ⟨g, cap, cur, rfl, hb, h.blk g _ _ _ (fun o => hT g o hb) hgg, rest⟩
end Go.Proofs.YtmmgmcfhlhghoaaGreatDoor

namespace Go.Proofs.YtmmgmcfhlhghoaaGreatDoor
open Go.RowKit
open Go.Lib hiding intOf
namespace L11
open L10 (TN plainB patB tn)

theorem int_info : (Tryz.prog.info? 3).map (fun i => (i.zero, i.size, i.bytes)) = some (some (.int .i64 0), 1, 8) := by kernel_rfl
theorem pat_info : (Tryz.prog.info? 56).map (fun i => (i.zero, i.size, i.bytes)) = some (some (.agg #[.string ⟨#[]⟩, .slice none 0 0]), 2, 40) := by kernel_rfl
/-- What Clone answers. -/
def CloneQ (w : World) (vs : List Int) (e : Ending) (w' : World) : Prop := Ext w w' ∧ ∃ A c, e = .returned (.slice A vs.length c) ∧ SeenL w' A vs ∧ ∀ ad, A = some ad → w.heap.size ≤ ad.block ∧ ad.block < w'.heap.size
set_option maxRecDepth 100000 in
set_option maxHeartbeats 4000000 in
theorem clone_any (A : Option Addr) (vs : List Int) (c : Nat) (w : World) (sn : SeenL w A vs) (hv : vs ≠ []) (hn : vs.length ≤ 100000) : Calls Tryz.prog 14 #[.slice A vs.length c] w (CloneQ w vs) := by
  have h0 : 0 < vs.length := List.length_pos_iff.2 hv
  obtain ⟨ad, rfl⟩ : ∃ ad, A = some ad := by
    obtain ⟨ad, e, _⟩ := sn 0 (.int .i64 vs[0]) (by simp [h0])
    exact ⟨ad, e⟩
  have heq := fun W => Go.run_eql_slice_nil (P := Tryz.prog) W 48 3 (some ad) vs.length c Tryz.underlying48
  simp only [Option.isNone_some] at heq
  have X1 : Ext w (w.alloc (.cells #[] 3)) := (Ext.refl w).alloc _
  obtain ⟨A', c', w', hr, ho, hg⟩ := run_putV (P := Tryz.prog) (w := w.alloc (.cells #[] 3)) (base := w.heap.size) 48 48 3 (.int .i64 0) 1 8 Tryz.underlying48 int_info rfl (by omega) (by omega)
    (v := .slice (some ⟨w.heap.size, 0, none⟩) 0 0) (n := 0) (xs := []) (World.ownsRow_made w #[] 0 (Nat.le_refl _) (Nat.zero_le _) rfl) ad vs.length c (vs.map (.int .i64)) (by simp)
    (fun j u hu => by
      obtain ⟨ad', e, _, hc⟩ := (sn.ext X1) j u hu
      cases e
      exact hc) (by intro u hu; obtain ⟨x, _, rfl⟩ := List.mem_map.1 hu; rfl) (by omega) (by simp)
  rw [Nat.zero_add] at hr ho
  have X2 : Ext w w' := Below.grown X1 hg X1.size (fun k e => by cases e; exact Nat.le_refl _)
  have FIN := Lib.hid (show CloneQ w vs (.returned (.slice A' vs.length c')) w' from by
    refine ⟨X2, A', c', rfl, ?_, fun ad' e => ?_⟩
    · obtain ⟨A2, c2, e2, hs⟩ := own_seen ho
      cases e2
      exact hs
    · have h3 := ho.2
      rcases h3 with ⟨h4, h5⟩ | ⟨g, cap, cur, hv', _⟩
      · omega
      · simp only [Value.slice.injEq, true_and] at hv'
        rw [e] at hv'
        have h5 : ad' = ⟨g, 0, none⟩ := by simpa using hv'.1
        exact ho.lt ad'.block (by rw [e, h5]; rfl))
  clear sn X1 ho hg X2 h0
  generalize vs.length = n at *
  go_enter Tryz.func14, Tryz.ntmps14
  go_wp2_with (first | (at_builtin; refine wpList_ran rfl _ _ rfl hr ?_))
  go_ret
  exact FIN.out

/-- What New keeps: a trie that is not made, whose list grows. -/
structure NewAt (B : Nat) (w wr : World) (vl : Value) (cl : List WP) : Prop where
  x : Ext w wr
  box : Blk wr B 77 [vl, .int .u32 0, .int .i32 0, .int .u32 0, .int .i64 0, .map none, .map none]
  bB : w.heap.size ≤ B
  row : wr.ownsRow (B + 1) 56 2 vl cl.length (flatW cl)
  inn : ∀ y ∈ cl, SeenL wr y.A y.ns ∧ ∀ ad, y.A = some ad → B < ad.block ∧ ad.block < wr.heap.size ∧ vl.ownBlock ≠ some ad.block
theorem NewAt.bw {B : Nat} {w wr : World} {vl : Value} {cl : List WP} (h : NewAt B w wr vl cl) : B + 1 ≤ wr.heap.size := h.box.lt
theorem NewAt.ext {B : Nat} {w wr w' : World} {vl : Value} {cl : List WP} (h : NewAt B w wr vl cl) (x : Ext wr w') : NewAt B w w' vl cl :=
  ⟨h.x.trans x, h.box.ext x, h.bB, OwnsRow.ext h.row x, fun y hy => ⟨(h.inn y hy).1.ext x, fun ad e => by obtain ⟨a, b, c⟩ := (h.inn y hy).2 ad e; exact ⟨a, x.grows _ b, c⟩⟩⟩
/-- One pattern more. -/
theorem NewAt.put {B : Nat} {w wr : World} {vl : Value} {cl : List WP} (h : NewAt B w wr vl cl) (y : WP) (ad : Addr) (hc0 : wr.cell? ad = some (.string y.s)) (hc1 : wr.cell? (ad.add 1) = some (.slice y.A y.ns.length y.c)) (sy : SeenL wr y.A y.ns)
    (hy : ∀ a, y.A = some a → B < a.block ∧ a.block < wr.heap.size ∧ vl.ownBlock ≠ some a.block) (hn : cl.length ≤ 10000) (ty : TypeId) :
    ∃ A' n' c' w', (Builtin.append_ #[22, 22] ty #[vl, .slice (some ad) 1 1]).run Tryz.prog wr = .ok (.slice A' n' c') w' ∧ NewAt B w (w'.setCell ⟨B, 0, none⟩ (.slice A' n' c')) (.slice A' n' c') (cl ++ [y]) ∧
      w'.cell? ⟨B, 0, none⟩ = some vl ∧ w'.frozen? ⟨B, 0, none⟩ = false ∧ (∀ p v, wr.cell? p = some v → vl.ownBlock ≠ some p.block → p.block ≠ B → (w'.setCell ⟨B, 0, none⟩ (.slice A' n' c')).cell? p = some v) ∧ wr.heap.size ≤ w'.heap.size ∧
      (∀ p v, wr.cell? p = some v → vl.ownBlock ≠ some p.block → w'.cell? p = some v) := by
  obtain ⟨i, hi, hz0, hsz, hby⟩ := info_parts pat_info
  obtain ⟨v', w', hr, ho, hg, _, hat⟩ := run_append_own_at (P := Tryz.prog) wr (B + 1) 22 ty 56 i (.agg #[.string ⟨#[]⟩, .slice none 0 0]) 2 40 Tryz.underlying22 hi hz0 hsz hby rfl (by omega) vl cl.length (flatW cl) h.row ad 1 1 [.string y.s, .slice y.A y.ns.length y.c] rfl
    (fun j u hu => by
      match j, hu with
      | 0, hu => simp at hu; subst hu; simpa [Addr.add] using hc0
      | 1, hu => simp at hu; subst hu; exact hc1
      | j + 2, hu => simp at hu) (by simp [Value.oneCell']) (by unfold maxLen; omega) (by omega) h.bw
  obtain ⟨A', c', rfl, _⟩ := own_seen ho
  have BG : But (fun k => vl.ownBlock = some k) wr w' := But.of_grown hg (fun g hg => hg)
  have BS : But (Only B) w' (w'.setCell ⟨B, 0, none⟩ (.slice A' (cl.length + 1) c')) := But.set (S := Only B) w' ⟨B, 0, none⟩ _ rfl
  have oB : vl.ownBlock ≠ some B := fun e => by have := (h.row.lt _ e).1; omega
  have kb : Blk w' B 77 [vl, .int .u32 0, .int .i32 0, .int .u32 0, .int .i64 0, .map none, .map none] := BG.blk h.box oB
  have fresh : ∀ a : Nat, a < wr.heap.size → vl.ownBlock ≠ some a → (Value.slice A' (cl.length + 1) c').ownBlock ≠ some a := fun a h1 h2 h3 => by
    rcases hat with h4 | h4
    · rw [h4] at h3; exact h2 h3
    · rw [h4] at h3; cases h3; omega
  have lift : ∀ z : WP, SeenL wr z.A z.ns → (∀ a, z.A = some a → B < a.block ∧ a.block < wr.heap.size ∧ vl.ownBlock ≠ some a.block) →
      SeenL (w'.setCell ⟨B, 0, none⟩ (.slice A' (cl.length + 1) c')) z.A z.ns ∧ ∀ a, z.A = some a → B < a.block ∧ a.block < (w'.setCell ⟨B, 0, none⟩ (.slice A' (cl.length + 1) c')).heap.size ∧ (Value.slice A' (cl.length + 1) c').ownBlock ≠ some a.block := fun z sz hz =>
    ⟨seenL_keep (seenL_keep sz BG (fun _ a e k => (hz a e).2.2 k)) BS (fun _ a e k => by have := (hz a e).1; have k' : a.block = B := k; omega),
      fun a e => by
        obtain ⟨b1, b2, b3⟩ := hz a e
        exact ⟨b1, Nat.lt_of_lt_of_le (Nat.lt_of_lt_of_le b2 BG.size) BS.size, fresh _ b2 b3⟩⟩
  refine ⟨A', cl.length + 1, c', w', hr, ⟨?_, kb.set 0 _, h.bB, ?_, fun z hz => ?_⟩, kb.cell 0, kb.free 0, fun p v hp h1 h2 => BS.at (BG.at hp h1) h2, BG.size, fun p v hp h1 => BG.at hp h1⟩
  · have hb := h.bB
    exact BS.ext (BG.ext h.x (fun k e => by have := (h.row.lt k e).1; omega)) (fun k e => by have e' : k = B := e; omega)
  · rw [flatW_snoc, List.length_append]
    exact ownsRow_setCell_below ho (by show B < B + 1; omega) _
  · rcases List.mem_append.1 hz with hz | hz
    · exact lift z (h.inn z hz).1 (h.inn z hz).2
    · obtain rfl : z = y := by simpa using hz
      exact lift z sy hy
end L11
end Go.Proofs.YtmmgmcfhlhghoaaGreatDoor

