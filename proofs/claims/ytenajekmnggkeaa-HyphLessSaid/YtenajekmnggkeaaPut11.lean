/- The landed put of layer 11. -/
import Derived.Test.YtenajekmnggkeaaGrow11
import Derived.Test.YtenajekmnggkeaaCheck10
import Derived.Lib.LazyBuf
import Derived.Deep.RegionHeld3
namespace Go.Proofs.Ytenajekmnggkeaa
open Go.RowKit
open Go.Lib hiding intOf
namespace L11
open L10 (TN plainB patB tn)

theorem RowsAt.addTo {w : World} {bv n : Nat} {ns : List (List UInt8)} {p : List TN} {G : List UInt8 → Nat} (h : RowsAt w bv n ns p G) (hk : ∀ q, q ∈ keysL p → q ∈ ns) (l : List UInt8) : ∀ k, RowsAt w bv n (addTo ns l k) p G
  | 0 => h
  | k + 1 => by
    have ih := RowsAt.addTo h hk l k
    rw [L11.addTo, addQ]
    split
    · exact ih
    · rename_i hn
      exact ih.grow (fun hq => hn (mem_addTo.2 (.inl (hk _ hq))))
theorem RowsAt.keepB {S : Nat → Prop} {w w' : World} {bv n : Nat} {ns : List (List UInt8)} {p : List TN} {G : List UInt8 → Nat} (h : RowsAt w bv n ns p G) (x : But S w w') (hb : ¬ S bv) (hS : ∀ q, q ∈ keysL p → ¬ S (G q)) : RowsAt w' bv n ns p G :=
  h.keep (x.block bv h.lt hb) (fun q hq => x.block _ (h.row q hq).lt (hS q hq))
/-- make([]int, m). -/
theorem make_blk (n : Nat) (hn : n ≤ 1000000) : ∃ cs : Array Value, (∀ w, (Instr.makeSlice 26 (.int .i64 n) (.int .i64 n)).run Try.prog w = .ok (.slice (some ⟨w.heap.size, 0, none⟩) n n) (w.alloc (.cells cs 3))) ∧ cs.toList = (List.range n).map fun _ => .int .i64 0 := by
  obtain ⟨i, h1, h2, h3, h4⟩ := info_parts (show (Try.prog.info? 3).map (fun i => (i.zero, i.size, i.bytes)) = some (some (.int .i64 0), 1, 8) by kernel_rfl)
  refine ⟨_, fun w => run_make w 26 3 i _ Try.underlying26 h1 h2 .i64 .i64 n n (by omega) (Int.le_refl _) (by rw [h4]; omega) (by omega), ?_⟩
  apply List.ext_getElem
  · simp [madeCells, h3, Value.cells]
  · intro j hj1 hj2
    simp [madeCells, h3, Value.cells, Nat.mod_one]
theorem valF_over (p : List TN) (l : List UInt8) (n : Nat) (vs : List Int) (q : List UInt8) (k : Nat) : valF ((p ++ [(l, List.replicate n 0)]) ++ [(l, vs)]) q k = valF (p ++ [(l, vs)]) q k := by
  refine eq_of_le fun m => ?_
  rw [valF_le, valF_le]
  simp only [List.mem_append, List.mem_singleton]
  constructor
  · rintro ⟨h0, h1⟩
    exact ⟨h0, fun x hx e => h1 x (hx.elim (fun h => .inl (.inl h)) .inr) e⟩
  · rintro ⟨h0, h1⟩
    refine ⟨h0, fun x hx e => ?_⟩
    rcases hx with (hx | hx) | hx
    · exact h1 x (.inl hx) e
    · rw [hx]
      by_cases hk : k < n
      · simpa [List.getD, hk] using h0
      · simpa [List.getD, hk] using h0
    · exact h1 x (.inr hx) e
/-- A new row of noughts, and the map's new entry. -/
theorem put_new (W : World) (bv n2 : Nat) (ns : List (List UInt8)) (p : List TN) (G : List UInt8 → Nat) (l : List UInt8) (cs : Array Value) (m : Nat) (kr : RowsAt W bv n2 ns p G) (N : Nds ns) (hq : l ∈ ns) (hin : l ∉ keysL p) (hn : n2 < 1000000) (hl : ns.length < 1000000) (hm : l.length + 1 = m)
    (hcs : cs.toList = (List.range m).map fun _ => .int .i64 0) :
    ∃ w5, (Instr.mapUpdate 71 (.map (some bv)) (.int .i64 (num ns l)) (.slice (some ⟨W.heap.size, 0, none⟩) m m)).run Try.prog (W.alloc (.cells cs 3)) = .ok () w5 ∧
      RowsAt w5 bv (n2 + 1) ns (p ++ [(l, List.replicate m 0)]) (fun r => if r = l then W.heap.size else G r) ∧ But (Only bv) W w5 ∧ W.heap.size < w5.heap.size := by
  have hg : Blk (W.alloc (.cells cs 3)) W.heap.size 3 ((List.range (l.length + 1)).map fun _ => .int .i64 0) := by
    have := Blk.new W 3 cs
    rw [hcs] at this
    rw [hm]; exact this
  have x : Ext W (W.alloc (.cells cs 3)) := (Ext.refl W).alloc _
  obtain ⟨w5, h1, h2, h3⟩ := (kr.keep (x.block _ kr.lt) (fun q hq => x.block _ (kr.row q hq).lt)).new N hq hin hn hl hg (fun r hr => by have := (kr.row r hr).lt; omega)
  rw [hm] at h1 h2
  refine ⟨w5, h1, h2, (But.of_ext x).trans (But.of_grown (S := Only bv) h3 (fun g hg => by cases hg; rfl)) (fun i hi => .inl hi), ?_⟩
  have := h3.size
  have e : (W.alloc (.cells cs 3)).heap.size = W.heap.size + 1 := by simp
  omega
theorem take_at {s : ByteArray} {k : Nat} (h : k < s.size) : s.data.toList.take (k + 1) = s.data.toList.take k ++ [s[k]] := by
  rw [List.take_succ_eq_append_getElem (by simpa using h)]; rfl
theorem list_size (s : ByteArray) : s.data.toList.length = s.size := by simp
theorem RowsAt.mono {w : World} {bv n m : Nat} {ns : List (List UInt8)} {p : List TN} {G : List UInt8 → Nat} (h : RowsAt w bv n ns p G) (hn : n ≤ m) : RowsAt w bv m ns p G := by
  obtain ⟨⟨x, hm, q⟩, hr, hi⟩ := h
  exact ⟨⟨x, hm.mono hn, q⟩, hr, hi⟩
/-- A row that lift has lifted. -/
theorem RowsAt.lifted {w w' : World} {bv n m : Nat} {ns : List (List UInt8)} {p : List TN} {G : List UInt8 → Nat} (h : RowsAt w bv n ns p G) (l : List UInt8) (vs : List Int) (hx : l ∈ keysL p) (hm : l.length + 1 = m) (hb : But (Only (G l)) w w')
    (hg : Blk w' (G l) 3 (rowI m (liftF (valF p l) 0 m (fun j => vs.getD j 0)))) : RowsAt w' bv n ns (p ++ [(l, vs)]) G := by
  refine h.lift (l, vs) hx hb ?_
  show Blk w' (G l) 3 (rowI (l.length + 1) (fun k => max (valF p l k) (vs.getD k 0)))
  rw [hm, rowI_congr (g := liftF (valF p l) 0 m (fun j => vs.getD j 0))]
  · exact hg
  · intro j hj
    unfold liftF
    rw [if_pos (by omega), Nat.sub_zero]
/-- What put may change. -/
def putS (B bs bv : Nat) (p : List TN) (G : List UInt8 → Nat) (k : Nat) : Prop := k = B ∨ k = bs ∨ k = bv ∨ ∃ q, q ∈ keysL p ∧ k = G q
/-- What put leaves. -/
def PutQ (w : World) (B bs bv n n2 : Nat) (vl : Value) (d st : Int) (ns : List (List UInt8)) (p : List TN) (x : TN) (G : List UInt8 → Nat) (e : Ending) (w' : World) : Prop :=
  e = .returned (.tuple #[]) ∧ But (putS B bs bv p G) w w' ∧ Blk w' B 73 (trieC vl d st ns.length bs bv) ∧ StepsAt w' bs n ns ∧
    ∃ G', RowsAt w' bv n2 ns (p ++ [x]) G' ∧ (∀ q, q ∈ keysL p → G' q = G q) ∧ ∀ q, q ∈ keysL (p ++ [x]) → q ∉ keysL p → w.heap.size ≤ G' q

set_option maxRecDepth 100000 in
set_option maxHeartbeats 8000000 in
theorem put_any (B bs bv n n2 : Nat) (vl : Value) (d st : Int) (ns : List (List UInt8)) (p : List TN) (G : List UInt8 → Nat) (x : WP) (w : World) (N : Nds ns) (hk : ∀ q, q ∈ keysL p → q ∈ ns) (kb : Blk w B 73 (trieC vl d st ns.length bs bv))
    (ks : StepsAt w bs n ns) (kr : RowsAt w bv n2 ns p G) (hx : patB (tn x) = true) (sn : SeenL w x.A x.ns) (hA : ∀ ad, x.A = some ad → ¬ putS B bs bv p G ad.block) (hbb : bs ≠ bv) (hn : n < 800000) (hn2 : n2 < 800000) (hl : ns.length < 800000) :
    Calls Try.prog 52 #[.pointer (some ⟨B, 0, none⟩), wpV x] w (PutQ w B bs bv (n + x.s.size) (n2 + 1) vl d st (addTo ns x.s.data.toList x.s.size) p (tn x) G) := by
  obtain ⟨s, vs, A, c⟩ := x
  dsimp only at sn hA ⊢
  have hpl : 1 ≤ s.size ∧ s.size ≤ 42 := by have := L10.pat_len hx; simpa [tn] using this
  have hvl : vs.length = s.size + 1 := by have := (L10.pat_vals hx).1; simpa [tn] using this
  obtain ⟨V, hV⟩ : ∃ V, V = w.alloc (.cells #[.string s, .slice A vs.length c] 50) := ⟨_, rfl⟩
  have W0 : Ext w V := by rw [hV]; exact (Ext.refl _).alloc _
  have kP : Blk V w.heap.size 50 [.string s, .slice A vs.length c] := by rw [hV]; exact Blk.lit _ _ _ _ rfl
  have hRB : w.heap.size ≠ B := by have := kb.lt; omega
  have hRs : w.heap.size ≠ bs := by have := ks.lt; omega
  have hBs : B ≠ bs := ks.not_block kb
  have HX := Lib.hid W0
  have KB := Lib.hid (kb.ext W0)
  have KS := Lib.hid (ks.ext W0)
  have KR := Lib.hid (show RowsAt V bv n2 ns p G from kr.keep (W0.block _ kr.lt) (fun q hq => W0.block _ (kr.row q hq).lt))
  have SN := Lib.hid (sn.ext W0)
  have KP := Lib.hid kP
  have HL := Lib.hid (num_nil N)
  have HVL := Lib.hid hvl
  have HK := Lib.hid hk
  have HPX := Lib.hid hx
  have HAH := Lib.hid hA
  have HSZ := Lib.hid (show V.heap.size = w.heap.size + 1 by rw [hV]; simp)
  have LTR := Lib.hid (show bs < w.heap.size ∧ bv < w.heap.size ∧ B < w.heap.size ∧ ∀ q, q ∈ keysL p → G q < w.heap.size from ⟨ks.lt, kr.lt, kb.lt, fun q hq => (kr.row q hq).lt⟩)
  have HNB := Lib.hid (show B ≠ bv ∧ (∀ q, q ∈ keysL p → G q ≠ bs ∧ G q ≠ bv ∧ G q ≠ B) from ⟨kr.not_block kb, fun q hq => ⟨ks.not_block (kr.row q hq), kr.not_block (kr.row q hq), fun e => by have h1 := kr.row q hq; rw [e] at h1; exact blk_not h1 kb (by decide) rfl⟩⟩)
  unfold wpV
  dsimp only
  generalize hm : vs.length = m at *
  have HM := Lib.hid hm
  clear kb ks kr sn kP W0 hk hx hvl hA hm
  go_enter Try.func52, Try.ntmps52
  go_upto_region 1 with (fail)
  rw [← hV]
  clear hV
  generalize hR : w.heap.size = R at *
  have HRW := Lib.hid hR
  clear hR
  have p0 : V.cell? ⟨R, 0, none⟩ = some (.string s) := KP.out.cell 0
  go_wp2_with fail
  go_loopw [4, 9] (fun at' i wr => ∃ k : Nat, k ≤ s.size ∧ i = .int .i64 k ∧ at' = .int .i64 (num (addTo ns s.data.toList k) (s.data.toList.take k)) ∧ Hid (But (fun j => j = B ∨ j = bs) V wr ∧ Blk wr B 73 (trieC vl d st (addTo ns s.data.toList k).length bs bv) ∧ StepsAt wr bs (n + k) (addTo ns s.data.toList k))) (fun _ i _ => s.size - (intOf i).toNat)
  case atStart => exact ⟨0, Nat.zero_le _, rfl, (by rw [show num (addTo ns s.data.toList 0) (s.data.toList.take 0) = 1 from HL.out]), ⟨But.refl _ _, KB.out, KS.out⟩⟩
  case round =>
    obtain ⟨k, hk, rfl, rfl, hh⟩ := hrel
    have HB := Lib.hid hh.out.1
    have p0 : wr.cell? ⟨R, 0, none⟩ = some (.string s) := HB.out.at p0 (by show ¬ (R = B ∨ R = bs); omega)
    have p1 : wr.cell? ⟨R, 1, none⟩ = some (.slice A m c) := HB.out.at (KP.out.cell 1) (by show ¬ (R = B ∨ R = bs); omega)
    have hal := addTo_length ns s.data.toList k
    have N2 := N.addTo s.data.toList k (by rw [list_size]; omega)
    by_cases hlt : k < s.size
    · have GR := Lib.hid (grow_any B bs bv (n + k) vl d st (addTo ns s.data.toList k) (s.data.toList.take k) s[k] wr N2 (take_mem_addTo N _ _) hh.out.2.1 hh.out.2.2 (by omega) (by omega))
      have E1 := Lib.hid (show addQ (addTo ns s.data.toList k) (s.data.toList.take k ++ [s[k]]) = addTo ns s.data.toList (k + 1) ∧ s.data.toList.take k ++ [s[k]] = s.data.toList.take (k + 1) by rw [addTo, take_at hlt]; exact ⟨rfl, rfl⟩)
      clear hh hal N2
      generalize hz : num (addTo ns s.data.toList k) (s.data.toList.take k) = a at *
      clear hz
      go_wp2_with fail
      refine GR.out.mono ?_; rintro e w2 ⟨rfl, b2, k2, s2⟩
      rw [E1.out.1, E1.out.2]
      rw [E1.out.1] at k2 s2
      have HH := Lib.hid (show But (fun j => j = B ∨ j = bs) V w2 ∧ Blk w2 B 73 (trieC vl d st (addTo ns s.data.toList (k + 1)).length bs bv) ∧ StepsAt w2 bs (n + (k + 1)) (addTo ns s.data.toList (k + 1)) from ⟨HB.out.trans b2 (fun i hi => .inl hi), k2, by rw [show n + (k + 1) = n + k + 1 by omega]; exact s2⟩)
      clear b2 k2 s2 GR E1 HB
      go_wp2_with fail
      go_roundw
      case rel => exact ⟨k + 1, by omega, by go_num, rfl, HH⟩
      case measure => simp [intOf]; omega
    · obtain rfl : k = s.size := by omega
      have hh := hh.out
      have hlen := list_size s
      have htk : s.data.toList.take s.size = s.data.toList := List.take_of_length_le (by omega)
      have hmem : s.data.toList ∈ addTo ns s.data.toList s.size := by have := take_mem_addTo N s.data.toList s.size; rwa [htk] at this
      have hb2 := HB.out
      have ⟨l1, l2, l3, l4⟩ := LTR.out
      have ⟨hBv, hGG⟩ := HNB.out
      have kr2 : RowsAt wr bv n2 (addTo ns s.data.toList s.size) p G := (RowsAt.addTo KR.out HK.out _ _).keepB hb2 (by show ¬ (bv = B ∨ bv = bs); omega) (fun q hq => by have := hGG q hq; show ¬ (G q = B ∨ G q = bs); omega)
      have q6 : wr.cell? ⟨B, 6, none⟩ = some (.map (some bv)) := hh.2.1.cell 6
      have hnr : 1 ≤ num (addTo ns s.data.toList s.size) s.data.toList ∧ num (addTo ns s.data.toList s.size) s.data.toList ≤ 9223372036854775807 := ⟨num_pos _ _, by have := num_le hmem; omega⟩
      have so2 : SeenL wr A vs := fun j v hv => by
        obtain ⟨ad, e, hbk, hc⟩ := SN.out j v hv
        refine ⟨ad, e, Nat.lt_of_lt_of_le hbk hb2.size, hb2.at hc (fun hh => HAH.out ad e ?_)⟩
        rw [addr_block] at hh
        exact hh.elim .inl (fun h => .inr (.inl h))
      have b1 : But (putS B bs bv p G) w wr := (But.of_ext HX.out).trans (hb2.mono (T := fun i => i = B ∨ i = bs) (fun i _ hi => hi)) (fun i hi => .inl (hi.elim .inl (fun h => .inr (.inl h))))
      have FIN := Lib.hid (show But (putS B bs bv p G) w wr ∧ Blk wr B 73 (trieC vl d st (addTo ns s.data.toList s.size).length bs bv) ∧ StepsAt wr bs (n + s.size) (addTo ns s.data.toList s.size) from ⟨b1, hh.2.1, hh.2.2⟩)
      have SO2 := Lib.hid so2
      have KR2 := Lib.hid kr2
      have HMEM := Lib.hid hmem
      have HSZ2 := Lib.hid (show R ≤ wr.heap.size by have := hb2.size; have := HSZ.out; omega)
      rw [htk]
      have LK1 := kr2.look (num (addTo ns s.data.toList s.size) s.data.toList) ⟨by omega, hnr.2⟩
      have LK2 : (Instr.lookup 71 (.map (some bv)) (.int .i64 (num (addTo ns s.data.toList s.size) s.data.toList)) false).run Try.prog wr.drew = .ok (rowV (valN (addTo ns s.data.toList s.size) (keysL p) G (num (addTo ns s.data.toList s.size) s.data.toList))) wr.drew :=
        (kr2.keep (w' := wr.drew) rfl (fun _ _ => rfl)).look _ ⟨by omega, hnr.2⟩
      rw [valN_num hmem] at LK1 LK2
      have hml : s.data.toList.length + 1 = m := by rw [hlen]; exact HVL.out.symm
      rw [hml] at LK1 LK2
      have HML := Lib.hid hml
      have HDEF := Lib.hid (show num (addTo ns s.data.toList s.size) s.data.toList = num (addTo ns s.data.toList s.size) s.data.toList from rfl)
      generalize hz : num (addTo ns s.data.toList s.size) s.data.toList = a at *
      have HZ := Lib.hid hz
      clear kr2 so2 hmem hnr hml hlen htk b1 hh hal N2 hz HDEF hb2 l1 l2 l3 l4 hBv hGG
      by_cases hin : s.data.toList ∈ keysL p
      · rw [if_pos hin] at LK1 LK2
        simp only [rowV] at LK1 LK2
        have HIN := Lib.hid hin
        have HG := Lib.hid ((KR2.out.row _ hin))
        generalize hg : G s.data.toList = g at *
        have HGE := Lib.hid hg
        have heq := fun W => Go.run_eql_slice_nil (P := Try.prog) W 26 3 (some ⟨g, 0, none⟩) m m Try.underlying26
        simp only [Option.isNone_some] at heq
        clear hin hg
        have LF := Lib.hid (lift_any g 0 m m m (valF p s.data.toList) A m c (fun j => vs.getD j 0) wr.drew (by have := HG.out; rw [rowL, HML.out] at this; exact this) (by have := SO2.out.fn; rw [HM.out] at this; exact this.ext ((Ext.refl wr).drew)) (fun _ ad e hb => HAH.out ad e (.inr (.inr (.inr ⟨_, HIN.out, by rw [HGE.out]; exact hb⟩)))) (Nat.le_refl _) (by omega) (by have := HVL.out; omega))
        go_wp2_with fail
        go_still_tail 8, (by kernel_rfl)
        change wpList _ _ _ _ _ wr.drew
        go_wp2_with fail
        refine LF.out.mono ?_; rintro e w3 ⟨rfl, b3, k3⟩
        go_wp2_with fail
        go_end0
        obtain ⟨f1, f2, f3⟩ := FIN.out
        obtain ⟨hBv, hGG⟩ := HNB.out
        have hgg := hGG _ HIN.out
        rw [HGE.out] at hgg
        have b4 : But (Only g) wr w3 := ((But.refl (Only g) wr).drew).trans b3 (fun i hi => .inl hi)
        refine ⟨rfl, f1.trans b4 (fun i hi => .inl (.inr (.inr (.inr ⟨_, HIN.out, by rw [HGE.out]; exact hi⟩)))), b4.blk f2 (fun e => hgg.2.2 e.symm), f3.keepB b4 (fun e => hgg.1 e.symm), G, ?_, fun _ _ => rfl, fun q hq hn => ?_⟩
        · exact ((KR2.out.keep (w' := wr.drew) rfl (fun _ _ => rfl)).lifted s.data.toList vs HIN.out HML.out (by rw [HGE.out]; exact b3) (by rw [HGE.out]; exact k3)).mono (by omega)
        · rcases (keysL_snoc _ _ _).1 hq with h | h
          · exact absurd h hn
          · rw [h] at hn; exact absurd HIN.out hn
      · rw [if_neg hin] at LK1 LK2
        simp only [rowV] at LK1 LK2
        have HIN := Lib.hid hin
        have heq := fun W => Go.run_eql_slice_nil (P := Try.prog) W 26 3 none 0 0 Try.underlying26
        simp only [Option.isNone_none] at heq
        clear hin
        obtain ⟨cs, MK, RW⟩ := make_blk m (by have := HVL.out; omega)
        have E7 : Ext wr wr.drew := (Ext.refl wr).drew
        have KR7 := Lib.hid (KR2.out.keep (w' := wr.drew) rfl (fun _ _ => rfl))
        have FIN7 := Lib.hid (show But (putS B bs bv p G) w wr.drew ∧ Blk wr.drew B 73 (trieC vl d st (addTo ns s.data.toList s.size).length bs bv) ∧ StepsAt wr.drew bs (n + s.size) (addTo ns s.data.toList s.size) from ⟨FIN.out.1.drew, FIN.out.2.1.ext E7, FIN.out.2.2.ext E7⟩)
        have SO7 := Lib.hid (SO2.out.ext E7)
        have HSZ7 := Lib.hid (show R ≤ wr.drew.heap.size from HSZ2.out)
        have p1b : wr.drew.cell? ⟨R, 1, none⟩ = some (.slice A m c) := p1
        have q6b : wr.drew.cell? ⟨B, 6, none⟩ = some (.map (some bv)) := q6
        have E7 := Lib.hid E7
        go_wp2_with fail
        clear LK1 LK2
        refine wp_region_noPanic ?_
        refine wp_region_held_drew (S := (fun w' => w'.cell? ⟨R, 1, none⟩ = some (.slice A m c) ∧ w'.cell? ⟨B, 6, none⟩ = some (.map (some bv)))) (by kernel_rfl) ⟨p1b, q6b⟩ (fun h0 => ?_)
        generalize wr.drew = W7 at *
        have NEW := Lib.hid (show _ from put_new W7 bv n2 (addTo ns s.data.toList s.size) p G s.data.toList cs m KR7.out (N.addTo s.data.toList s.size (by rw [list_size]; omega)) HMEM.out HIN.out (by omega) (by have := addTo_length ns s.data.toList s.size; omega) HML.out RW)
        clear p1b q6b p0 p1 q6
        refine wpAnyH_take (i := 0) (oi := ?_) (v := ?_) ?_ (by kernel_rfl) (by kernel_rfl) (by kernel_rfl) ?_ ?_ h0 ?_
        rotate_left 2
        · simp only [List.getElem?_toArray, List.getElem?_cons_zero]; rfl
        · exact fun _ _ _ h => h
        · refine Or.inl ⟨by rfl, ?_⟩
          intro w hSw
          (try dsimp only at hSw)
          go_simp
          (try with_reducible rfl)
        (try simp only [Act.put, List.setIfInBounds_toArray, List.set_cons_zero, List.set_cons_succ])
        refine wpAnyH_take (i := 1) (oi := ?_) (v := ?_) ?_ (by kernel_rfl) (by kernel_rfl) (by kernel_rfl) ?_ ?_ h0 ?_
        rotate_left 2
        · simp only [List.getElem?_toArray, List.getElem?_cons_zero, List.getElem?_cons_succ]; rfl
        · exact fun _ _ _ h => h
        · refine Or.inl ⟨by rfl, ?_⟩
          intro w hSw
          (try dsimp only at hSw)
          go_simp
          (try with_reducible rfl)
        (try simp only [Act.put, List.setIfInBounds_toArray, List.set_cons_zero, List.set_cons_succ])
        refine wpAnyH_take (i := 2) (oi := ?_) (v := ?_) ?_ (by kernel_rfl) (by kernel_rfl) (by kernel_rfl) ?_ ?_ h0 ?_
        rotate_left 2
        · simp only [List.getElem?_toArray, List.getElem?_cons_zero, List.getElem?_cons_succ]; rfl
        · exact fun _ _ _ h => h
        · refine Or.inl ⟨by rfl, ?_⟩
          intro w hSw
          (try dsimp only at hSw)
          go_simp
          (try with_reducible rfl)
        (try simp only [Act.put, List.setIfInBounds_toArray, List.set_cons_zero, List.set_cons_succ])
        refine wpAnyH_take (i := 3) (oi := ?_) (v := ?_) ?_ (by kernel_rfl) (by kernel_rfl) (by kernel_rfl) ?_ ?_ h0 ?_
        rotate_left 2
        · simp only [List.getElem?_toArray, List.getElem?_cons_zero, List.getElem?_cons_succ]; rfl
        · exact fun _ _ _ h => h
        · refine Or.inl ⟨by rfl, ?_⟩
          intro w hSw
          (try dsimp only at hSw)
          go_simp
          (try with_reducible rfl)
        (try simp only [Act.put, List.setIfInBounds_toArray, List.set_cons_zero, List.set_cons_succ])
        refine wpAnyH_take (i := 4) (oi := ?_) (v := ?_) ?_ (by kernel_rfl) (by kernel_rfl) (by kernel_rfl) ?_ ?_ h0 ?_
        rotate_left 2
        · simp only [List.getElem?_toArray, List.getElem?_cons_zero, List.getElem?_cons_succ]; rfl
        · exact fun _ _ _ h => h
        · refine Or.inl ⟨by rfl, ?_⟩
          intro w hSw
          (try dsimp only at hSw)
          go_simp
          (try with_reducible rfl)
        (try simp only [Act.put, List.setIfInBounds_toArray, List.set_cons_zero, List.set_cons_succ])
        refine wpAnyH_take (i := 5) (oi := ?_) (v := ?_) ?_ (by kernel_rfl) (by kernel_rfl) (by kernel_rfl) ?_ ?_ h0 ?_
        rotate_left 2
        · simp only [List.getElem?_toArray, List.getElem?_cons_zero, List.getElem?_cons_succ]; rfl
        · exact fun _ _ _ h => h
        · refine Or.inl ⟨by rfl, ?_⟩
          intro w hSw
          (try dsimp only at hSw)
          go_simp
          (try with_reducible rfl)
        (try simp only [Act.put, List.setIfInBounds_toArray, List.set_cons_zero, List.set_cons_succ])
        refine wpAnyH_take (i := 6) (oi := ?_) (v := ?_) ?_ (by kernel_rfl) (by kernel_rfl) (by kernel_rfl) ?_ ?_ h0 ?_
        rotate_left 2
        · simp only [List.getElem?_toArray, List.getElem?_cons_zero, List.getElem?_cons_succ]; rfl
        · exact fun _ _ _ h => h
        · refine Or.inl ⟨by rfl, ?_⟩
          intro w hSw
          (try dsimp only at hSw)
          go_simp
          (try with_reducible rfl)
        (try simp only [Act.put, List.setIfInBounds_toArray, List.set_cons_zero, List.set_cons_succ])
        refine wpAnyH_take (i := 7) (oi := ?_) (v := ?_) ?_ (by kernel_rfl) (by kernel_rfl) (by kernel_rfl) ?_ ?_ h0 ?_
        rotate_left 2
        · simp only [List.getElem?_toArray, List.getElem?_cons_zero, List.getElem?_cons_succ]; rfl
        · exact fun _ _ _ h => h
        · refine Or.inl ⟨by rfl, ?_⟩
          intro w hSw
          (try dsimp only at hSw)
          go_simp
          (try with_reducible rfl)
        (try simp only [Act.put, List.setIfInBounds_toArray, List.set_cons_zero, List.set_cons_succ])
        refine wpAnyH_ready (rs := [8]) (by kernel_rfl) (by simp) ?_
        refine AllReadyH.cons (o := ?_) ?_ (fun K hK => ?_) AllReadyH.nil
        rotate_left
        · simp only [List.getElem?_toArray, List.getElem?_cons_zero, List.getElem?_cons_succ]; rfl
        go_simp
        refine hK.out _ _ (⟨((Ext.refl W7).alloc _).at h0.1, ((Ext.refl W7).alloc _).at h0.2⟩) (fun h1 => ?_)
        clear hK K
        (try simp only [Act.put, List.setIfInBounds_toArray, List.set_cons_zero, List.set_cons_succ])
        obtain ⟨w5, hst, kr5, b5, lt5⟩ := NEW.out
        rw [HZ.out] at hst
        have hBv := HNB.out.1
        have hRv := LTR.out.2.1
        have c1 : w5.cell? ⟨R, 1, none⟩ = some (.slice A m c) := b5.at h0.1 (by show ¬ R = bv; omega)
        have c6 : w5.cell? ⟨B, 6, none⟩ = some (.map (some bv)) := b5.at h0.2 (by show ¬ B = bv; omega)
        have KR5 := Lib.hid kr5
        have B5 := Lib.hid b5
        have LT5 := Lib.hid lt5
        clear NEW kr5 b5 lt5 hBv hRv
        refine wpAnyH_ready (rs := [9]) (by kernel_rfl) (by simp) ?_
        refine AllReadyH.cons (o := ?_) ?_ (fun K hK => ?_) AllReadyH.nil
        rotate_left
        · simp only [List.getElem?_toArray, List.getElem?_cons_zero, List.getElem?_cons_succ]; rfl
        go_simp
        refine hK.out _ _ (⟨c1, c6⟩) (fun h2 => ?_)
        clear hK K
        (try simp only [Act.put, List.setIfInBounds_toArray, List.set_cons_zero, List.set_cons_succ])
        refine wpAnyH_done (by kernel_rfl) ?_ _
        refine NoPanic.normal ?_
        clear h0 h1 h2 MK hst
        have hin2 : s.data.toList ∈ keysL (p ++ [(s.data.toList, List.replicate m 0)]) := (keysL_snoc _ _ _).2 (.inr rfl)
        have hna := num_pos (addTo ns s.data.toList s.size) s.data.toList
        have hnb := num_le HMEM.out
        have hnc := addTo_length ns s.data.toList s.size
        have hval : valN (addTo ns s.data.toList s.size) (keysL (p ++ [(s.data.toList, List.replicate m 0)])) (fun r => if r = s.data.toList then W7.heap.size else G r) a = some (W7.heap.size, m) := by
          rw [← HZ.out, valN_num HMEM.out, if_pos hin2, if_pos rfl, HML.out]
        rw [HZ.out] at hna hnb
        have LK1 := KR5.out.look a ⟨by omega, by omega⟩
        have LK2 := (KR5.out.keep (w' := w5.drew) rfl (fun _ _ => rfl)).look a ⟨by omega, by omega⟩
        rw [hval] at LK1 LK2
        simp only [rowV] at LK1 LK2
        have HG := Lib.hid (show Blk w5 W7.heap.size 3 (rowI m (valF (p ++ [(s.data.toList, List.replicate m 0)]) s.data.toList)) by
          have := KR5.out.row _ hin2
          rw [rowL, HML.out, if_pos rfl] at this
          exact this)
        have HRL := Lib.hid (show R ≤ W7.heap.size from HSZ7.out)
        have HAL := Lib.hid (show ∀ ad, A = some ad → m ≠ 0 → ad.block ≠ W7.heap.size from fun ad e h => by
          have h0 : 0 < vs.length := by rw [HM.out]; omega
          obtain ⟨ad', e', hb, _⟩ := SO7.out 0 (.int .i64 vs[0]) (by simp [h0])
          rw [e] at e'
          cases e'
          omega)
        have HIN2 := Lib.hid hin2
        have HGG := Lib.hid (show ∀ q, q ∈ keysL p → G q ≠ W7.heap.size from fun q hq => by have := LTR.out.2.2.2 q hq; have := HSZ7.out; omega)
        have HAP := Lib.hid (show B ≠ W7.heap.size ∧ bs ≠ W7.heap.size ∧ bv ≠ W7.heap.size by have := LTR.out; have := HSZ7.out; omega)
        clear hna hnb hnc hval hin2
        generalize hg : W7.heap.size = g at *
        clear hg
        have LF := Lib.hid (lift_any g 0 m m m (valF (p ++ [(s.data.toList, List.replicate m 0)]) s.data.toList) A m c (fun j => vs.getD j 0) w5.drew (HG.out.ext ((Ext.refl w5).drew)) (by
          have h3 : SeenL w5 A vs := fun j v hv => by
            obtain ⟨ad, e, hbk, hc⟩ := SO7.out j v hv
            exact ⟨ad, e, Nat.lt_of_lt_of_le hbk B5.out.size, B5.out.at hc (fun hh => HAH.out ad e (.inr (.inr (.inl (by rw [addr_block] at hh; exact hh)))))⟩
          have := h3.fn; rw [HM.out] at this; exact this.ext ((Ext.refl w5).drew)) (fun h ad e => HAL.out ad e h) (Nat.le_refl _) (by omega) (by have := HVL.out; omega))
        go_wp2_with fail
        go_still_tail 8, (by kernel_rfl)
        change wpList _ _ _ _ _ w5.drew
        go_wp2_with fail
        refine LF.out.mono ?_; rintro e w3 ⟨rfl, b3, k3⟩
        go_wp2_with fail
        go_end0
        obtain ⟨f1, f2, f3⟩ := FIN7.out
        have b4 : But (Only g) w5 w3 := ((But.refl (Only g) w5).drew).trans b3 (fun i hi => .inl hi)
        obtain ⟨a1, a2, a3⟩ := HAP.out
        have hBv := HNB.out.1
        refine ⟨rfl, (f1.trans B5.out (fun i hi => .inl (.inr (.inr (.inl hi))))).trans b4 (fun i hi => .inr (by rw [HRW.out]; have := HRL.out; rw [show i = g from hi]; exact this)), b4.blk (B5.out.blk f2 hBv) a1, (f3.keepB B5.out hbb).keepB b4 a2,
          (fun r => if r = s.data.toList then g else G r), ?_, fun q hq => if_neg (fun e => HIN.out (by rw [← e]; exact hq)), fun q hq hn => ?_⟩
        · have hl := (KR5.out.keep (w' := w5.drew) rfl (fun _ _ => rfl)).lifted s.data.toList vs HIN2.out HML.out (w' := w3) (by rw [if_pos rfl]; exact b3) (by rw [if_pos rfl]; exact k3)
          refine hl.congr (fun q => ?_) (fun q k _ => (valF_over p s.data.toList m vs q k).symm)
          simp only [keysL_snoc, tn, or_assoc, or_self]
        · rcases (keysL_snoc _ _ _).1 hq with h | h
          · exact absurd h hn
          · rw [HRW.out]
            show R ≤ if q = s.data.toList then g else G q
            rw [if_pos (show q = s.data.toList from h)]
            exact HRL.out
end L11
end Go.Proofs.Ytenajekmnggkeaa

