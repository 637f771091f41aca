/- The landed Write of layer 13. -/
import Derived.Test.YtbiklbomacjihaaDoorTextB13
import Derived.Test.YtbiklbomacjihaaDoorDocD13
import Derived.Test.YtbiklbomacjihaaDoorBut11
import Derived.Test.YtbiklbomacjihaaDoorShelf
import Derived.Lib.SlBytesConst
namespace Go.Proofs.YtbiklbomacjihaaDoor
open Go.RowKit
namespace L13

/-- A part: bytes, and where they lie. -/
structure BS where
  A : Option Addr
  c : Nat
  l : List UInt8
def bsV (x : BS) : Value := .slice x.A x.l.length x.c
theorem slice_info13 : (Tryd.prog.info? 22).map (fun i => (i.zero, i.size, i.bytes)) = some (some (.slice none 0 0), 1, 24) := by kernel_rfl
theorem seenB_but {S : Nat → Prop} {w w' : World} {A : Option Addr} {l : List UInt8} (h : SeenB w A l) (k : But S w w') (hn : ∀ ad, A = some ad → ¬ S ad.block) : SeenB w' A l := fun i v hv => by
  obtain ⟨ad, e, hb, hc⟩ := h i v hv
  exact ⟨ad, e, Nat.lt_of_lt_of_le hb k.size, k.at hc (by rw [addr_block]; exact hn ad e)⟩
/-- One's own list of parts. -/
structure Sp (w wr : World) (v : Value) (bl : List BS) : Prop where
  x : Ext w wr
  row : wr.ownsRow w.heap.size 22 1 v bl.length (bl.map bsV)
  inn : ∀ y ∈ bl, SeenB wr y.A y.l ∧ ∀ ad, y.A = some ad → ad.block < wr.heap.size ∧ v.ownBlock ≠ some ad.block
theorem Sp.nil {w wr : World} (x : Ext w wr) : Sp w wr (.slice none 0 0) [] := ⟨x, World.ownsRow_nil _ _ _ _, fun y hy => by simp at hy⟩
theorem Sp.over {w wr w' : World} {v : Value} {bl : List BS} (h : Sp w wr v bl) (x : Ext wr w') : Sp w w' v bl :=
  ⟨h.x.trans x, OwnsRow.ext h.row x, fun y hy => ⟨(h.inn y hy).1.ext x, fun ad e => ⟨x.grows _ ((h.inn y hy).2 ad e).1, ((h.inn y hy).2 ad e).2⟩⟩⟩
/-- One part more. -/
theorem Sp.put {w wr : World} {v : Value} {bl : List BS} (h : Sp w wr v bl) (y : BS) (hs : SeenB wr y.A y.l) (hy : ∀ ad, y.A = some ad → ad.block < wr.heap.size ∧ v.ownBlock ≠ some ad.block) (hn : bl.length ≤ 400000) (ty : TypeId) :
    ∃ v' w', (Builtin.append_ #[45, 45] ty #[v, .slice (some ⟨wr.heap.size, 0, none⟩) 1 1]).run Tryd.prog (wr.alloc (.cells #[.slice y.A y.l.length y.c] 22)) = .ok v' w' ∧ Sp w w' v' (bl ++ [y]) := by
  obtain ⟨i, hi, hz0, hsz, hby⟩ := info_parts slice_info13
  have xa : Ext wr (wr.alloc (.cells #[.slice y.A y.l.length y.c] 22)) := (Ext.refl wr).alloc _
  have h := h.over xa
  have hs := hs.ext xa
  have hy : ∀ ad, y.A = some ad → ad.block < (wr.alloc (.cells #[.slice y.A y.l.length y.c] 22)).heap.size ∧ v.ownBlock ≠ some ad.block := fun ad e => ⟨xa.grows _ (hy ad e).1, (hy ad e).2⟩
  have kN : Blk (wr.alloc (.cells #[.slice y.A y.l.length y.c] 22)) wr.heap.size 22 [.slice y.A y.l.length y.c] := Blk.lit _ _ _ _ rfl
  generalize wr.alloc (.cells #[.slice y.A y.l.length y.c] 22) = wq at *
  obtain ⟨v', w', hr, ho, hg, _, hat⟩ := run_append_own_at (P := Tryd.prog) wq w.heap.size 45 ty 22 i (.slice none 0 0) 1 24 Tryd.underlying45 hi hz0 hsz hby rfl (by omega) v bl.length (bl.map bsV) h.row ⟨wr.heap.size, 0, none⟩ 1 1 [.slice y.A y.l.length y.c] rfl
    (fun j u hu => by
      match j, hu with
      | 0, hu => simp at hu; subst hu; exact kN.cell 0
      | j + 1, hu => simp at hu) (by simp [Value.oneCell']) (by unfold maxLen; omega) (by omega) h.x.size
  have BG : But (fun k => v.ownBlock = some k) wq w' := But.of_grown hg (fun g hg => hg)
  have fresh : ∀ a : Nat, a < wq.heap.size → v.ownBlock ≠ some a → v'.ownBlock ≠ some a := fun a h1 h2 h3 => by
    rcases hat with h4 | h4
    · rw [h4] at h3; exact h2 h3
    · rw [h4] at h3; cases h3; omega
  have lift : ∀ z : BS, (SeenB wq z.A z.l ∧ ∀ ad, z.A = some ad → ad.block < wq.heap.size ∧ v.ownBlock ≠ some ad.block) → SeenB w' z.A z.l ∧ ∀ ad, z.A = some ad → ad.block < w'.heap.size ∧ v'.ownBlock ≠ some ad.block := fun z hz =>
    ⟨seenB_but hz.1 BG (fun a e => (hz.2 a e).2), fun a e => ⟨Nat.lt_of_lt_of_le (hz.2 a e).1 BG.size, fresh _ (hz.2 a e).1 (hz.2 a e).2⟩⟩
  refine ⟨v', w', hr, BG.ext h.x (fun k e => (h.row.lt k e).1), ?_, fun z hz => ?_⟩
  · rw [List.length_append, List.map_append]
    exact ho
  · rcases List.mem_append.1 hz with hz | hz
    · exact lift z (h.inn z hz)
    · obtain rfl : z = y := by simpa using hz
      exact lift z ⟨hs, hy⟩
theorem holds_of {w : World} {A : Option Addr} {l : List UInt8} {c : Nat} (h : SeenB w A l) : Lib.HoldsBytes w (.slice A l.length c) l := by
  refine ⟨A, c, rfl, fun e => ?_, fun a e i x hx => ?_⟩
  · cases l with
    | nil => rfl
    | cons b r => obtain ⟨ad, e2, _⟩ := h 0 _ rfl; rw [e] at e2; cases e2
  · obtain ⟨ad, e2, _, hc⟩ := h i (.int .u8 (x.toNat : Int)) (by simp [bv, hx])
    rw [e] at e2
    cases e2
    exact hc
/-- The list, for Join. -/
theorem Sp.look {w wr : World} {v : Value} {bl : List BS} (h : Sp w wr v bl) (h0 : 0 < bl.length) : ∃ g c, v = .slice (some ⟨g, 0, none⟩) bl.length c ∧ bl.length ≤ c ∧ c ≤ maxLen ∧ Lib.PartsAt wr ⟨g, 0, none⟩ (bl.map bsV) (bl.map BS.l) := by
  have hrow := h.row
  obtain ⟨A, c, rfl, hs⟩ := own_seen hrow
  obtain ⟨_, ⟨e1, h1⟩ | ⟨g, cap, cur, e1, _, _, hc, hm, _⟩⟩ := hrow
  · omega
  simp only [Value.slice.injEq] at e1
  obtain ⟨rfl, _, rfl⟩ := e1
  refine ⟨g, c, rfl, by omega, by omega, by simp, fun i v hv => ?_, fun i v l hv hl => ?_⟩
  · obtain ⟨ad, e, _, hc⟩ := hs i v hv
    cases e
    exact hc
  · rw [List.getElem?_map] at hv hl
    obtain ⟨y, hy, rfl⟩ := Option.map_eq_some_iff.1 hv
    rw [hy] at hl
    obtain rfl : y.l = l := by simpa using hl
    exact holds_of (h.inn y (List.mem_of_getElem? hy)).1
theorem fresh_seen {B : Nat} {w : World} {v : Value} {l : List UInt8} (h : Lib.FreshBytes B w v l) : ∃ A c, v = .slice A l.length c ∧ l.length ≤ c ∧ c ≤ maxLen ∧ SeenB w A l := by
  obtain ⟨g, cap, zs, rfl, _, h1, h2, hz, hr, hb, hc, _⟩ := h
  refine ⟨_, cap, rfl, h1, h2, fun i v hv => ?_⟩
  simp only [bv, List.getElem?_map] at hv
  obtain ⟨x, hx, rfl⟩ := Option.map_eq_some_iff.1 hv
  have hi : i < l.length := (List.getElem?_eq_some_iff.1 hx).1
  have h3 := hc i (by omega)
  have e : zs.getD i 0 = (x.toNat : Int) := by
    have hzi : i < zs.length := by omega
    have h4 : (Lib.bytesOf (zs.take l.length))[i]? = some x := by rw [hb]; exact hx
    simp only [Lib.bytesOf, List.getElem?_map, List.getElem?_take, if_pos hi, List.getElem?_eq_getElem hzi, Option.map_some, Option.some.injEq] at h4
    rw [List.getD, List.getElem?_eq_getElem hzi, Option.getD_some]
    have h5 := hr _ (List.getElem_mem hzi)
    rw [← h4]
    simp only [UInt8.toNat_ofNat']
    omega
  rw [e] at h3
  have hlt : g < w.heap.size := World.block_lt_of_cell? w ⟨g, i, none⟩ h3
  exact ⟨_, rfl, hlt, by rw [Lib.add_plain2, Nat.zero_add]; exact h3⟩
theorem holds_ext {w w' : World} {v : Value} {l : List UInt8} (h : Lib.HoldsBytes w v l) (x : Ext w w') : Lib.HoldsBytes w' v l := by
  obtain ⟨p, cap, e, h1, h2⟩ := h
  exact ⟨p, cap, e, h1, fun a ha i y hy => x.at (h2 a ha i y hy)⟩
theorem parts_ext {w w' : World} {a : Addr} {vs : List Value} {ls : List (List UInt8)} (h : Lib.PartsAt w a vs ls) (x : Ext w w') : Lib.PartsAt w' a vs ls :=
  ⟨h.1, fun i v hv => x.at (h.2.1 i v hv), fun i v l hv hl => holds_ext (h.2.2 i v l hv hl) x⟩
theorem textL_join : ∀ l : List TW, textL l = Lib.join (l.map bytesL) [32]
  | [] => rfl
  | [p] => by simp [textL, Lib.join_one]
  | p :: q :: r => by
    have ih := textL_join (q :: r)
    rw [textL, ih]
    simp only [List.map_cons, Lib.join_cons, Lib.joinTail, List.flatten_cons, List.cons_append, List.nil_append]

/-- What Write answers. -/
def LWrQ (w : World) (l : List UInt8) (e : Ending) (w' : World) : Prop :=
  Ext w w' ∧ ∃ A c, e = .returned (.tuple #[.slice A l.length c, .int .i64 0]) ∧ l.length ≤ c ∧ c ≤ maxLen ∧ SeenB w' A l
theorem lens_most {l : List TW} (h : ∀ p ∈ l, wordB p = true) : Lib.lens (l.map bytesL) ≤ l.length * 180 := by
  induction l with
  | nil => simp [Lib.lens]
  | cons p r ih =>
    have h1 := (word_short (h p (by simp))).2
    have h2 := bytesL_length p
    have h3 := ih (fun q hq => h q (by simp [hq]))
    rw [List.map_cons, Lib.lens_cons, List.length_cons]
    omega
theorem bytesM_some (ss : List Int) : ∀ (l : List Int) (n : Nat), l.length ≤ (bytesM ss l n).length
  | [], _ => by simp [bytesM]
  | c :: r, n => by
    have := bytesM_some ss r (n + 1)
    simp only [bytesM, List.length_append, List.length_cons]
    omega
theorem write_no (A : Option Addr) (l : List CW) (n c : Nat) (w : World) (hs : SeenC w A l) (hn : n = l.length) (ok : ∀ x ∈ l, x.Ok) (h : checkB (l.map tw) = false) :
    Calls Tryd.prog 15 #[.slice A n c] w (Ret w (.tuple #[.slice none 0 0, .int .i64 130])) := by
  have C := Lib.hid (check_any A l n c w hs hn ok)
  rw [h] at C
  clear hs hn ok h
  go_enter Tryd.func15, Tryd.ntmps15
  go_wp2_with fail
  refine C.out.mono ?_; rintro e w1 ⟨rfl, x1⟩
  go_wp2_with fail
  go_ret2
  exact ⟨rfl, x1⟩
set_option maxRecDepth 100000 in
set_option maxHeartbeats 4000000 in
theorem write_yes (A : Option Addr) (l : List CW) (n c : Nat) (w : World) (hs : SeenC w A l) (hn : n = l.length) (ok : ∀ x ∈ l, x.Ok) (h : checkB (l.map tw) = true) :
    Calls Tryd.prog 15 #[.slice A n c] w (LWrQ w (textL (l.map tw))) := by
  have C := Lib.hid (check_any A l n c w hs hn ok)
  rw [h] at C
  simp only [checkB, Bool.and_eq_true, decide_eq_true_eq, List.all_eq_true, List.length_map] at h
  obtain ⟨⟨hn0, hn1⟩, hall, _⟩ := h
  have SN := Lib.hid hs
  have HN := Lib.hid hn
  have OK := Lib.hid ok
  have WA := Lib.hid (fun k (h : k < l.length) => show wordB (tw l[k]) = true from hall _ (List.mem_map.2 ⟨_, List.getElem_mem h, rfl⟩))
  have TM := Lib.hid (fun k (h : k < l.length) => show ((l.take (k + 1)).map tw).map bytesL = ((l.take k).map tw).map bytesL ++ [bytesL (tw l[k])] by rw [take_map h, List.map_append]; rfl)
  have LM := Lib.hid (show Lib.lens ((l.map tw).map bytesL) ≤ l.length * 180 by have := lens_most (l := l.map tw) hall; rwa [List.length_map] at this)
  have NE := Lib.hid (fun (k : Nat) (h : k < l.length) => show 0 < (bytesL (tw l[k])).length by
    have h1 := (word_short (hall _ (List.mem_map.2 ⟨_, List.getElem_mem h, rfl⟩))).1
    have h2 := bytesM_some (tw l[k]).2 (tw l[k]).1 0
    have h3 : bytesL (tw l[k]) = bytesM (tw l[k]).2 (tw l[k]).1 0 := rfl
    rw [h3]
    omega)
  have TJ := Lib.hid (textL_join (l.map tw))
  have hn100 : (n : Int) ≤ 100 := by omega
  have hn0' : 1 ≤ n := by omega
  have hnn : n ≤ 100 := by omega
  generalize textL (l.map tw) = res at *
  clear hs hn ok hn0 hn1 hall
  have kc := fun (w : World) (C : Array Value) (n c : Nat) => Lib.run_convert_bytes_const (P := Tryd.prog) w 22 5 C n c Tryd.underlying22 Tryd.underlying5
  go_enter Tryd.func15, Tryd.ntmps15
  go_wp2_with fail
  refine C.out.mono ?_; rintro e w1 ⟨rfl, x1⟩
  have X1 := Lib.hid x1
  clear x1 C
  go_wp2_with fail
  go_loopw [4, 12] (fun v i wr => ∃ (vv : Value) (bl : List BS) (k : Nat), vv = v ∧ k ≤ n ∧ i = .int .i64 k ∧ bl.length = k ∧ Hid (Sp w1 wr vv bl) ∧ Hid (bl.map BS.l = ((l.take k).map tw).map bytesL)) (fun _ i _ => n - (intOf i).toNat)
  case atStart => exact ⟨_, [], 0, rfl, Nat.zero_le _, rfl, rfl, Lib.hid (Sp.nil (Ext.refl _)), Lib.hid (by simp)⟩
  case round =>
    obtain ⟨vv, bl, k, hvv, hk, rfl, hbk, hsp, hbl⟩ := hrel
    subst hvv
    by_cases hlt : k < n
    · have hkl : k < l.length := by rw [← HN.out]; exact hlt
      have hk64 : (k : Int) < n := by omega
      have htm := TM.out k hkl
      have hwb := WA.out k hkl
      have hok := OK.out _ (List.getElem_mem hkl)
      obtain ⟨⟨ad, rfl, u0, u1⟩, s1, s2⟩ := (SN.out.ext (X1.out.trans hsp.out.x)).get hkl
      have SPL := Lib.hid (fun w' (x : Ext wr w') => spell_any l[k] hwb w' (s1.ext x) (s2.ext x) hok.room2 hok.most2)
      unfold cwV SplQ at SPL
      generalize bytesL (tw l[k]) = by1 at *
      generalize l[k].cs.length = y0 at *
      generalize l[k].A = y1 at *
      generalize l[k].c = y2 at *
      generalize l[k].ss.length = y3 at *
      generalize l[k].B = y4 at *
      generalize l[k].d = y5 at *
      have XA : Ext wr (wr.alloc (.cells #[.slice y1 y0 y2, .slice y4 y3 y5] 36)) := (Ext.refl _).alloc _
      have SPL := Lib.hid (SPL.out _ XA)
      have XA := Lib.hid XA
      clear s1 s2 hwb hok
      go_wp2_with fail
      refine SPL.out.mono ?_; rintro e w5 ⟨x5, A5, c5, rfl, s5, l5⟩
      obtain ⟨v3, w6, g3, o3⟩ := Sp.put (hsp.out.over (XA.out.trans x5)) ⟨A5, c5, by1⟩ s5 (fun ad e => ⟨(l5 ad e).2, fun e2 => by
        have h1 := (hsp.out.row.lt _ e2).2
        have h2 := (l5 ad e).1
        have h3 := XA.out.size
        omega⟩) (by omega) 45
      have O3 := Lib.hid o3
      have HB := Lib.hid (show (bl ++ [(⟨A5, c5, by1⟩ : BS)]).map BS.l = ((l.take (k + 1)).map tw).map bytesL by rw [htm, List.map_append, hbl.out]; rfl)
      have LEN : (bl ++ [(⟨A5, c5, by1⟩ : BS)]).length = k + 1 := by rw [List.length_append, hbk]; rfl
      dsimp only at g3
      clear x5 s5 l5 o3 SPL htm hsp XA
      go_wp2_with (at_builtin; refine wpList_ran rfl _ _ rfl g3 ?_)
      go_roundw
      case rel => exact ⟨_, bl ++ [(⟨A5, c5, by1⟩ : BS)], k + 1, rfl, by omega, by go_num, LEN, O3, HB⟩
      case measure => simp [intOf]; omega
    · obtain rfl : n = k := by omega
      have HBL := Lib.hid (show bl.map BS.l = (l.map tw).map bytesL by rw [hbl.out, HN.out, List.take_length])
      obtain ⟨g, cc, rfl, h1, h2, PA⟩ := hsp.out.look (by omega)
      have HBK := Lib.hid hbk
      rw [hbk] at h1 ⊢
      clear hbk
      obtain ⟨W, hW⟩ : ∃ W, W = wr.alloc (.cells #[.int .u8 32] 5 (1, 2)) := ⟨_, rfl⟩
      have XW : Ext wr W := by rw [hW]; exact (Ext.refl _).alloc _
      have XB := Lib.hid (X1.out.trans (hsp.out.x.trans XW))
      have PB := parts_ext PA XW
      have SB : Lib.HoldsBytes W (.slice (some ⟨wr.heap.size, 0, none⟩) 1 1) [32] := by
        refine ⟨_, 1, rfl, fun e => (by cases e), fun a e i y hy => ?_⟩
        cases e
        match i, hy with
        | 0, hy =>
          obtain rfl : (32 : UInt8) = y := by simpa using hy
          rw [hW]
          have := World.cell?_alloc_mark wr #[Value.int .u8 32] 5 (1, 2) 0
          rw [Lib.add_plain2, this]
          rfl
        | i + 1, hy => simp at hy
      have FIN := Lib.hid (fun (A' : Option Addr) c' w' (x : Ext W w') (h1 : res.length ≤ c') (h2 : c' ≤ maxLen) (h3 : SeenB w' A' res) => show LWrQ w res (.returned (.tuple #[.slice A' res.length c', .int .i64 0])) w' from ⟨XB.out.trans x, A', c', rfl, h1, h2, h3⟩)
      by_cases hn1 : n = 1
      · subst hn1
        obtain ⟨p, cap, l0, hl0, hcell, hnil, hcells⟩ := PB.get 0 (by rw [List.length_map, HBK.out]; omega)
        rw [HBL.out] at hl0
        have hne := NE.out 0 (by rw [← HN.out]; omega)
        have hl1 : l.length = 1 := by rw [← HN.out]
        have hl2 : res = l0 := by
          obtain ⟨y, rfl⟩ := List.length_eq_one_iff.1 hl1
          simp only [List.map_cons, List.map_nil, List.getElem?_cons_zero, Option.some.injEq] at hl0
          rw [TJ.out, List.map_cons, List.map_nil, List.map_cons, List.map_nil, Lib.join_one, hl0]
        have hl3 : bytesL (tw l[0]) = l0 := by
          obtain ⟨y, rfl⟩ := List.length_eq_one_iff.1 hl1
          simpa using hl0
        rw [hl3] at hne
        have hlm : l0.length ≤ 180 := by
          have := LM.out
          rw [hl1] at this
          obtain ⟨y, rfl⟩ := List.length_eq_one_iff.1 hl1
          simp only [List.map_cons, List.map_nil, List.getElem?_cons_zero, Option.some.injEq] at hl0 this
          rw [hl0] at this
          simpa [Lib.lens] using this
        obtain ⟨ad0, rfl⟩ : ∃ ad0, p = some ad0 := by
          cases p with
          | none => have := hnil rfl; subst this; simp at hne
          | some a => exact ⟨a, rfl⟩
        rw [Addr.add_zero'] at hcell
        have CJ := Lib.hid (Tryd.bytes_Join_one g 0 cc ad0 cap l0 (.slice (some ⟨wr.heap.size, 0, none⟩) 1 1) W hcell (fun i x hx => hcells _ rfl i x hx) hne (by omega))
        rw [hW] at CJ
        clear hcell hcells hnil hl0 hl1 hl3 hne hlm PA PB SB XW
        go_wp2_with fail
        refine CJ.out.mono ?_; rintro e w7 ⟨v7, rfl, f7, x7⟩
        rw [← hW] at f7 x7
        obtain ⟨A7, c7, rfl, k1, k2, k3⟩ := fresh_seen f7
        rw [← hl2] at k1 k3 ⊢
        have F2 := Lib.hid (FIN.out A7 c7 w7 x7 k1 k2 k3)
        clear FIN f7 x7 k1 k2 k3 CJ hW
        generalize res.length = rl at *
        go_wp2_with fail
        go_ret2
        exact F2.out
      · have CJ := Lib.hid (Tryd.bytes_Join_many g 0 n cc (bl.map bsV) (bl.map BS.l) (.slice (some ⟨wr.heap.size, 0, none⟩) 1 1) [32] W (by rw [List.length_map, HBK.out]) (by omega) PB (by omega) SB (by omega) (by
          have := LM.out
          rw [HBL.out]
          rw [← HN.out] at this
          simp only [List.length_cons, List.length_nil]
          omega))
        rw [hW, HBL.out, ← TJ.out] at CJ
        clear PA PB SB XW
        go_wp2_with fail
        refine CJ.out.mono ?_; rintro e w7 ⟨v7, rfl, f7, x7⟩
        rw [← hW] at f7 x7
        obtain ⟨A7, c7, rfl, k1, k2, k3⟩ := fresh_seen f7
        have F2 := Lib.hid (FIN.out A7 c7 w7 x7 k1 k2 k3)
        clear FIN f7 x7 k1 k2 k3 CJ hW
        generalize res.length = rl at *
        go_wp2_with fail
        go_ret2
        exact F2.out
end L13
end Go.Proofs.YtbiklbomacjihaaDoor

