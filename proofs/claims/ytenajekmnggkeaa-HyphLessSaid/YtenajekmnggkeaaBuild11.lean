/- The landed build of layer 11. -/
import Derived.Test.YtenajekmnggkeaaPut11
namespace Go.Proofs.Ytenajekmnggkeaa
open Go.RowKit
open Go.Lib hiding intOf
namespace L11
open L10 (TN plainB patB tn)

theorem size_set (w : World) (p : Addr) (u : Value) : (w.setCell p u).heap.size = w.heap.size := by simp [World.setCell]
theorem seenL_keep {S : Nat → Prop} {w w' : World} {A : Option Addr} {vs : List Int} (h : SeenL w A vs) (x : But S w w') (hA : vs ≠ [] → ∀ ad, A = some ad → ¬ S ad.block) : SeenL w' A vs := fun j v hv => by
  obtain ⟨ad, e, hb, hc⟩ := h j v hv
  refine ⟨ad, e, Nat.lt_of_lt_of_le hb x.size, x.at hc ?_⟩
  rw [addr_block]
  exact hA (by rintro rfl; simp at hv) ad e
theorem seenL_lt {w : World} {A : Option Addr} {vs : List Int} (h : SeenL w A vs) (hv : 0 < vs.length) {ad : Addr} (e : A = some ad) : ad.block < w.heap.size := by
  obtain ⟨ad', e', hb, _⟩ := h 0 (.int .i64 vs[0]) (by simp [hv])
  rw [e] at e'
  cases e'
  exact hb
/-- A trie that is made, of the patterns p; d, st: its Once. -/
structure MadeAt (w : World) (B bs bv : Nat) (d st : Int) (p : List TN) (G : List UInt8 → Nat) : Prop where
  box : Blk w B 73 (trieC (.slice none 0 0) d st (nodesL p).length bs bv)
  steps : StepsAt w bs 100000 (nodesL p)
  rows : RowsAt w bv 100000 (nodesL p) p G
  ne : bs ≠ bv
/-- Its pieces' blocks. -/
def pieces (bs bv : Nat) (p : List TN) (G : List UInt8 → Nat) (k : Nat) : Prop := k = bs ∨ k = bv ∨ ∃ q, q ∈ keysL p ∧ k = G q
def BuildQ (w : World) (B : Nat) (p : List TN) (w' : World) : Prop := But (Only B) w w' ∧ ∃ bs bv G, MadeAt w' B bs bv 0 1 p G ∧ ∀ k, pieces bs bv p G k → w.heap.size ≤ k
def BuildE (w : World) (B : Nat) (p : List TN) (e : Ending) (w' : World) : Prop := e = .returned (.tuple #[]) ∧ BuildQ w B p w'
theorem keys_nodes {p : List TN} {q : List UInt8} (h : q ∈ keysL p) : q ∈ nodesL p := by
  obtain ⟨x, hx, rfl⟩ := List.mem_map.1 h
  exact mem_nodes.2 (.inr ⟨x, hx, List.prefix_refl _⟩)
theorem sumLen_le {p : List TN} (h : ∀ x ∈ p, patB x = true) : sumLen p ≤ 42 * p.length := by
  unfold sumLen
  induction p with
  | nil => simp
  | cons x p ih =>
    have h1 := (L10.pat_len (h x (by simp))).2
    have h2 := ih (fun y hy => h y (by simp [hy]))
    simp only [List.map_cons, List.sum_cons, List.length_cons]
    omega

set_option maxRecDepth 100000 in
set_option maxHeartbeats 8000000 in
theorem build_any (B : Nat) (LA : Option Addr) (lc : Nat) (l : List WP) (w : World) (kb : Blk w B 73 [.slice LA l.length lc, .int .u32 0, .int .i32 1, .int .u32 0, .int .i64 0, .map none, .map none]) (sl : SeenW w LA l)
    (hp : ∀ x ∈ l, patB (tn x) = true) (hLA : l ≠ [] → ∀ ad, LA = some ad → ad.block ≠ B) (hx : ∀ x ∈ l, ∀ ad, x.A = some ad → ad.block ≠ B) (hn : l.length ≤ 300) :
    Calls Try.prog 43 #[.pointer (some ⟨B, 0, none⟩)] w (BuildE w B (l.map tn)) := by
  have BL := kb.lt
  have ST := Lib.hid (store64_any ⟨B, 4, none⟩ (.int .i64 0) 1 w (kb.cell 4) (kb.free 4))
  have KB := Lib.hid kb
  have SL := Lib.hid sl
  have HP := Lib.hid hp
  have HLA := Lib.hid hLA
  have HX := Lib.hid hx
  obtain ⟨n, hnl⟩ : ∃ n, n = l.length := ⟨_, rfl⟩
  have HN := Lib.hid hnl
  rw [← hnl] at hn
  clear kb sl hp hLA hx hnl
  go_enter Try.func43, Try.ntmps43
  go_wp2_with fail
  refine ST.out.mono ?_; rintro e w1 ⟨rfl, hw1⟩
  have b1 : But (Only B) w w1 := by rw [hw1]; exact But.set (S := Only B) w ⟨B, 4, none⟩ _ rfl
  have kb1 : Blk w1 B 73 [.slice LA n lc, .int .u32 0, .int .i32 1, .int .u32 0, .int .i64 1, .map none, .map none] := by rw [hw1, HN.out]; exact KB.out.set 4 _
  have BL1 : B < w1.heap.size := kb1.lt
  have c5 : w1.cell? ⟨B, 5, none⟩ = some (.map none) := kb1.cell 5
  have z5 : w1.frozen? ⟨B, 5, none⟩ = false := kb1.free 5
  have B1 := Lib.hid b1
  have KB1 := Lib.hid kb1
  clear hw1 b1 kb1 ST KB
  have hmm := @run_makeMap Try.prog
  have hne1 : ¬ w1.heap.size = B := by omega
  go_upto_region 2 with (fail)
  obtain ⟨w2, hw2⟩ : ∃ w2, w2 = (w1.setCell ⟨B, 5, none⟩ (.map (some w1.heap.size))).alloc (.map #[] 0) := ⟨_, rfl⟩
  rw [← hw2]
  have b2 : But (Only B) w1 w2 := by rw [hw2]; exact (But.set (S := Only B) w1 ⟨B, 5, none⟩ _ rfl).trans (But.alloc (S := Only B) _ (.map #[] 0)) (fun i hi => .inl hi)
  have kb2 : Blk w2 B 73 [.slice LA n lc, .int .u32 0, .int .i32 1, .int .u32 0, .int .i64 1, .map (some w1.heap.size), .map none] := by rw [hw2]; exact (KB1.out.set 5 (.map (some w1.heap.size))).ext ((Ext.refl _).alloc (.map #[] 0))
  have st2 : StepsAt w2 w1.heap.size 0 [[]] := by
    have h1 := StepsAt.made (w1.setCell ⟨B, 5, none⟩ (.map (some w1.heap.size)))
    rw [← hw2, size_set] at h1
    exact h1
  have BL2 : B < w2.heap.size := kb2.lt
  have hsz2 : w1.heap.size < w2.heap.size := st2.lt
  have B2 := Lib.hid (B1.out.trans b2 (fun i hi => .inl hi))
  have KB2 := Lib.hid kb2
  have ST2 := Lib.hid st2
  have c6 : w2.cell? ⟨B, 6, none⟩ = some (.map none) := kb2.cell 6
  have z6 : w2.frozen? ⟨B, 6, none⟩ = false := kb2.free 6
  have HS1 := Lib.hid (show w.heap.size ≤ w1.heap.size from B1.out.size)
  clear hw2 b2 kb2 st2 c5 z5 B1 KB1 BL1
  generalize hbs : w1.heap.size = bs at *
  clear hbs
  have hne2 : ¬ w2.heap.size = B := by omega
  go_upto_region 3 with (fail)
  obtain ⟨w3, hw3⟩ : ∃ w3, w3 = (w2.setCell ⟨B, 6, none⟩ (.map (some w2.heap.size))).alloc (.map #[] 0) := ⟨_, rfl⟩
  rw [← hw3]
  have b3 : But (Only B) w2 w3 := by rw [hw3]; exact (But.set (S := Only B) w2 ⟨B, 6, none⟩ _ rfl).trans (But.alloc (S := Only B) _ (.map #[] 0)) (fun i hi => .inl hi)
  have kb3 : Blk w3 B 73 [.slice LA n lc, .int .u32 0, .int .i32 1, .int .u32 0, .int .i64 1, .map (some bs), .map (some w2.heap.size)] := by rw [hw3]; exact (KB2.out.set 6 (.map (some w2.heap.size))).ext ((Ext.refl _).alloc (.map #[] 0))
  have rw3 : RowsAt w3 w2.heap.size 0 [[]] [] (fun _ => 0) := by
    have h1 := RowsAt.made (w2.setCell ⟨B, 6, none⟩ (.map (some w2.heap.size))) (fun _ => 0)
    rw [← hw3, size_set] at h1
    exact h1
  have st3 : StepsAt w3 bs 0 [[]] := ST2.out.keepB b3 (by show ¬ bs = B; exact hne1)
  have hB3 : But (Only B) w w3 := B2.out.trans b3 (fun i hi => .inl hi)
  have hBs2 : w.heap.size ≤ w2.heap.size := B2.out.size
  have HIN := Lib.hid (show bs ≠ w2.heap.size ∧ B ≠ bs ∧ B ≠ w2.heap.size ∧ w.heap.size ≤ bs ∧ w.heap.size ≤ w2.heap.size ∧ B < w.heap.size from ⟨by omega, fun e => hne1 e.symm, fun e => hne2 e.symm, HS1.out, hBs2, BL⟩)
  have c0 : w3.cell? ⟨B, 0, none⟩ = some (.slice LA n lc) := kb3.cell 0
  have START := Lib.hid (show But (Only B) w w3 ∧ Blk w3 B 73 (trieC (.slice LA n lc) 0 1 (nodesL []).length bs w2.heap.size) ∧ StepsAt w3 bs 0 (nodesL []) ∧ RowsAt w3 w2.heap.size 0 (nodesL []) [] (fun _ => 0) from ⟨hB3, kb3, st3, rw3⟩)
  clear hw3 b3 kb3 rw3 st3 hB3 hBs2 c6 z6 hmm B2 KB2 ST2 BL2 hsz2 HS1 hne1 hne2
  generalize hbv : w2.heap.size = bv at *
  clear hbv
  go_wp2_with fail
  go_loopw [21] (fun i wr => ∃ k : Nat, k ≤ n ∧ i = .int .i64 k ∧ Hid (But (Only B) w wr ∧ Blk wr B 73 (trieC (.slice LA n lc) 0 1 (nodesL ((l.take k).map tn)).length bs bv) ∧ StepsAt wr bs (42 * k) (nodesL ((l.take k).map tn)) ∧ ∃ G, RowsAt wr bv k (nodesL ((l.take k).map tn)) ((l.take k).map tn) G ∧ ∀ q, q ∈ keysL ((l.take k).map tn) → w.heap.size ≤ G q)) (fun i _ => n - (intOf i).toNat)
  case atStart => exact ⟨0, Nat.zero_le _, rfl, ⟨START.out.1, START.out.2.1, START.out.2.2.1, _, START.out.2.2.2, fun q hq => by simp [keysL] at hq⟩⟩
  case round =>
    obtain ⟨k, hk, rfl, hh⟩ := hrel
    by_cases hlt : k < n
    · have hlt' : k < l.length := by rw [← HN.out]; exact hlt
      obtain ⟨hbut, hbox, hst, G, hrow, hG⟩ := hh.out
      obtain ⟨⟨ad, rfl, a0, a1⟩, sx⟩ := SL.out.get hlt'
      have hxm : l[k] ∈ l := List.getElem_mem hlt'
      have hpx := HP.out _ hxm
      have hax := HX.out _ hxm
      have hLne : ad.block ≠ B := HLA.out (by rintro h; rw [h] at hlt'; simp at hlt') ad rfl
      have a0 := hbut.at a0 (by rw [addr_block]; exact hLne)
      have a1 := hbut.at a1 (by show ¬ (ad.add (k * 2)).block = B; rw [addr_block]; exact hLne)
      have hlen : (nodesL ((l.take k).map tn)).length ≤ 1 + 42 * k := by
        have h1 := (nodes_length ((l.take k).map tn)).2
        have h2 := sumLen_le (p := (l.take k).map tn) (fun x hx => by
          obtain ⟨y, hy, rfl⟩ := List.mem_map.1 hx
          exact HP.out y (List.mem_of_mem_take hy))
        simp only [List.length_map, List.length_take] at h2
        omega
      have hvpos : 0 < l[k].ns.length := by
        have := (L10.pat_vals hpx).1
        simp only [tn] at this
        omega
      have hsz : l[k].s.size ≤ 42 := by have := (L10.pat_len hpx).2; simpa [tn] using this
      have hin := HIN.out
      have hab : ∀ ad', l[k].A = some ad' → ¬ putS B bs bv ((l.take k).map tn) G ad'.block := fun ad' e h => by
        have h1 := seenL_lt sx hvpos e
        have h2 := hax ad' e
        rcases h with h | h | h | ⟨q, hq, h⟩
        · exact h2 h
        · omega
        · omega
        · have := hG q hq; omega
      have sxr : SeenL wr l[k].A l[k].ns := seenL_keep sx hbut (fun _ ad' e h => hax ad' e h)
      have PUT := Lib.hid (fun w' (x : Ext wr w') => put_any B bs bv (42 * k) k (.slice (some ad) n lc) 0 1 (nodesL ((l.take k).map tn)) ((l.take k).map tn) G l[k] w' (nds_nodes _) (fun q hq => keys_nodes hq) (hbox.ext x) (hst.ext x) (hrow.keep (x.block _ hrow.lt) (fun q hq => x.block _ (hrow.row q hq).lt)) hpx (sxr.ext x) hab hin.1 (by omega) (by omega) (by omega))
      have TK := Lib.hid (show (l.take (k + 1)).map tn = (l.take k).map tn ++ [tn l[k]] by rw [List.take_succ_eq_append_getElem hlt', List.map_append]; rfl)
      have HSZX := Lib.hid hsz
      have HB := Lib.hid hbut
      have HGG := Lib.hid hG
      have HNX := Lib.hid (show Nat.lt k n from hlt)
      unfold wpV at PUT
      clear hh hbut hbox hst hrow hG sx hpx hax hLne hlen hvpos hsz hin hab sxr hxm
      generalize l[k] = x at *
      go_wp2_with fail
      refine (PUT.out _ ((Ext.refl wr).alloc _)).mono ?_; rintro e w5 ⟨rfl, hb5, k5, s5, G5, r5, g5, n5⟩
      have HH := Lib.hid (show But (Only B) w w5 ∧ Blk w5 B 73 (trieC (.slice (some ad) n lc) 0 1 (nodesL ((l.take (k + 1)).map tn)).length bs bv) ∧ StepsAt w5 bs (42 * (k + 1)) (nodesL ((l.take (k + 1)).map tn)) ∧
          ∃ G, RowsAt w5 bv (k + 1) (nodesL ((l.take (k + 1)).map tn)) ((l.take (k + 1)).map tn) G ∧ ∀ q, q ∈ keysL ((l.take (k + 1)).map tn) → w.heap.size ≤ G q by
        have hin := HIN.out
        have hx5 := HSZX.out
        have e1 : nodesL ((l.take k).map tn ++ [tn x]) = addTo (nodesL ((l.take k).map tn)) x.s.data.toList x.s.size := by rw [nodesL_snoc, ← list_size x.s]; rfl
        rw [TK.out, e1]
        refine ⟨(HB.out.trans (But.alloc (S := Only B) wr _) (fun i hi => .inl hi)).trans hb5 (fun i hi => ?_), k5, s5.mono (by omega), G5, r5, fun q hq => ?_⟩
        · rcases hi with h | h | h | ⟨q, hq, h⟩
          · exact .inl h
          · exact .inr (by omega)
          · exact .inr (by omega)
          · exact .inr (by rw [h]; exact HGG.out q hq)
        · by_cases h : q ∈ keysL ((l.take k).map tn)
          · rw [g5 q h]; exact HGG.out q h
          · have h1 := n5 q hq h
            have h2 := HB.out.size
            have h3 : (wr.alloc (.cells #[.string x.s, .slice x.A x.ns.length x.c] 50)).heap.size = wr.heap.size + 1 := by simp
            omega)
      clear hb5 k5 s5 r5 g5 n5 PUT TK HSZX HB HGG
      go_wp2_with fail
      go_roundw
      case rel => exact ⟨k + 1, HNX.out, by go_num, HH⟩
      case measure => have := HNX.out; simp [intOf]; omega
    · obtain rfl : k = n := by omega
      have z0 : wr.frozen? ⟨B, 0, none⟩ = false := hh.out.2.1.free 0
      have c0 : wr.cell? ⟨B, 0, none⟩ = some (.slice LA k lc) := hh.out.2.1.cell 0
      go_wp2_with fail
      go_end0
      obtain ⟨hbut, hbox, hst, G, hrow, hG⟩ := hh.out
      have TK : l.take k = l := List.take_of_length_le (by rw [← HN.out]; exact Nat.le_refl _)
      rw [TK] at hbox hst hrow hG
      have hin := HIN.out
      have bS : But (Only B) wr (wr.setCell ⟨B, 0, none⟩ (.slice none 0 0)) := But.set (S := Only B) wr ⟨B, 0, none⟩ _ rfl
      refine ⟨rfl, hbut.trans bS (fun i hi => .inl hi), bs, bv, G, ⟨hbox.set 0 (.slice none 0 0), (hst.keepB bS (fun e => hin.2.1 e.symm)).mono (by omega), (hrow.keepB bS (fun e => hin.2.2.1 e.symm) (fun q hq e => by have := hG q hq; have e' : G q = B := e; omega)).mono (by omega), hin.1⟩, fun i hi => ?_⟩
      rcases hi with h | h | ⟨q, hq, h⟩
      · omega
      · omega
      · rw [h]; exact hG q hq
end L11
end Go.Proofs.Ytenajekmnggkeaa

