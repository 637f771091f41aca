/- The document's asPattern of layer 10: what it keeps. -/
import Derived.Test.YtijhabhnhglhgaaDoorDocB10
import Derived.Test.YtijhabhnhglhgaaDoorLandH10
import Derived.Deep.RegionHeld3
namespace Go.Proofs.YtijhabhnhglhgaaDoor
open Go.RowKit
namespace L10

/-- What asPattern, asException keep: the result's box, the variable's, a row of one's own in it. -/
structure Ap (w wr : World) (t : TypeId) (s : ByteArray) (vv : Value) (V : List Int) : Prop where
  x : Ext w wr
  b0 : Blk wr w.heap.size t [.string ByteArray.empty, .slice none 0 0]
  b1 : Blk wr (w.heap.size + 1) t [.string s, vv]
  v : wr.ownsRow (w.heap.size + 2) 3 1 vv V.length (V.map (.int .i64))
  two : w.heap.size + 2 ≤ wr.heap.size
theorem Ap.kept {w wr w' : World} {t : TypeId} {s : ByteArray} {vv : Value} {V : List Int} (h : Ap w wr t s vv V) (x : Ext wr w') : Ap w w' t s vv V :=
  ⟨h.x.trans x, h.b0.ext x, h.b1.ext x, OwnsRow.ext h.v x, Nat.le_trans h.two x.size⟩
theorem Ap.cat {w wr : World} {t : TypeId} {s : ByteArray} {vv : Value} {V : List Int} (h : Ap w wr t s vv V) (s' : ByteArray) : Ap w (wr.setCell ⟨w.heap.size + 1, 0, none⟩ (.string s')) t s' vv V :=
  ⟨h.x.setCell (by show _ ≤ w.heap.size + 1; omega) _, h.b0.far (by show w.heap.size + 1 ≠ _; omega) _, h.b1.set 0 (.string s'), ownsRow_setCell_below h.v (by show w.heap.size + 1 < _; omega) _, by have := h.two; simpa [World.setCell] using this⟩
theorem Ap.put {w wr : World} {t : TypeId} {s : ByteArray} {vv : Value} {V : List Int} (h : Ap w wr t s vv V) (n : Int) (hn : V.length ≤ 900000) (ty : TypeId) :
    ∃ v' w', (Builtin.append_ #[40, 40] ty #[vv, .slice (some ⟨wr.heap.size, 0, none⟩) 1 1]).run Tryd.prog (wr.alloc (.cells #[.int .i64 n] 3)) = .ok v' w' ∧
      Blk w' (w.heap.size + 1) t [.string s, vv] ∧ Ap w (w'.setCell ⟨w.heap.size + 1, 1, none⟩ v') t s v' (V ++ [n]) := by
  obtain ⟨i, hi, hz0, hsz, hby⟩ := info_parts int_info
  have h := h.kept ((Ext.refl wr).alloc (.cells #[.int .i64 n] 3))
  obtain ⟨v', w', hr, ho, hg, _, hat⟩ := run_append_own_at (P := Tryd.prog) (wr.alloc (.cells #[.int .i64 n] 3)) (w.heap.size + 2) 40 ty 3 i (.int .i64 0) 1 8 Tryd.underlying40 hi hz0 hsz hby rfl (by omega) vv V.length (V.map (.int .i64)) h.v ⟨wr.heap.size, 0, none⟩ 1 1 [.int .i64 n] rfl
    (fun j u hu => by
      cases j with
      | zero => simp at hu; subst hu; simp [Addr.add]
      | succ j => simp at hu) (by simp [Value.oneCell']) (by unfold maxLen; omega) (by omega) h.two
  have K := Kp.of_grown hg
  have ne0 : some w.heap.size ≠ vv.ownBlock := fun e => by have := (h.v.lt _ e.symm).1; omega
  have ne1 : some (w.heap.size + 1) ≠ vv.ownBlock := fun e => by have := (h.v.lt _ e.symm).1; omega
  refine ⟨v', w', hr, K.blk h.b1 ne1, (ext_grown h.x h.v (by omega) hg).setCell (by show _ ≤ w.heap.size + 1; omega) _, (K.blk h.b0 ne0).far (by show w.heap.size + 1 ≠ _; omega) _, (K.blk h.b1 ne1).set 1 v', ?_, by have := h.two; have := K.size; simp only [World.setCell, Array.size_modify]; omega⟩
  rw [List.length_append, List.map_append]
  exact ownsRow_setCell_below ho (by show w.heap.size + 1 < _; omega) _
theorem Ap.start (w : World) (t : TypeId) (W : World) (hW : W = (w.alloc (.cells #[.string ByteArray.empty, .slice none 0 0] t)).alloc (.cells #[.string ByteArray.empty, .slice none 0 0] t)) : Ap w W t ByteArray.empty (.slice none 0 0) [] := by
  subst hW
  refine ⟨((Ext.refl w).alloc _).alloc _, (Blk.lit _ _ _ _ rfl).ext ((Ext.refl _).alloc _), Blk.lit _ _ _ _ (by simp), World.ownsRow_nil _ _ _ _, by simp⟩
/-- What asPattern, asException answer. -/
def AsQ (w : World) (r : Option TN) (e : Ending) (w' : World) : Prop :=
  Ext w w' ∧ ∃ (x : WP) (b : Bool), e = .returned (.tuple #[wpV x, .bool b]) ∧ (r = if b = true then some (tn x) else none) ∧ SeenL w' x.A x.ns ∧ x.ns.length ≤ x.c ∧ x.c ≤ maxLen ∧ ∀ ad, x.A = some ad → w.heap.size ≤ ad.block ∧ ad.block < w'.heap.size
/-- The variable's numbers, seen. -/
theorem Ap.look {w wr : World} {t : TypeId} {s : ByteArray} {vv : Value} {V : List Int} (h : Ap w wr t s vv V) : ∃ A c, vv = .slice A V.length c ∧ V.length ≤ c ∧ c ≤ maxLen ∧ SeenL wr A V ∧ ∀ ad, A = some ad → w.heap.size + 2 ≤ ad.block ∧ ad.block < wr.heap.size := by
  obtain ⟨A, c, rfl, h1, h2, hs⟩ := row_slice h.v
  exact ⟨A, c, rfl, h1, h2, hs, fun ad e => by have := h.v.lt ad.block (by rw [show A = some ad from e]; rfl); omega⟩
/-- The end: the variable is put into the result's box. -/
theorem Ap.fin {w wr w2 : World} {t : TypeId} {s : ByteArray} {A : Option Addr} {c : Nat} {V : List Int} (h : Ap w wr t s (.slice A V.length c) V) (x : Ext wr w2) (r : Option TN) (b : Bool) (hr : r = if b = true then some (s.data.toList, V) else none) (W : World)
    (hW : W = (w2.setCell ⟨w.heap.size, 0, none⟩ (.string s)).setCell ⟨w.heap.size, 1, none⟩ (.slice A V.length c)) :
    AsQ w r (.returned (.tuple #[.agg #[.string s, .slice A V.length c], .bool b])) W ∧ Blk W w.heap.size t [.string s, .slice A V.length c] := by
  obtain ⟨A', c', e, h1, h2, hs, hat⟩ := h.look
  cases e
  have hx := h.x
  have hb := ((h.kept x).b0.set 0 (.string s)).set 1 (.slice A V.length c)
  rw [hW]
  refine ⟨⟨((hx.trans x).setCell (p := ⟨w.heap.size, 0, none⟩) (Nat.le_refl _) _).setCell (p := ⟨w.heap.size, 1, none⟩) (Nat.le_refl _) _, ⟨s, V, A, c⟩, b, rfl, hr, ?_, h1, h2, fun ad e => ?_⟩, hb⟩
  · have l8 := ownsRow_setCell_below (ownsRow_setCell_below (h.kept x).v (a := ⟨w.heap.size, 0, none⟩) (by show w.heap.size < _; omega) (.string s)) (a := ⟨w.heap.size, 1, none⟩) (by show w.heap.size < _; omega) (.slice A V.length c)
    obtain ⟨A9, c9, e9, _, _, s9⟩ := row_slice l8
    cases e9
    exact s9
  · have := hat ad e
    have := x.size
    simp only [World.setCell, Array.size_modify]
    omega

theorem asGo_digit {b : UInt8} {r : List UInt8} {z : Int} (h : 49 ≤ b.toNat ∧ b.toNat ≤ 57) (hz : ¬ 0 < z) : asPatGo (b :: r) z = asPatGo r (b.toNat - 48) := by
  rw [asPatGo, if_pos h, if_neg hz]
theorem asGo_none {b : UInt8} {r : List UInt8} {z : Int} (h : 49 ≤ b.toNat ∧ b.toNat ≤ 57) (hz : 0 < z) : asPatGo (b :: r) z = none := by
  rw [asPatGo, if_pos h, if_pos hz]
theorem asGo_letter {b : UInt8} {r : List UInt8} {z : Int} (h : ¬ (49 ≤ b.toNat ∧ b.toNat ≤ 57)) : asPatGo (b :: r) z = (asPatGo r 0).map fun p => (b :: p.1, z :: p.2) := by
  rw [asPatGo, if_neg h]
theorem drop_at {l : List UInt8} {k : Nat} (h : k < l.length) : l.drop k = l[k] :: l.drop (k + 1) := List.drop_eq_getElem_cons h
/-- A string, one byte more. -/
theorem cat_list (s u : ByteArray) (k : Nat) (h : k < u.size) : (s ++ u.extract k (k + 1)).data.toList = s.data.toList ++ [u[k]] := by
  have hl := list_len u
  have e : (u.extract k (k + 1)).data.toList = [u[k]] := by
    rw [Lib.extract_data, drop_at (by omega)]
    simp only [Nat.add_sub_cancel_left, List.take_succ_cons, List.take_zero]
    rw [get_at u k h (by omega)]
  rw [← e]
  simp
/-- How far asPattern is. -/
def AsR (u : ByteArray) (k : Nat) (z : Int) (s : ByteArray) (V : List Int) : Prop :=
  asPatGo u.data.toList 0 = (asPatGo (u.data.toList.drop k) z).map fun p => (s.data.toList ++ p.1, V ++ p.2)
theorem AsR.start (u : ByteArray) : AsR u 0 0 ByteArray.empty [] := by
  unfold AsR
  have e : (fun p : TN => (ByteArray.empty.data.toList ++ p.1, [] ++ p.2)) = id := by
    funext p; simp
  rw [List.drop_zero, e, Option.map_id]; rfl
theorem AsR.digit {u : ByteArray} {k : Nat} {z : Int} {s : ByteArray} {V : List Int} (h : AsR u k z s V) (hk : k < u.size) (hd : 49 ≤ u[k].toNat ∧ u[k].toNat ≤ 57) (hz : ¬ 0 < z) : AsR u (k + 1) ((u[k].toNat : Int) - 48) s V := by
  unfold AsR at h ⊢
  have hl := list_len u
  rw [h, drop_at (by omega), get_at u k hk (by omega), asGo_digit hd hz]
theorem AsR.none {u : ByteArray} {k : Nat} {z : Int} {s : ByteArray} {V : List Int} (h : AsR u k z s V) (hk : k < u.size) (hd : 49 ≤ u[k].toNat ∧ u[k].toNat ≤ 57) (hz : 0 < z) : asPat u.data.toList = none := by
  unfold AsR at h
  have hl := list_len u
  rw [drop_at (by omega), get_at u k hk (by omega), asGo_none hd hz] at h
  rw [asPat, h]
  rfl
theorem AsR.letter {u : ByteArray} {k : Nat} {z : Int} {s : ByteArray} {V : List Int} (h : AsR u k z s V) (hk : k < u.size) (hd : ¬ (49 ≤ u[k].toNat ∧ u[k].toNat ≤ 57)) : AsR u (k + 1) 0 (s ++ u.extract k (k + 1)) (V ++ [z]) := by
  unfold AsR at h ⊢
  have hl := list_len u
  rw [h, drop_at (by omega), get_at u k hk (by omega), asGo_letter hd, Option.map_map, cat_list s u k hk]
  congr 1
  funext p
  simp
theorem AsR.fin {u : ByteArray} {k : Nat} {z : Int} {s : ByteArray} {V : List Int} (h : AsR u k z s V) (hk : k = u.size) : asPat u.data.toList = if patB (s.data.toList, V ++ [z]) = true then some (s.data.toList, V ++ [z]) else Option.none := by
  unfold AsR at h
  have hl := list_len u
  rw [List.drop_of_length_le (by omega)] at h
  have e : asPatGo u.data.toList 0 = some (s.data.toList, V ++ [z]) := by rw [h]; simp [asPatGo]
  rw [asPat, e]

set_option maxRecDepth 100000 in
set_option maxHeartbeats 4000000 in
theorem aspat_any (u : ByteArray) (hu : u.size ≤ 100000) (w : World) : Calls Tryd.prog 23 #[.string u] w (AsQ w (asPat u.data.toList)) := by
  obtain ⟨V0, hV⟩ : ∃ V0, V0 = (w.alloc (.cells #[.string ByteArray.empty, .slice none 0 0] 42)).alloc (.cells #[.string ByteArray.empty, .slice none 0 0] 42) := ⟨_, rfl⟩
  have HR := Lib.hid (Ap.start w 42 V0 hV)
  have HA := Lib.hid (AsR.start u)
  have hu64 : (u.size : Int) ≤ 100000 := by omega
  go_enter Tryd.func23, Tryd.ntmps23
  go_upto_region 4 with (fail)
  rw [show (ByteArray.empty) = ⟨#[]⟩ from rfl] at hV
  rw [← hV]
  clear hV
  go_loopw [5, 6] (fun z i wr => ∃ (zz : Int) (k : Nat) (s : ByteArray) (vv : Value) (V : List Int), z = .int .i64 zz ∧ i = .int .i64 k ∧ k ≤ u.size ∧ 0 ≤ zz ∧ zz ≤ 9 ∧ V.length ≤ k ∧ s.size ≤ k ∧ Hid (Ap w wr 42 s vv V) ∧ Hid (AsR u k zz s V) ∧ Hid (∀ n ∈ V, 0 ≤ n ∧ n ≤ 9)) (fun _ i _ => u.size - (intOf i).toNat)
  case atStart => exact ⟨0, 0, _, _, _, rfl, rfl, Nat.zero_le _, by omega, by omega, by simp, by simp, HR, HA, Lib.hid (by simp)⟩
  case round =>
    obtain ⟨zz, k, s, vv, V, rfl, rfl, hk, hz0, hz9, hVk, hsk, hap, has, hin⟩ := hrel
    have q0 : wr.cell? ⟨w.heap.size + 1, 0, none⟩ = some (.string s) := hap.out.b1.cell 0
    have q1 : wr.cell? ⟨w.heap.size + 1, 1, none⟩ = some vv := hap.out.b1.cell 1
    have f0 := hap.out.b1.free 0
    have f1 := hap.out.b1.free 1
    by_cases hlt : k < u.size
    · have hk64 : (k : Int) < (u.size : Int) := by omega
      by_cases hd : 49 ≤ u[k].toNat ∧ u[k].toNat ≤ 57
      · have d1 : (49 : Int) ≤ (u[k].toNat : Int) := by omega
        have d2 : (u[k].toNat : Int) ≤ 57 := by omega
        by_cases hz : 0 < zz
        · obtain ⟨A, c, rfl, h1, h2, hs, hat⟩ := hap.out.look
          obtain ⟨W, hW⟩ : ∃ W, W = (wr.setCell ⟨w.heap.size, 0, none⟩ (.string s)).setCell ⟨w.heap.size, 1, none⟩ (.slice A V.length c) := ⟨_, rfl⟩
          have FIN := Lib.hid (hap.out.fin (Ext.refl wr) (asPat u.data.toList) false (by rw [has.out.none hlt hd hz]; rfl) W hW)
          have p0 : wr.cell? ⟨w.heap.size, 0, none⟩ = some (.string ByteArray.empty) := hap.out.b0.cell 0
          have p1 : wr.cell? ⟨w.heap.size, 1, none⟩ = some (.slice none 0 0) := hap.out.b0.cell 1
          have g0 := hap.out.b0.free 0
          have g1 := hap.out.b0.free 1
          clear hap has hin h1 h2 hs hat hd
          go_wp2_with fail
          rw [← hW]
          clear hW
          refine bodyPost_ret (results_box_tmp rfl _ _ w.heap.size _ _ rfl rfl FIN.out.2.range (Tryd.isAgg42 _) (Tryd.sizeOf42 _)) rfl ?_
          exact FIN.out.1
        · have HA2 := Lib.hid (has.out.digit hlt hd hz)
          clear has hd
          go_wp2_with fail
          go_roundw
          case rel => exact ⟨_, k + 1, s, vv, V, rfl, by go_num, by omega, by omega, by omega, by omega, by omega, hap, HA2, hin⟩
          case measure => simp [intOf]; omega
      · have HA2 := Lib.hid (has.out.letter hlt hd)
        have HIN2 := Lib.hid (show ∀ n ∈ V ++ [zz], 0 ≤ n ∧ n ≤ 9 from fun n hn => by
          rcases List.mem_append.1 hn with hn | hn
          · exact hin.out n hn
          · obtain rfl : n = zz := by simpa using hn
            exact ⟨hz0, hz9⟩)
        have HSZ := Lib.hid (show (s ++ u.extract k (k + 1)).size ≤ k + 1 by
          rw [← list_len, cat_list s u k hlt, List.length_append, list_len]; simp; omega)
        have d3 : ¬ (49 : Int) ≤ (u[k].toNat : Int) ∨ ((49 : Int) ≤ (u[k].toNat : Int) ∧ ¬ (u[k].toNat : Int) ≤ 57) := by omega
        have hkn : (k : Int) + 1 ≤ u.size := by omega
        clear has hin hd
        rcases d3 with d1 | ⟨d1, d2⟩
        · skip
          go_wp2_with fail
          have wk : IntKind.i64.wrap ((k : Int) + 1) = (k : Int) + 1 := IntWalk.i64_in _ (by omega)
          obtain ⟨WD, hWD⟩ : ∃ WD, WD = wr.drew := ⟨_, rfl⟩
          have XD : Ext wr WD := by rw [hWD]; exact (Ext.refl wr).drew
          have AP2 := (hap.out.kept XD).cat (s ++ u.extract k (k + 1))
          have g0 := XD.at q0
          have z0 := (hap.out.kept XD).b1.free 0
          refine wp_region_noPanic ?_
          refine wp_region_held_drew (S := (fun _ => True)) (by kernel_rfl) trivial (fun h0 => ?_)
          rw [← hWD]
          clear hWD
          refine wpAnyH_take (i := 0) (oi := ?_) (v := ?_) ?_ (by kernel_rfl) (by kernel_rfl) (by kernel_rfl) ?_ ?_ h0 ?_
          rotate_left 2
          · simp only [List.getElem?_toArray, List.getElem?_cons_zero]; rfl
          · exact fun _ _ _ h => h
          · refine Or.inl ⟨by rfl, ?_⟩
            intro w hSw
            (try dsimp only at hSw)
            go_simp
            (try with_reducible rfl)
          (try simp only [Act.put, List.setIfInBounds_toArray, List.set_cons_zero, List.set_cons_succ])
          refine wpAnyH_take (i := 2) (oi := ?_) (v := ?_) ?_ (by kernel_rfl) (by kernel_rfl) (by kernel_rfl) ?_ ?_ h0 ?_
          rotate_left 2
          · simp only [List.getElem?_toArray, List.getElem?_cons_zero, List.getElem?_cons_succ]; rfl
          · exact fun _ _ _ h => h
          · refine Or.inl ⟨by rfl, ?_⟩
            intro w hSw
            (try dsimp only at hSw)
            go_simp
            (try with_reducible rfl)
          (try simp only [Act.put, List.setIfInBounds_toArray, List.set_cons_zero, List.set_cons_succ])
          refine wpAnyH_take (i := 3) (oi := ?_) (v := ?_) ?_ (by kernel_rfl) (by kernel_rfl) (by kernel_rfl) ?_ ?_ h0 ?_
          rotate_left 2
          · simp only [List.getElem?_toArray, List.getElem?_cons_zero, List.getElem?_cons_succ]; rfl
          · exact fun _ _ _ h => h
          · refine Or.inl ⟨by rfl, ?_⟩
            intro w hSw
            (try dsimp only at hSw)
            go_simp
            (try with_reducible rfl)
          (try simp only [Act.put, List.setIfInBounds_toArray, List.set_cons_zero, List.set_cons_succ])
          refine wpAnyH_take (i := 4) (oi := ?_) (v := ?_) ?_ (by kernel_rfl) (by kernel_rfl) (by kernel_rfl) ?_ ?_ h0 ?_
          rotate_left 2
          · simp only [List.getElem?_toArray, List.getElem?_cons_zero, List.getElem?_cons_succ]; rfl
          · exact fun _ _ _ h => h
          · refine Or.inl ⟨by rfl, ?_⟩
            intro w hSw
            (try dsimp only at hSw)
            go_simp
            (try with_reducible rfl)
          (try simp only [Act.put, List.setIfInBounds_toArray, List.set_cons_zero, List.set_cons_succ])
          refine wpAnyH_take (i := 5) (oi := ?_) (v := ?_) ?_ (by kernel_rfl) (by kernel_rfl) (by kernel_rfl) ?_ ?_ h0 ?_
          rotate_left 2
          · simp only [List.getElem?_toArray, List.getElem?_cons_zero, List.getElem?_cons_succ]; rfl
          · exact fun _ _ _ h => h
          · refine Or.inl ⟨by rfl, ?_⟩
            intro w hSw
            (try dsimp only at hSw)
            go_simp
            (try with_reducible rfl)
          (try simp only [Act.put, List.setIfInBounds_toArray, List.set_cons_zero, List.set_cons_succ])
          refine wpAnyH_take (i := 6) (oi := ?_) (v := .string (u.extract k (k + 1))) ?_ (by kernel_rfl) (by kernel_rfl) (by kernel_rfl) ?_ ?_ h0 ?_
          rotate_left
          · simp only [List.getElem?_toArray, List.getElem?_cons_zero, List.getElem?_cons_succ]; rfl
          · exact fun _ _ _ h => h
          · refine Or.inl ⟨by rfl, ?_⟩
            intro w hSw
            (try dsimp only at hSw)
            go_simp
            rw [if_pos (by omega), if_pos (by omega)]
          (try simp only [Act.put, List.setIfInBounds_toArray, List.set_cons_zero, List.set_cons_succ])
          refine wpAnyH_ready (rs := [1]) (by kernel_rfl) (by simp) ?_
          refine AllReadyH.cons (o := ?_) ?_ (fun K hK => ?_) AllReadyH.nil
          rotate_left
          · simp only [List.getElem?_toArray, List.getElem?_cons_zero, List.getElem?_cons_succ]; rfl
          go_simp
          refine hK.out _ _ (trivial) (fun h1 => ?_)
          clear hK K
          (try simp only [Act.put, List.setIfInBounds_toArray, List.set_cons_zero, List.set_cons_succ])
          refine wpAnyH_take (i := 7) (oi := ?_) (v := .string (s ++ u.extract k (k + 1))) ?_ (by kernel_rfl) (by kernel_rfl) (by kernel_rfl) ?_ ?_ h1 ?_
          rotate_left
          · simp only [List.getElem?_toArray, List.getElem?_cons_zero, List.getElem?_cons_succ]; rfl
          · exact fun _ _ _ h => h
          · refine Or.inl ⟨by rfl, ?_⟩
            intro w hSw
            (try dsimp only at hSw)
            go_simp
            omega
          (try simp only [Act.put, List.setIfInBounds_toArray, List.set_cons_zero, List.set_cons_succ])
          refine wpAnyH_take (i := 8) (oi := ?_) (v := ?_) ?_ (by kernel_rfl) (by kernel_rfl) (by kernel_rfl) ?_ ?_ h1 ?_
          rotate_left 2
          · simp only [List.getElem?_toArray, List.getElem?_cons_zero, List.getElem?_cons_succ]; rfl
          · exact fun _ _ _ h => h
          · refine Or.inl ⟨by rfl, ?_⟩
            intro w hSw
            (try dsimp only at hSw)
            go_simp
            (try with_reducible rfl)
          (try simp only [Act.put, List.setIfInBounds_toArray, List.set_cons_zero, List.set_cons_succ])
          refine wpAnyH_ready (rs := [9]) (by kernel_rfl) (by simp) ?_
          refine AllReadyH.cons (o := ?_) ?_ (fun K hK => ?_) AllReadyH.nil
          rotate_left
          · simp only [List.getElem?_toArray, List.getElem?_cons_zero, List.getElem?_cons_succ]; rfl
          go_simp
          refine hK.out _ _ (trivial) (fun h2 => ?_)
          clear hK K
          (try simp only [Act.put, List.setIfInBounds_toArray, List.set_cons_zero, List.set_cons_succ])
          refine wpAnyH_done (by kernel_rfl) ?_ _
          refine NoPanic.normal ?_
          clear h0 h1 h2 q0 q1 f0 f1 g0 z0 XD hap wk
          obtain ⟨W2, hW2⟩ : ∃ W2, W2 = WD.setCell ⟨w.heap.size + 1, 0, none⟩ (.string (s ++ u.extract k (k + 1))) := ⟨_, rfl⟩
          rw [← hW2] at AP2 ⊢
          clear hW2
          generalize s ++ u.extract k (k + 1) = s' at *
          obtain ⟨v3, w3, r3, k3, ap3⟩ := AP2.put zz (by omega) 40
          have q1 : W2.cell? ⟨w.heap.size + 1, 1, none⟩ = some vv := AP2.b1.cell 1
          have g3 : w3.cell? ⟨w.heap.size + 1, 1, none⟩ = some vv := k3.cell 1
          have z3 := k3.free 1
          obtain ⟨A3, c3, rfl, _, _, _, _⟩ := ap3.look
          have AP3 := Lib.hid ap3
          clear ap3 k3 AP2
          have hl3 : (V ++ [zz]).length ≤ k + 1 := by rw [List.length_append]; simp; omega
          generalize (V ++ [zz]).length = n3 at r3 AP3 hl3
          go_wp2_with (at_builtin; refine wpList_ran rfl _ _ rfl r3 ?_)
          go_roundw
          case rel => exact ⟨0, k + 1, s', .slice A3 n3 c3, V ++ [zz], rfl, by go_num, by omega, by omega, by omega, by rw [List.length_append]; simp; omega, HSZ.out, AP3, HA2, HIN2⟩
          case measure => simp [intOf]; omega
        · skip
          go_wp2_with fail
          have wk : IntKind.i64.wrap ((k : Int) + 1) = (k : Int) + 1 := IntWalk.i64_in _ (by omega)
          obtain ⟨WD, hWD⟩ : ∃ WD, WD = wr.drew := ⟨_, rfl⟩
          have XD : Ext wr WD := by rw [hWD]; exact (Ext.refl wr).drew
          have AP2 := (hap.out.kept XD).cat (s ++ u.extract k (k + 1))
          have g0 := XD.at q0
          have z0 := (hap.out.kept XD).b1.free 0
          refine wp_region_noPanic ?_
          refine wp_region_held_drew (S := (fun _ => True)) (by kernel_rfl) trivial (fun h0 => ?_)
          rw [← hWD]
          clear hWD
          refine wpAnyH_take (i := 0) (oi := ?_) (v := ?_) ?_ (by kernel_rfl) (by kernel_rfl) (by kernel_rfl) ?_ ?_ h0 ?_
          rotate_left 2
          · simp only [List.getElem?_toArray, List.getElem?_cons_zero]; rfl
          · exact fun _ _ _ h => h
          · refine Or.inl ⟨by rfl, ?_⟩
            intro w hSw
            (try dsimp only at hSw)
            go_simp
            (try with_reducible rfl)
          (try simp only [Act.put, List.setIfInBounds_toArray, List.set_cons_zero, List.set_cons_succ])
          refine wpAnyH_take (i := 2) (oi := ?_) (v := ?_) ?_ (by kernel_rfl) (by kernel_rfl) (by kernel_rfl) ?_ ?_ h0 ?_
          rotate_left 2
          · simp only [List.getElem?_toArray, List.getElem?_cons_zero, List.getElem?_cons_succ]; rfl
          · exact fun _ _ _ h => h
          · refine Or.inl ⟨by rfl, ?_⟩
            intro w hSw
            (try dsimp only at hSw)
            go_simp
            (try with_reducible rfl)
          (try simp only [Act.put, List.setIfInBounds_toArray, List.set_cons_zero, List.set_cons_succ])
          refine wpAnyH_take (i := 3) (oi := ?_) (v := ?_) ?_ (by kernel_rfl) (by kernel_rfl) (by kernel_rfl) ?_ ?_ h0 ?_
          rotate_left 2
          · simp only [List.getElem?_toArray, List.getElem?_cons_zero, List.getElem?_cons_succ]; rfl
          · exact fun _ _ _ h => h
          · refine Or.inl ⟨by rfl, ?_⟩
            intro w hSw
            (try dsimp only at hSw)
            go_simp
            (try with_reducible rfl)
          (try simp only [Act.put, List.setIfInBounds_toArray, List.set_cons_zero, List.set_cons_succ])
          refine wpAnyH_take (i := 4) (oi := ?_) (v := ?_) ?_ (by kernel_rfl) (by kernel_rfl) (by kernel_rfl) ?_ ?_ h0 ?_
          rotate_left 2
          · simp only [List.getElem?_toArray, List.getElem?_cons_zero, List.getElem?_cons_succ]; rfl
          · exact fun _ _ _ h => h
          · refine Or.inl ⟨by rfl, ?_⟩
            intro w hSw
            (try dsimp only at hSw)
            go_simp
            (try with_reducible rfl)
          (try simp only [Act.put, List.setIfInBounds_toArray, List.set_cons_zero, List.set_cons_succ])
          refine wpAnyH_take (i := 5) (oi := ?_) (v := ?_) ?_ (by kernel_rfl) (by kernel_rfl) (by kernel_rfl) ?_ ?_ h0 ?_
          rotate_left 2
          · simp only [List.getElem?_toArray, List.getElem?_cons_zero, List.getElem?_cons_succ]; rfl
          · exact fun _ _ _ h => h
          · refine Or.inl ⟨by rfl, ?_⟩
            intro w hSw
            (try dsimp only at hSw)
            go_simp
            (try with_reducible rfl)
          (try simp only [Act.put, List.setIfInBounds_toArray, List.set_cons_zero, List.set_cons_succ])
          refine wpAnyH_take (i := 6) (oi := ?_) (v := .string (u.extract k (k + 1))) ?_ (by kernel_rfl) (by kernel_rfl) (by kernel_rfl) ?_ ?_ h0 ?_
          rotate_left
          · simp only [List.getElem?_toArray, List.getElem?_cons_zero, List.getElem?_cons_succ]; rfl
          · exact fun _ _ _ h => h
          · refine Or.inl ⟨by rfl, ?_⟩
            intro w hSw
            (try dsimp only at hSw)
            go_simp
            rw [if_pos (by omega), if_pos (by omega)]
          (try simp only [Act.put, List.setIfInBounds_toArray, List.set_cons_zero, List.set_cons_succ])
          refine wpAnyH_ready (rs := [1]) (by kernel_rfl) (by simp) ?_
          refine AllReadyH.cons (o := ?_) ?_ (fun K hK => ?_) AllReadyH.nil
          rotate_left
          · simp only [List.getElem?_toArray, List.getElem?_cons_zero, List.getElem?_cons_succ]; rfl
          go_simp
          refine hK.out _ _ (trivial) (fun h1 => ?_)
          clear hK K
          (try simp only [Act.put, List.setIfInBounds_toArray, List.set_cons_zero, List.set_cons_succ])
          refine wpAnyH_take (i := 7) (oi := ?_) (v := .string (s ++ u.extract k (k + 1))) ?_ (by kernel_rfl) (by kernel_rfl) (by kernel_rfl) ?_ ?_ h1 ?_
          rotate_left
          · simp only [List.getElem?_toArray, List.getElem?_cons_zero, List.getElem?_cons_succ]; rfl
          · exact fun _ _ _ h => h
          · refine Or.inl ⟨by rfl, ?_⟩
            intro w hSw
            (try dsimp only at hSw)
            go_simp
            omega
          (try simp only [Act.put, List.setIfInBounds_toArray, List.set_cons_zero, List.set_cons_succ])
          refine wpAnyH_take (i := 8) (oi := ?_) (v := ?_) ?_ (by kernel_rfl) (by kernel_rfl) (by kernel_rfl) ?_ ?_ h1 ?_
          rotate_left 2
          · simp only [List.getElem?_toArray, List.getElem?_cons_zero, List.getElem?_cons_succ]; rfl
          · exact fun _ _ _ h => h
          · refine Or.inl ⟨by rfl, ?_⟩
            intro w hSw
            (try dsimp only at hSw)
            go_simp
            (try with_reducible rfl)
          (try simp only [Act.put, List.setIfInBounds_toArray, List.set_cons_zero, List.set_cons_succ])
          refine wpAnyH_ready (rs := [9]) (by kernel_rfl) (by simp) ?_
          refine AllReadyH.cons (o := ?_) ?_ (fun K hK => ?_) AllReadyH.nil
          rotate_left
          · simp only [List.getElem?_toArray, List.getElem?_cons_zero, List.getElem?_cons_succ]; rfl
          go_simp
          refine hK.out _ _ (trivial) (fun h2 => ?_)
          clear hK K
          (try simp only [Act.put, List.setIfInBounds_toArray, List.set_cons_zero, List.set_cons_succ])
          refine wpAnyH_done (by kernel_rfl) ?_ _
          refine NoPanic.normal ?_
          clear h0 h1 h2 q0 q1 f0 f1 g0 z0 XD hap wk
          obtain ⟨W2, hW2⟩ : ∃ W2, W2 = WD.setCell ⟨w.heap.size + 1, 0, none⟩ (.string (s ++ u.extract k (k + 1))) := ⟨_, rfl⟩
          rw [← hW2] at AP2 ⊢
          clear hW2
          generalize s ++ u.extract k (k + 1) = s' at *
          obtain ⟨v3, w3, r3, k3, ap3⟩ := AP2.put zz (by omega) 40
          have q1 : W2.cell? ⟨w.heap.size + 1, 1, none⟩ = some vv := AP2.b1.cell 1
          have g3 : w3.cell? ⟨w.heap.size + 1, 1, none⟩ = some vv := k3.cell 1
          have z3 := k3.free 1
          obtain ⟨A3, c3, rfl, _, _, _, _⟩ := ap3.look
          have AP3 := Lib.hid ap3
          clear ap3 k3 AP2
          have hl3 : (V ++ [zz]).length ≤ k + 1 := by rw [List.length_append]; simp; omega
          generalize (V ++ [zz]).length = n3 at r3 AP3 hl3
          go_wp2_with (at_builtin; refine wpList_ran rfl _ _ rfl r3 ?_)
          go_roundw
          case rel => exact ⟨0, k + 1, s', .slice A3 n3 c3, V ++ [zz], rfl, by go_num, by omega, by omega, by omega, by rw [List.length_append]; simp; omega, HSZ.out, AP3, HA2, HIN2⟩
          case measure => simp [intOf]; omega
    · obtain rfl : k = u.size := by omega
      obtain ⟨v3, w3, r3, k3, ap3⟩ := hap.out.put zz (by omega) 40
      have q1 : wr.cell? ⟨w.heap.size + 1, 1, none⟩ = some vv := hap.out.b1.cell 1
      have g3 : w3.cell? ⟨w.heap.size + 1, 1, none⟩ = some vv := k3.cell 1
      have z3 := k3.free 1
      obtain ⟨A, c, rfl, h1, h2, hs, hat⟩ := ap3.look
      have AP3 := Lib.hid ap3
      have hwide : ∀ n ∈ V ++ [zz], -9223372036854775808 ≤ n ∧ n ≤ 9223372036854775807 := fun n hn => by
        rcases List.mem_append.1 hn with hn | hn
        · have := hin.out n hn; omega
        · obtain rfl : n = zz := by simpa using hn
          omega
      have hm : 1000000 ≤ maxLen := by decide
      have C := Lib.hid (fun W' (x : Ext (w3.setCell ⟨w.heap.size + 1, 1, none⟩ (.slice A (V ++ [zz]).length c)) W') => rpat_any ⟨s, V ++ [zz], A, c⟩ ⟨h1, h2, by show s.size ≤ _; omega, hwide⟩ (by show s.size ≤ _; omega) W' (SeenL.ext hs x))
      have HE := Lib.hid (has.out.fin rfl)
      have HSS := Lib.hid (show tn ⟨s, V ++ [zz], A, c⟩ = (s.data.toList, V ++ [zz]) from rfl)
      unfold wpV at C
      dsimp only at C
      generalize hV2 : V ++ [zz] = V2 at *
      clear hap has hin ap3 k3 h1 h2 hs hat hwide hm hV2
      go_upto_region 14 with (first | (at_builtin; refine wpList_ran rfl _ _ rfl r3 ?_) | fail)
      obtain ⟨W4, hW4⟩ : ∃ W4, W4 = w3.setCell ⟨w.heap.size + 1, 1, none⟩ (.slice A V2.length c) := ⟨_, rfl⟩
      rw [← hW4] at AP3 C ⊢
      clear hW4 r3 g3 z3 q0 q1 f0 f1
      have q0 : W4.cell? ⟨w.heap.size + 1, 0, none⟩ = some (.string s) := AP3.out.b1.cell 0
      have q1 : W4.cell? ⟨w.heap.size + 1, 1, none⟩ = some (.slice A V2.length c) := AP3.out.b1.cell 1
      go_wp2_with fail
      refine (C.out _ (Ext.refl _)).mono ?_; rintro e w5 ⟨rfl, x5⟩
      obtain ⟨W, hW⟩ : ∃ W, W = (w5.setCell ⟨w.heap.size, 0, none⟩ (.string s)).setCell ⟨w.heap.size, 1, none⟩ (.slice A V2.length c) := ⟨_, rfl⟩
      rw [HSS.out]
      obtain ⟨b, hb⟩ : ∃ b, patB (s.data.toList, V2) = b := ⟨_, rfl⟩
      rw [hb] at HE ⊢
      have FIN := Lib.hid (AP3.out.fin x5 (asPat u.data.toList) b HE.out W hW)
      have q0 := x5.at q0
      have q1 := x5.at q1
      have p0 : w5.cell? ⟨w.heap.size, 0, none⟩ = some (.string ByteArray.empty) := (AP3.out.kept x5).b0.cell 0
      have p1 : w5.cell? ⟨w.heap.size, 1, none⟩ = some (.slice none 0 0) := (AP3.out.kept x5).b0.cell 1
      have z0 := (AP3.out.kept x5).b0.free 0
      have z1 := (AP3.out.kept x5).b0.free 1
      clear C AP3 HE HSS hb x5
      go_wp2_with fail
      rw [← hW]
      clear hW
      refine bodyPost_ret (results_box_tmp rfl _ _ w.heap.size _ _ rfl rfl FIN.out.2.range (Tryd.isAgg42 _) (Tryd.sizeOf42 _)) rfl ?_
      exact FIN.out.1
end L10
end Go.Proofs.YtijhabhnhglhgaaDoor

