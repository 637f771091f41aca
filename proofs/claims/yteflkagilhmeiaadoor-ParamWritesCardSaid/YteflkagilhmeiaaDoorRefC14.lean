/- The document's Write. Written by gen14/rwrite.py. -/
import Derived.Test.YteflkagilhmeiaaDoorRefB14
import Derived.Test.YteflkagilhmeiaaDoorLoose14
import Derived.Test.YteflkagilhmeiaaDoorWid14
namespace Go.Proofs.YteflkagilhmeiaaDoor
open Go.ChangeShapes Go.WideShapes Go.ChangeAt Go.RowKit Go.Deep
namespace L14

/-- What it answers: the text, the error. -/
def RWriteU (w : World) (L : LayD) (e : Ending) (w' : World) : Prop := Ext w w' ∧ ∃ (A : Option Addr) (n c : Nat), e = .returned (.tuple #[.slice A n c, .int .i64 (zW L)]) ∧ n = (tW L).length ∧ SeenB w' A (tW L)
theorem line_c {L : LayD} {c : Nat} (ok : LayOk L c) {j t : Nat} (hx : (j, t) ∈ seqN L.n) (g : Nat) (w : World) (hg : Blk w g 3 (((List.range (cntK j)).map (fun i => valD L j t i)).map (.int .i64))) :
    Calls Tryd.prog 16 #[.string (strS (nameL j)), .slice (some ⟨g, 0, none⟩) (cntK j) (cntK j)] w (Ret w (.string (strS (lineL L (j, t))))) := by
  have e : lineL L (j, t) = lineS (nameL j) ((List.range (cntK j)).map (fun i => valD L j t i)) := by
    rw [lineL, lineS, restS, List.flatMap_map]
  rw [e]
  have h5 := cntK_small j
  exact line_any (nameL j) (by have := nameL_len j; omega) _ (by simp; omega) (fun n hn => by
    obtain ⟨i, hi, rfl⟩ := List.mem_map.1 hn
    exact valD_wide (i := i) ok hx) g _ _ w hg (by simp) (Nat.le_refl _)
def shpT (L : LayD) (k : Nat) : List UInt8 := (List.range k).flatMap fun t => lineL L (2, t)
def accT (L : LayD) (k : Nat) : List UInt8 := lineL L (0, 0) ++ lineL L (1, 0) ++ shpT L k
theorem accT_next (L : LayD) (k : Nat) : accT L (k + 1) = accT L k ++ lineL L (2, k) := by
  rw [accT, accT, shpT, shpT, List.range_succ, List.flatMap_append, List.flatMap_singleton]
  simp only [List.append_assoc]
theorem accT_len {L : LayD} {c : Nat} (ok : LayOk L c) : ∀ k, k ≤ L.n → (accT L k).length ≤ 240 + 120 * k
  | 0, _ => by
    have h0 := lineL_len ok (0, 0, 0) (show (0, 0) ∈ seqN L.n from seq_mem (by decide) (by decide))
    have h1 := lineL_len ok (1, 0, 0) (show (1, 0) ∈ seqN L.n from seq_mem (by decide) (by decide))
    show (lineL L (keyN (0, 0, 0)) ++ lineL L (keyN (1, 0, 0)) ++ []).length ≤ _
    rw [List.append_nil, List.length_append]
    omega
  | k + 1, hk => by
    have h0 := accT_len ok k (by omega)
    have h1 := lineL_len ok (2, k, 0) (show (2, k) ∈ seqN L.n from seq_two (by omega))
    rw [accT_next, List.length_append]
    show _ + (lineL L (keyN (2, k, 0))).length ≤ _
    omega
theorem textL_acc (L : LayD) : textL L = accT L L.n ++ lineL L (3, 0) ++ lineL L (4, 0) ++ lineL L (5, 0) ++ lineL L (6, 0) ++ lineL L (7, 0) ++ lineL L (8, 0) ++ lineL L (9, 0) := by
  have : (List.range L.n).flatMap (fun t => lineL L (2, t)) = ((List.range L.n).map (fun t => (2, t))).flatMap (lineL L) := by rw [List.flatMap_map]
  rw [textL, seqN, List.flatMap_append, List.flatMap_append, accT, shpT, this]
  simp

theorem zadd {a b : List UInt8} {m n : Nat} (ha : (strS a).size ≤ m) (hb : (strS b).size ≤ n) : (strS (a ++ b)).size ≤ m + n := by
  rw [strS_size] at *
  rw [List.length_append]
  omega
theorem zno {a b : List UInt8} {m n : Nat} (ha : (strS a).size ≤ m) (hb : (strS b).size ≤ n) (h : m + n ≤ 1000000) : ¬ 9223372036854775807 < (strS a).size + (strS b).size := by omega

set_option maxRecDepth 100000 in
set_option maxHeartbeats 16000000 in
theorem rwrite_any (L : LayD) (A : Option Addr) (c : Nat) (w : World) (ok : LayOk L c) (sn : SeenP w A L.n L.sh) :
    Calls Tryd.prog 9 #[.agg (layC L A c).toArray] w (RWriteU w L) := by
  obtain ⟨WB, hWB⟩ : ∃ WB, WB = w.alloc (.cells (layC L A c).toArray 24) := ⟨_, rfl⟩
  have x0 : Ext w WB := by rw [hWB]; exact (Ext.refl _).alloc _
  have K0 := Lib.hid (show Blk WB w.heap.size 24 (layC L A c) by rw [hWB]; exact Blk.lit _ _ _ _ rfl)
  have SN := Lib.hid (sn.ext x0)
  have X := Lib.hid x0
  have RC := Lib.hid (rcheck_any L A c WB ok SN.out)
  have FEW := Lib.hid (show mayL L = true → L.n ≤ 40 from may_few)
  have C0 := Lib.hid (fun g w' (hg : Blk w' g 3 [.int .i64 (L.v 0)]) => show Calls Tryd.prog 16 #[.string ⟨#[119, 105, 100, 116, 104]⟩, .slice (some ⟨g, 0, none⟩) 1 1] w' (Ret w' (.string (strS (lineL L (0, 0))))) from line_c ok (seq_mem (by decide) (by decide)) g w' hg)
  have Z0 := Lib.hid (show (strS (lineL L (0, 0))).size ≤ 120 by rw [strS_size]; exact lineL_len ok (0, 0, 0) (seq_mem (by decide) (by decide)))
  have C1 := Lib.hid (fun g w' (hg : Blk w' g 3 [.int .i64 (L.v 1), .int .i64 (L.v 2), .int .i64 (L.v 3)]) => show Calls Tryd.prog 16 #[.string ⟨#[115, 112, 97, 99, 101]⟩, .slice (some ⟨g, 0, none⟩) 3 3] w' (Ret w' (.string (strS (lineL L (1, 0))))) from line_c ok (seq_mem (by decide) (by decide)) g w' hg)
  have Z1 := Lib.hid (show (strS (lineL L (1, 0))).size ≤ 120 by rw [strS_size]; exact lineL_len ok (1, 0, 0) (seq_mem (by decide) (by decide)))
  have C2 := Lib.hid (fun k (hk : k < L.n) g w' (hg : Blk w' g 3 [.int .i64 (L.sh k).1, .int .i64 (L.sh k).2]) => show Calls Tryd.prog 16 #[.string ⟨#[115, 104, 97, 112, 101]⟩, .slice (some ⟨g, 0, none⟩) 2 2] w' (Ret w' (.string (strS (lineL L (2, k))))) from line_c ok (seq_two hk) g w' hg)
  have Z2 := Lib.hid (fun k (hk : k < L.n) => show (strS (lineL L (2, k))).size ≤ 120 by rw [strS_size]; exact lineL_len ok (2, k, 0) (seq_two hk))
  have C3 := Lib.hid (fun g w' (hg : Blk w' g 3 [.int .i64 (L.v 5), .int .i64 (L.v 6)]) => show Calls Tryd.prog 16 #[.string ⟨#[104, 97, 110, 103]⟩, .slice (some ⟨g, 0, none⟩) 2 2] w' (Ret w' (.string (strS (lineL L (3, 0))))) from line_c ok (seq_mem (by decide) (by decide)) g w' hg)
  have Z3 := Lib.hid (show (strS (lineL L (3, 0))).size ≤ 120 by rw [strS_size]; exact lineL_len ok (3, 0, 0) (seq_mem (by decide) (by decide)))
  have C4 := Lib.hid (fun g w' (hg : Blk w' g 3 [.int .i64 (L.v 7), .int .i64 (L.v 8)]) => show Calls Tryd.prog 16 #[.string ⟨#[112, 97, 114, 116, 115]⟩, .slice (some ⟨g, 0, none⟩) 2 2] w' (Ret w' (.string (strS (lineL L (4, 0))))) from line_c ok (seq_mem (by decide) (by decide)) g w' hg)
  have Z4 := Lib.hid (show (strS (lineL L (4, 0))).size ≤ 120 by rw [strS_size]; exact lineL_len ok (4, 0, 0) (seq_mem (by decide) (by decide)))
  have C5 := Lib.hid (fun g w' (hg : Blk w' g 3 [.int .i64 (L.v 9), .int .i64 (L.v 10)]) => show Calls Tryd.prog 16 #[.string ⟨#[98, 97, 100]⟩, .slice (some ⟨g, 0, none⟩) 2 2] w' (Ret w' (.string (strS (lineL L (5, 0))))) from line_c ok (seq_mem (by decide) (by decide)) g w' hg)
  have Z5 := Lib.hid (show (strS (lineL L (5, 0))).size ≤ 120 by rw [strS_size]; exact lineL_len ok (5, 0, 0) (seq_mem (by decide) (by decide)))
  have C6 := Lib.hid (fun g w' (hg : Blk w' g 3 [.int .i64 (L.v 11)]) => show Calls Tryd.prog 16 #[.string ⟨#[101, 120, 116, 114, 97]⟩, .slice (some ⟨g, 0, none⟩) 1 1] w' (Ret w' (.string (strS (lineL L (6, 0))))) from line_c ok (seq_mem (by decide) (by decide)) g w' hg)
  have Z6 := Lib.hid (show (strS (lineL L (6, 0))).size ≤ 120 by rw [strS_size]; exact lineL_len ok (6, 0, 0) (seq_mem (by decide) (by decide)))
  have C7 := Lib.hid (fun g w' (hg : Blk w' g 3 [.int .i64 (L.v 12), .int .i64 (L.v 13), .int .i64 (L.v 14)]) => show Calls Tryd.prog 16 #[.string ⟨#[112, 101, 110, 97, 108, 116, 105, 101, 115]⟩, .slice (some ⟨g, 0, none⟩) 3 3] w' (Ret w' (.string (strS (lineL L (7, 0))))) from line_c ok (seq_mem (by decide) (by decide)) g w' hg)
  have Z7 := Lib.hid (show (strS (lineL L (7, 0))).size ≤ 120 by rw [strS_size]; exact lineL_len ok (7, 0, 0) (seq_mem (by decide) (by decide)))
  have C8 := Lib.hid (fun g w' (hg : Blk w' g 3 [.int .i64 (L.v 15), .int .i64 (L.v 16), .int .i64 (L.v 17), .int .i64 (L.v 18), .int .i64 (L.v 19)]) => show Calls Tryd.prog 16 #[.string ⟨#[100, 101, 109, 101, 114, 105, 116, 115]⟩, .slice (some ⟨g, 0, none⟩) 5 5] w' (Ret w' (.string (strS (lineL L (8, 0))))) from line_c ok (seq_mem (by decide) (by decide)) g w' hg)
  have Z8 := Lib.hid (show (strS (lineL L (8, 0))).size ≤ 120 by rw [strS_size]; exact lineL_len ok (8, 0, 0) (seq_mem (by decide) (by decide)))
  have C9 := Lib.hid (fun g w' (hg : Blk w' g 3 [.int .i64 (L.v 20)]) => show Calls Tryd.prog 16 #[.string ⟨#[108, 111, 111, 115, 101]⟩, .slice (some ⟨g, 0, none⟩) 1 1] w' (Ret w' (.string (strS (lineL L (9, 0))))) from line_c ok (seq_mem (by decide) (by decide)) g w' hg)
  have Z9 := Lib.hid (show (strS (lineL L (9, 0))).size ≤ 120 by rw [strS_size]; exact lineL_len ok (9, 0, 0) (seq_mem (by decide) (by decide)))
  have ZA := Lib.hid (fun k (hk : k ≤ L.n) => show (strS (accT L k)).size ≤ 240 + 120 * k by rw [strS_size]; exact accT_len ok k hk)
  have A0 := Lib.hid (show accT L 0 = lineL L (0, 0) ++ lineL L (1, 0) by rw [accT]; exact List.append_nil _)
  have AN := Lib.hid (accT_next L)
  have TX := Lib.hid (textL_acc L)
  have TW := Lib.hid (show mayL L = true → tW L = textL L ∧ zW L = 0 from fun h => ⟨by rw [tW, if_pos h], by rw [zW, if_pos h]⟩)
  have TN := Lib.hid (show mayL L = false → tW L = [] ∧ zW L = 140 from fun h => ⟨by rw [tW, h]; rfl, by rw [zW, h]; rfl⟩)
  have HN := Lib.hid (show L.n ≤ c from ok.n)
  clear sn x0 ok
  go_enter Tryd.func9, Tryd.ntmps9
  go_upto_region 1 with (fail)
  rw [← hWB]
  clear hWB
  generalize w.heap.size = b0 at *
  go_wp2_with (first | (refine wpList_getW (by kernel_rfl) _ rfl b0 rfl K0.out ?_) | fail)
  refine RC.out.mono ?_
  rintro e w1 ⟨rfl, x1⟩
  have K0 := Lib.hid (K0.out.ext x1)
  have SN := Lib.hid (SN.out.ext x1)
  have X := Lib.hid (X.out.trans x1)
  clear x1 RC
  cases hm : mayL L with
  | false =>
    obtain ⟨t1, t2⟩ := TN.out hm
    have T1 := Lib.hid t1
    have T2 := Lib.hid t2
    clear t1 t2 hm
    go_wp2_with fail
    go_ret2
    exact ⟨X.out, none, 0, 0, by rw [T2.out]; rfl, by rw [T1.out]; rfl, by rw [T1.out]; exact SeenB.nil⟩
  | true =>
  have n40 := Lib.hid (FEW.out hm)
  obtain ⟨t1, t2⟩ := TW.out hm
  have T1 := Lib.hid t1
  have T2 := Lib.hid t2
  clear t1 t2 hm TW TN FEW
  go_upto_region 4 with (fail)
  go_cut [5] from 11 to 23 (fun vs wx => vs = .string (strS (accT L 0)) ∧ Ext w1 wx)
  case first =>
    skip
    refine wp_region_noPanic ?_
    have xd : Ext w1 w1.drew := (Ext.refl _).drew
    refine wp_region_held_drew (S := fun w' => Ext w1 w') (by kernel_rfl) xd (fun h0 => ?_)
    obtain ⟨V0, hV0⟩ : ∃ V0, V0 = w1.drew := ⟨_, rfl⟩
    rw [← hV0] at xd h0 ⊢
    have X := Lib.hid xd
    clear xd hV0
    refine wpAnyH_take (i := 0) (oi := ?_) (v := ?_) ?_ (by kernel_rfl) (by kernel_rfl) (by kernel_rfl) ?_ ?_ h0 ?_
    rotate_left 2
    · simp only [List.getElem?_toArray, List.getElem?_cons_zero]; rfl
    · exact fun _ _ _ h => h
    · refine Or.inl ⟨by rfl, ?_⟩
      intro w hSw
      (try dsimp only at hSw)
      go_simp
      (try with_reducible rfl)
    (try simp only [Act.put, List.setIfInBounds_toArray, List.set_cons_zero, List.set_cons_succ])
    refine wpAnyH_take (i := 1) (oi := ?_) (v := ?_) ?_ (by kernel_rfl) (by kernel_rfl) (by kernel_rfl) ?_ ?_ h0 ?_
    rotate_left 2
    · simp only [List.getElem?_toArray, List.getElem?_cons_zero, List.getElem?_cons_succ]; rfl
    · exact fun _ _ _ h => h
    · refine Or.inl ⟨by rfl, ?_⟩
      intro w hSw
      have cl : w.cell? ⟨b0, 0, none⟩ = some (.int .i64 (L.v 0)) := (K0.out.ext hSw).cell 0
      go_simp
      (try with_reducible rfl)
    (try simp only [Act.put, List.setIfInBounds_toArray, List.set_cons_zero, List.set_cons_succ])
    refine wpAnyH_take (i := 4) (oi := ?_) (v := ?_) ?_ (by kernel_rfl) (by kernel_rfl) (by kernel_rfl) ?_ ?_ h0 ?_
    rotate_left 2
    · simp only [List.getElem?_toArray, List.getElem?_cons_zero, List.getElem?_cons_succ]; rfl
    · exact fun _ _ _ h => h
    · refine Or.inl ⟨by rfl, ?_⟩
      intro w hSw
      (try dsimp only at hSw)
      go_simp
      (try with_reducible rfl)
    (try simp only [Act.put, List.setIfInBounds_toArray, List.set_cons_zero, List.set_cons_succ])
    refine wpAnyH_take (i := 5) (oi := ?_) (v := ?_) ?_ (by kernel_rfl) (by kernel_rfl) (by kernel_rfl) ?_ ?_ h0 ?_
    rotate_left 2
    · simp only [List.getElem?_toArray, List.getElem?_cons_zero, List.getElem?_cons_succ]; rfl
    · exact fun _ _ _ h => h
    · refine Or.inl ⟨by rfl, ?_⟩
      intro w hSw
      have cl : w.cell? ⟨b0, 1, none⟩ = some (.int .i64 (L.v 1)) := (K0.out.ext hSw).cell 1
      go_simp
      (try with_reducible rfl)
    (try simp only [Act.put, List.setIfInBounds_toArray, List.set_cons_zero, List.set_cons_succ])
    refine wpAnyH_take (i := 6) (oi := ?_) (v := ?_) ?_ (by kernel_rfl) (by kernel_rfl) (by kernel_rfl) ?_ ?_ h0 ?_
    rotate_left 2
    · simp only [List.getElem?_toArray, List.getElem?_cons_zero, List.getElem?_cons_succ]; rfl
    · exact fun _ _ _ h => h
    · refine Or.inl ⟨by rfl, ?_⟩
      intro w hSw
      (try dsimp only at hSw)
      go_simp
      (try with_reducible rfl)
    (try simp only [Act.put, List.setIfInBounds_toArray, List.set_cons_zero, List.set_cons_succ])
    refine wpAnyH_take (i := 7) (oi := ?_) (v := ?_) ?_ (by kernel_rfl) (by kernel_rfl) (by kernel_rfl) ?_ ?_ h0 ?_
    rotate_left 2
    · simp only [List.getElem?_toArray, List.getElem?_cons_zero, List.getElem?_cons_succ]; rfl
    · exact fun _ _ _ h => h
    · refine Or.inl ⟨by rfl, ?_⟩
      intro w hSw
      have cl : w.cell? ⟨b0, 2, none⟩ = some (.int .i64 (L.v 2)) := (K0.out.ext hSw).cell 2
      go_simp
      (try with_reducible rfl)
    (try simp only [Act.put, List.setIfInBounds_toArray, List.set_cons_zero, List.set_cons_succ])
    refine wpAnyH_take (i := 8) (oi := ?_) (v := ?_) ?_ (by kernel_rfl) (by kernel_rfl) (by kernel_rfl) ?_ ?_ h0 ?_
    rotate_left 2
    · simp only [List.getElem?_toArray, List.getElem?_cons_zero, List.getElem?_cons_succ]; rfl
    · exact fun _ _ _ h => h
    · refine Or.inl ⟨by rfl, ?_⟩
      intro w hSw
      (try dsimp only at hSw)
      go_simp
      (try with_reducible rfl)
    (try simp only [Act.put, List.setIfInBounds_toArray, List.set_cons_zero, List.set_cons_succ])
    refine wpAnyH_take (i := 9) (oi := ?_) (v := ?_) ?_ (by kernel_rfl) (by kernel_rfl) (by kernel_rfl) ?_ ?_ h0 ?_
    rotate_left 2
    · simp only [List.getElem?_toArray, List.getElem?_cons_zero, List.getElem?_cons_succ]; rfl
    · exact fun _ _ _ h => h
    · refine Or.inl ⟨by rfl, ?_⟩
      intro w hSw
      have cl : w.cell? ⟨b0, 3, none⟩ = some (.int .i64 (L.v 3)) := (K0.out.ext hSw).cell 3
      go_simp
      (try with_reducible rfl)
    (try simp only [Act.put, List.setIfInBounds_toArray, List.set_cons_zero, List.set_cons_succ])
    refine Loose.go [(2, []), (3, [2]), (10, []), (11, [10]), (12, [3, 11]), (13, [12])] (fun A F a' w' => ∃ u13 u14 u21 u22 u23 u5 : Value, a' = ((((((A.put (some 13) u13).put (some 14) u14).put (some 21) u21).put (some 22) u22).put (some 23) u23).put (some 5) u5) ∧ Hid (Ext w1 w') ∧ Hid (F 2 = true → ∃ g : Nat, u13 = .slice (some ⟨g, 0, none⟩) 1 1 ∧ Blk w' g 3 [.int .i64 (L.v 0)]) ∧ Hid (F 3 = true → u14 = .string (strS (lineL L (0, 0)))) ∧ Hid (F 10 = true → ∃ g : Nat, u21 = .slice (some ⟨g, 0, none⟩) 3 3 ∧ Blk w' g 3 [.int .i64 (L.v 1), .int .i64 (L.v 2), .int .i64 (L.v 3)]) ∧ Hid (F 11 = true → u22 = .string (strS (lineL L (1, 0)))) ∧ Hid (F 12 = true → u23 = .string (strS (lineL L (0, 0) ++ lineL L (1, 0)))) ∧ Hid (F 13 = true → u5 = .string (strS (lineL L (0, 0) ++ lineL L (1, 0))))) (by kernel_rfl) (by kernel_rfl) (by kernel_rfl) (by kernel_rfl) ?_ ?_ ?_ ?_
    · exact ⟨_, _, _, _, _, _, rfl, X, Lib.hid (fun h => absurd h (by decide)), Lib.hid (fun h => absurd h (by decide)), Lib.hid (fun h => absurd h (by decide)), Lib.hid (fun h => absurd h (by decide)), Lib.hid (fun h => absurd h (by decide)), Lib.hid (fun h => absurd h (by decide))⟩
    · intro F a' w' hI
      obtain ⟨u13, u14, u21, u22, u23, u5, _, X, _⟩ := hI
      exact X.out
    · clear X h0
      intro x hx F a' w' hI _ hd o ho K hK
      simp only [List.mem_cons, List.not_mem_nil, or_false] at hx
      rcases hx with rfl | rfl | rfl | rfl | rfl | rfl
      · dsimp only at hd ho
        simp only [List.getElem?_toArray, List.getElem?_cons_zero, List.getElem?_cons_succ] at ho
        obtain rfl := Option.some.inj ho
        clear ho
        obtain ⟨u13, u14, u21, u22, u23, u5, ha, X, f2, f3, f10, f11, f12, f13⟩ := hI
        rw [ha]
        clear ha
        obtain ⟨w2, hw2⟩ : ∃ w2, w2 = w'.alloc (.cells #[.int .i64 (L.v 0)] 3) := ⟨_, rfl⟩
        have y : Ext w' w2 := by rw [hw2]; exact (Ext.refl _).alloc _
        have kb := Lib.hid (show Blk w2 w'.heap.size 3 [.int .i64 (L.v 0)] by rw [hw2]; exact Blk.lit _ _ _ _ rfl)
        have y := Lib.hid y
        (try simp only [Act.put, List.setIfInBounds_toArray, List.set_cons_zero, List.set_cons_succ])
        go_simp
        rw [← hw2]
        refine hK.out _ _ ⟨.slice (some ⟨w'.heap.size, 0, none⟩) 1 1, u14, u21, u22, u23, u5, by simp only [Act.put, List.setIfInBounds_toArray, List.set_cons_zero, List.set_cons_succ], Lib.hid (X.out.trans y.out), Lib.hid (fun _ => ⟨_, rfl, kb.out⟩), Lib.hid (fun h => f3.out (Loose.upd_other h (by decide))), Lib.hid (fun h => by obtain ⟨g, e, kb⟩ := f10.out (Loose.upd_other h (by decide)); exact ⟨g, e, kb.ext y.out⟩), Lib.hid (fun h => f11.out (Loose.upd_other h (by decide))), Lib.hid (fun h => f12.out (Loose.upd_other h (by decide))), Lib.hid (fun h => f13.out (Loose.upd_other h (by decide)))⟩
      · dsimp only at hd ho
        simp only [List.getElem?_toArray, List.getElem?_cons_zero, List.getElem?_cons_succ] at ho
        obtain rfl := Option.some.inj ho
        clear ho
        obtain ⟨u13, u14, u21, u22, u23, u5, ha, X, f2, f3, f10, f11, f12, f13⟩ := hI
        rw [ha]
        clear ha
        obtain ⟨g, rfl, kb⟩ := f2.out (hd 2 (by simp))
        have C := Lib.hid (C0.out g w' kb)
        clear kb
        (try simp only [Act.put, List.setIfInBounds_toArray, List.set_cons_zero, List.set_cons_succ])
        go_simp
        refine C.out.mono ?_
        rintro e w2 ⟨rfl, y⟩
        have y := Lib.hid y
        refine hK.out _ _ ⟨.slice (some ⟨g, 0, none⟩) 1 1, .string (strS (lineL L (0, 0))), u21, u22, u23, u5, by simp only [Act.put, List.setIfInBounds_toArray, List.set_cons_zero, List.set_cons_succ], Lib.hid (X.out.trans y.out), Lib.hid (fun h => by obtain ⟨g, e, kb⟩ := f2.out (Loose.upd_other h (by decide)); exact ⟨g, e, kb.ext y.out⟩), Lib.hid (fun _ => rfl), Lib.hid (fun h => by obtain ⟨g, e, kb⟩ := f10.out (Loose.upd_other h (by decide)); exact ⟨g, e, kb.ext y.out⟩), Lib.hid (fun h => f11.out (Loose.upd_other h (by decide))), Lib.hid (fun h => f12.out (Loose.upd_other h (by decide))), Lib.hid (fun h => f13.out (Loose.upd_other h (by decide)))⟩
      · dsimp only at hd ho
        simp only [List.getElem?_toArray, List.getElem?_cons_zero, List.getElem?_cons_succ] at ho
        obtain rfl := Option.some.inj ho
        clear ho
        obtain ⟨u13, u14, u21, u22, u23, u5, ha, X, f2, f3, f10, f11, f12, f13⟩ := hI
        rw [ha]
        clear ha
        obtain ⟨w2, hw2⟩ : ∃ w2, w2 = w'.alloc (.cells #[.int .i64 (L.v 1), .int .i64 (L.v 2), .int .i64 (L.v 3)] 3) := ⟨_, rfl⟩
        have y : Ext w' w2 := by rw [hw2]; exact (Ext.refl _).alloc _
        have kb := Lib.hid (show Blk w2 w'.heap.size 3 [.int .i64 (L.v 1), .int .i64 (L.v 2), .int .i64 (L.v 3)] by rw [hw2]; exact Blk.lit _ _ _ _ rfl)
        have y := Lib.hid y
        (try simp only [Act.put, List.setIfInBounds_toArray, List.set_cons_zero, List.set_cons_succ])
        go_simp
        rw [← hw2]
        refine hK.out _ _ ⟨u13, u14, .slice (some ⟨w'.heap.size, 0, none⟩) 3 3, u22, u23, u5, by simp only [Act.put, List.setIfInBounds_toArray, List.set_cons_zero, List.set_cons_succ], Lib.hid (X.out.trans y.out), Lib.hid (fun h => by obtain ⟨g, e, kb⟩ := f2.out (Loose.upd_other h (by decide)); exact ⟨g, e, kb.ext y.out⟩), Lib.hid (fun h => f3.out (Loose.upd_other h (by decide))), Lib.hid (fun _ => ⟨_, rfl, kb.out⟩), Lib.hid (fun h => f11.out (Loose.upd_other h (by decide))), Lib.hid (fun h => f12.out (Loose.upd_other h (by decide))), Lib.hid (fun h => f13.out (Loose.upd_other h (by decide)))⟩
      · dsimp only at hd ho
        simp only [List.getElem?_toArray, List.getElem?_cons_zero, List.getElem?_cons_succ] at ho
        obtain rfl := Option.some.inj ho
        clear ho
        obtain ⟨u13, u14, u21, u22, u23, u5, ha, X, f2, f3, f10, f11, f12, f13⟩ := hI
        rw [ha]
        clear ha
        obtain ⟨g, rfl, kb⟩ := f10.out (hd 10 (by simp))
        have C := Lib.hid (C1.out g w' kb)
        clear kb
        (try simp only [Act.put, List.setIfInBounds_toArray, List.set_cons_zero, List.set_cons_succ])
        go_simp
        refine C.out.mono ?_
        rintro e w2 ⟨rfl, y⟩
        have y := Lib.hid y
        refine hK.out _ _ ⟨u13, u14, .slice (some ⟨g, 0, none⟩) 3 3, .string (strS (lineL L (1, 0))), u23, u5, by simp only [Act.put, List.setIfInBounds_toArray, List.set_cons_zero, List.set_cons_succ], Lib.hid (X.out.trans y.out), Lib.hid (fun h => by obtain ⟨g, e, kb⟩ := f2.out (Loose.upd_other h (by decide)); exact ⟨g, e, kb.ext y.out⟩), Lib.hid (fun h => f3.out (Loose.upd_other h (by decide))), Lib.hid (fun h => by obtain ⟨g, e, kb⟩ := f10.out (Loose.upd_other h (by decide)); exact ⟨g, e, kb.ext y.out⟩), Lib.hid (fun _ => rfl), Lib.hid (fun h => f12.out (Loose.upd_other h (by decide))), Lib.hid (fun h => f13.out (Loose.upd_other h (by decide)))⟩
      · dsimp only at hd ho
        simp only [List.getElem?_toArray, List.getElem?_cons_zero, List.getElem?_cons_succ] at ho
        obtain rfl := Option.some.inj ho
        clear ho
        obtain ⟨u13, u14, u21, u22, u23, u5, ha, X, f2, f3, f10, f11, f12, f13⟩ := hI
        rw [ha]
        clear ha
        have e3 := f3.out (hd 3 (by simp))
        subst e3
        have e11 := f11.out (hd 11 (by simp))
        subst e11
        have zz := show ¬ 9223372036854775807 < (strS (lineL L (0, 0))).size + (strS (lineL L (1, 0))).size from by have a := Z0.out; have b := Z1.out; omega
        (try simp only [Act.put, List.setIfInBounds_toArray, List.set_cons_zero, List.set_cons_succ])
        go_simp
        refine hK.out _ _ ⟨u13, .string (strS (lineL L (0, 0))), u21, .string (strS (lineL L (1, 0))), .string (strS (lineL L (0, 0)) ++ strS (lineL L (1, 0))), u5, by simp only [Act.put, List.setIfInBounds_toArray, List.set_cons_zero, List.set_cons_succ], X, Lib.hid (fun h => f2.out (Loose.upd_other h (by decide))), Lib.hid (fun h => f3.out (Loose.upd_other h (by decide))), Lib.hid (fun h => f10.out (Loose.upd_other h (by decide))), Lib.hid (fun h => f11.out (Loose.upd_other h (by decide))), Lib.hid (fun _ => by rw [strS_app]), Lib.hid (fun h => f13.out (Loose.upd_other h (by decide)))⟩
      · dsimp only at hd ho
        simp only [List.getElem?_toArray, List.getElem?_cons_zero, List.getElem?_cons_succ] at ho
        obtain rfl := Option.some.inj ho
        clear ho
        obtain ⟨u13, u14, u21, u22, u23, u5, ha, X, f2, f3, f10, f11, f12, f13⟩ := hI
        rw [ha]
        clear ha
        have e12 := f12.out (hd 12 (by simp))
        subst e12
        (try simp only [Act.put, List.setIfInBounds_toArray, List.set_cons_zero, List.set_cons_succ])
        go_simp
        refine hK.out _ _ ⟨u13, u14, u21, u22, .string (strS (lineL L (0, 0) ++ lineL L (1, 0))), .string (strS (lineL L (0, 0) ++ lineL L (1, 0))), by simp only [Act.put, List.setIfInBounds_toArray, List.set_cons_zero, List.set_cons_succ], X, Lib.hid (fun h => f2.out (Loose.upd_other h (by decide))), Lib.hid (fun h => f3.out (Loose.upd_other h (by decide))), Lib.hid (fun h => f10.out (Loose.upd_other h (by decide))), Lib.hid (fun h => f11.out (Loose.upd_other h (by decide))), Lib.hid (fun h => f12.out (Loose.upd_other h (by decide))), Lib.hid (fun _ => rfl)⟩
    · clear X h0
      intro F a' w' hI hall
      obtain ⟨u13, u14, u21, u22, u23, u5, rfl, X, f2, f3, f10, f11, f12, f13⟩ := hI
      obtain rfl := f13.out (hall 13)
      clear hall f2 f3 f10 f11 f12 f13
      (try simp only [Act.put, List.setIfInBounds_toArray, List.set_cons_zero, List.set_cons_succ])
      refine NoPanic.normal ?_
      go_wp2_with fail
      go_meet
      exact ⟨by rw [A0.out], X.out⟩
  case rest =>
  rename World => w2
  obtain ⟨rfl, x2⟩ := hcut
  have K0 := Lib.hid (K0.out.ext x2)
  have SN := Lib.hid (SN.out.ext x2)
  have X := Lib.hid (X.out.trans x2)
  clear x2 C0 C1 Z0 Z1 A0
  go_wp2_with fail
  go_loopw [5, 6] (fun vs vi wr => ∃ k : Nat, k ≤ L.n ∧ vs = .string (strS (accT L k)) ∧ vi = .int .i64 (k : Int) ∧ Hid (Ext w2 wr)) (fun _ i _ => 41 - (intOf i).toNat)
  case atStart => exact ⟨0, Nat.zero_le _, rfl, rfl, Lib.hid (Ext.refl _)⟩
  case round =>
    obtain ⟨k, hk, rfl, rfl, XK⟩ := hrel
    have K0 := Lib.hid (K0.out.ext XK.out)
    have SN := Lib.hid (SN.out.ext XK.out)
    have X := Lib.hid (X.out.trans XK.out)
    have k40 : k ≤ 40 := Nat.le_trans hk n40.out
    have ZK := Lib.hid (show (strS (accT L k)).size ≤ 6000 by have := ZA.out k hk; omega)
    have a4 : wr.cell? ⟨b0, 4, none⟩ = some (.slice A L.n c) := K0.out.cell 4
    by_cases hlt : k < L.n
    · have hk64 : (k : Int) < (L.n : Int) := by omega
      have Z2k := Lib.hid (Z2.out k hlt)
      have C2k := Lib.hid (C2.out k hlt)
      have ANk := Lib.hid (AN.out k)
      obtain ⟨ad, hA, g0, g1⟩ := SN.out.get hlt
      have G0 := Lib.hid g0
      have G1 := Lib.hid g1
      clear g0 g1 C3 C4 C5 C6 C7 C8 C9 Z3 Z4 Z5 Z6 Z7 Z8 Z9 TX T1 T2 AN C2 Z2 ZA
      subst hA
      go_upto_region 8 with (fail)
      clear a4
      skip
      refine wp_region_noPanic ?_
      have xd : Ext wr wr.drew := (Ext.refl _).drew
      refine wp_region_held_drew (S := fun w' => Ext wr w') (by kernel_rfl) xd (fun h0 => ?_)
      obtain ⟨V0, hV0⟩ : ∃ V0, V0 = wr.drew := ⟨_, rfl⟩
      rw [← hV0] at xd h0 ⊢
      have X := Lib.hid xd
      clear xd hV0
      refine wpAnyH_take (i := 0) (oi := ?_) (v := ?_) ?_ (by kernel_rfl) (by kernel_rfl) (by kernel_rfl) ?_ ?_ h0 ?_
      rotate_left 2
      · simp only [List.getElem?_toArray, List.getElem?_cons_zero]; rfl
      · exact fun _ _ _ h => h
      · refine Or.inl ⟨by rfl, ?_⟩
        intro w hSw
        (try dsimp only at hSw)
        go_simp
        (try with_reducible rfl)
      (try simp only [Act.put, List.setIfInBounds_toArray, List.set_cons_zero, List.set_cons_succ])
      refine wpAnyH_take (i := 1) (oi := ?_) (v := ?_) ?_ (by kernel_rfl) (by kernel_rfl) (by kernel_rfl) ?_ ?_ h0 ?_
      rotate_left 2
      · simp only [List.getElem?_toArray, List.getElem?_cons_zero, List.getElem?_cons_succ]; rfl
      · exact fun _ _ _ h => h
      · refine Or.inl ⟨by rfl, ?_⟩
        intro w hSw
        (try dsimp only at hSw)
        go_simp
        (try with_reducible rfl)
      (try simp only [Act.put, List.setIfInBounds_toArray, List.set_cons_zero, List.set_cons_succ])
      refine wpAnyH_take (i := 2) (oi := ?_) (v := ?_) ?_ (by kernel_rfl) (by kernel_rfl) (by kernel_rfl) ?_ ?_ h0 ?_
      rotate_left 2
      · simp only [List.getElem?_toArray, List.getElem?_cons_zero, List.getElem?_cons_succ]; rfl
      · exact fun _ _ _ h => h
      · refine Or.inl ⟨by rfl, ?_⟩
        intro w hSw
        have cl : w.cell? ⟨b0, 4, none⟩ = some (.slice (some ad) L.n c) := (K0.out.ext hSw).cell 4
        go_simp
        (try with_reducible rfl)
      (try simp only [Act.put, List.setIfInBounds_toArray, List.set_cons_zero, List.set_cons_succ])
      refine wpAnyH_take (i := 3) (oi := ?_) (v := ?_) ?_ (by kernel_rfl) (by kernel_rfl) (by kernel_rfl) ?_ ?_ h0 ?_
      rotate_left 2
      · simp only [List.getElem?_toArray, List.getElem?_cons_zero, List.getElem?_cons_succ]; rfl
      · exact fun _ _ _ h => h
      · refine Or.inl ⟨by rfl, ?_⟩
        intro w hSw
        (try dsimp only at hSw)
        go_simp
        (try with_reducible rfl)
      (try simp only [Act.put, List.setIfInBounds_toArray, List.set_cons_zero, List.set_cons_succ])
      refine wpAnyH_take (i := 4) (oi := ?_) (v := ?_) ?_ (by kernel_rfl) (by kernel_rfl) (by kernel_rfl) ?_ ?_ h0 ?_
      rotate_left 2
      · simp only [List.getElem?_toArray, List.getElem?_cons_zero, List.getElem?_cons_succ]; rfl
      · exact fun _ _ _ h => h
      · refine Or.inl ⟨by rfl, ?_⟩
        intro w hSw
        (try dsimp only at hSw)
        go_simp
        (try with_reducible rfl)
      (try simp only [Act.put, List.setIfInBounds_toArray, List.set_cons_zero, List.set_cons_succ])
      refine wpAnyH_take (i := 5) (oi := ?_) (v := ?_) ?_ (by kernel_rfl) (by kernel_rfl) (by kernel_rfl) ?_ ?_ h0 ?_
      rotate_left 2
      · simp only [List.getElem?_toArray, List.getElem?_cons_zero, List.getElem?_cons_succ]; rfl
      · exact fun _ _ _ h => h
      · refine Or.inl ⟨by rfl, ?_⟩
        intro w hSw
        (try dsimp only at hSw)
        go_simp
        (try with_reducible rfl)
      (try simp only [Act.put, List.setIfInBounds_toArray, List.set_cons_zero, List.set_cons_succ])
      refine wpAnyH_take (i := 6) (oi := ?_) (v := ?_) ?_ (by kernel_rfl) (by kernel_rfl) (by kernel_rfl) ?_ ?_ h0 ?_
      rotate_left 2
      · simp only [List.getElem?_toArray, List.getElem?_cons_zero, List.getElem?_cons_succ]; rfl
      · exact fun _ _ _ h => h
      · refine Or.inl ⟨by rfl, ?_⟩
        intro w hSw
        have cl : w.cell? (ad.add (k * 2)) = some (.int .i64 (L.sh k).1) := hSw.at G0.out
        go_simp
        (try with_reducible rfl)
      (try simp only [Act.put, List.setIfInBounds_toArray, List.set_cons_zero, List.set_cons_succ])
      refine wpAnyH_take (i := 7) (oi := ?_) (v := ?_) ?_ (by kernel_rfl) (by kernel_rfl) (by kernel_rfl) ?_ ?_ h0 ?_
      rotate_left 2
      · simp only [List.getElem?_toArray, List.getElem?_cons_zero, List.getElem?_cons_succ]; rfl
      · exact fun _ _ _ h => h
      · refine Or.inl ⟨by rfl, ?_⟩
        intro w hSw
        (try dsimp only at hSw)
        go_simp
        (try with_reducible rfl)
      (try simp only [Act.put, List.setIfInBounds_toArray, List.set_cons_zero, List.set_cons_succ])
      refine wpAnyH_take (i := 8) (oi := ?_) (v := ?_) ?_ (by kernel_rfl) (by kernel_rfl) (by kernel_rfl) ?_ ?_ h0 ?_
      rotate_left 2
      · simp only [List.getElem?_toArray, List.getElem?_cons_zero, List.getElem?_cons_succ]; rfl
      · exact fun _ _ _ h => h
      · refine Or.inl ⟨by rfl, ?_⟩
        intro w hSw
        have cl : w.cell? ⟨b0, 4, none⟩ = some (.slice (some ad) L.n c) := (K0.out.ext hSw).cell 4
        go_simp
        (try with_reducible rfl)
      (try simp only [Act.put, List.setIfInBounds_toArray, List.set_cons_zero, List.set_cons_succ])
      refine wpAnyH_take (i := 9) (oi := ?_) (v := ?_) ?_ (by kernel_rfl) (by kernel_rfl) (by kernel_rfl) ?_ ?_ h0 ?_
      rotate_left 2
      · simp only [List.getElem?_toArray, List.getElem?_cons_zero, List.getElem?_cons_succ]; rfl
      · exact fun _ _ _ h => h
      · refine Or.inl ⟨by rfl, ?_⟩
        intro w hSw
        (try dsimp only at hSw)
        go_simp
        (try with_reducible rfl)
      (try simp only [Act.put, List.setIfInBounds_toArray, List.set_cons_zero, List.set_cons_succ])
      refine wpAnyH_take (i := 10) (oi := ?_) (v := ?_) ?_ (by kernel_rfl) (by kernel_rfl) (by kernel_rfl) ?_ ?_ h0 ?_
      rotate_left 2
      · simp only [List.getElem?_toArray, List.getElem?_cons_zero, List.getElem?_cons_succ]; rfl
      · exact fun _ _ _ h => h
      · refine Or.inl ⟨by rfl, ?_⟩
        intro w hSw
        (try dsimp only at hSw)
        go_simp
        (try with_reducible rfl)
      (try simp only [Act.put, List.setIfInBounds_toArray, List.set_cons_zero, List.set_cons_succ])
      refine wpAnyH_take (i := 11) (oi := ?_) (v := ?_) ?_ (by kernel_rfl) (by kernel_rfl) (by kernel_rfl) ?_ ?_ h0 ?_
      rotate_left 2
      · simp only [List.getElem?_toArray, List.getElem?_cons_zero, List.getElem?_cons_succ]; rfl
      · exact fun _ _ _ h => h
      · refine Or.inl ⟨by rfl, ?_⟩
        intro w hSw
        (try dsimp only at hSw)
        go_simp
        (try with_reducible rfl)
      (try simp only [Act.put, List.setIfInBounds_toArray, List.set_cons_zero, List.set_cons_succ])
      refine wpAnyH_take (i := 12) (oi := ?_) (v := ?_) ?_ (by kernel_rfl) (by kernel_rfl) (by kernel_rfl) ?_ ?_ h0 ?_
      rotate_left 2
      · simp only [List.getElem?_toArray, List.getElem?_cons_zero, List.getElem?_cons_succ]; rfl
      · exact fun _ _ _ h => h
      · refine Or.inl ⟨by rfl, ?_⟩
        intro w hSw
        have cl : w.cell? ⟨(ad.add (k * 2)).block, (ad.add (k * 2)).off + 1, none⟩ = some (.int .i64 (L.sh k).2) := hSw.at G1.out
        go_simp
        (try with_reducible rfl)
      (try simp only [Act.put, List.setIfInBounds_toArray, List.set_cons_zero, List.set_cons_succ])
      refine Loose.go [(13, []), (14, [13]), (15, [14]), (16, [15])] (fun A F a' w' => ∃ u44 u45 u46 u5 : Value, a' = ((((A.put (some 44) u44).put (some 45) u45).put (some 46) u46).put (some 5) u5) ∧ Hid (Ext wr w') ∧ Hid (F 13 = true → ∃ g : Nat, u44 = .slice (some ⟨g, 0, none⟩) 2 2 ∧ Blk w' g 3 [.int .i64 (L.sh k).1, .int .i64 (L.sh k).2]) ∧ Hid (F 14 = true → u45 = .string (strS (lineL L (2, k)))) ∧ Hid (F 15 = true → u46 = .string (strS (accT L k ++ lineL L (2, k)))) ∧ Hid (F 16 = true → u5 = .string (strS (accT L k ++ lineL L (2, k))))) (by kernel_rfl) (by kernel_rfl) (by kernel_rfl) (by kernel_rfl) ?_ ?_ ?_ ?_
      · exact ⟨_, _, _, _, rfl, X, Lib.hid (fun h => absurd h (by decide)), Lib.hid (fun h => absurd h (by decide)), Lib.hid (fun h => absurd h (by decide)), Lib.hid (fun h => absurd h (by decide))⟩
      · intro F a' w' hI
        obtain ⟨u44, u45, u46, u5, _, X, _⟩ := hI
        exact X.out
      · clear X h0
        intro x hx F a' w' hI _ hd o ho K hK
        simp only [List.mem_cons, List.not_mem_nil, or_false] at hx
        rcases hx with rfl | rfl | rfl | rfl
        · dsimp only at hd ho
          simp only [List.getElem?_toArray, List.getElem?_cons_zero, List.getElem?_cons_succ] at ho
          obtain rfl := Option.some.inj ho
          clear ho
          obtain ⟨u44, u45, u46, u5, ha, X, f13, f14, f15, f16⟩ := hI
          rw [ha]
          clear ha
          obtain ⟨w2, hw2⟩ : ∃ w2, w2 = w'.alloc (.cells #[.int .i64 (L.sh k).1, .int .i64 (L.sh k).2] 3) := ⟨_, rfl⟩
          have y : Ext w' w2 := by rw [hw2]; exact (Ext.refl _).alloc _
          have kb := Lib.hid (show Blk w2 w'.heap.size 3 [.int .i64 (L.sh k).1, .int .i64 (L.sh k).2] by rw [hw2]; exact Blk.lit _ _ _ _ rfl)
          have y := Lib.hid y
          (try simp only [Act.put, List.setIfInBounds_toArray, List.set_cons_zero, List.set_cons_succ])
          go_simp
          rw [← hw2]
          refine hK.out _ _ ⟨.slice (some ⟨w'.heap.size, 0, none⟩) 2 2, u45, u46, u5, by simp only [Act.put, List.setIfInBounds_toArray, List.set_cons_zero, List.set_cons_succ], Lib.hid (X.out.trans y.out), Lib.hid (fun _ => ⟨_, rfl, kb.out⟩), Lib.hid (fun h => f14.out (Loose.upd_other h (by decide))), Lib.hid (fun h => f15.out (Loose.upd_other h (by decide))), Lib.hid (fun h => f16.out (Loose.upd_other h (by decide)))⟩
        · dsimp only at hd ho
          simp only [List.getElem?_toArray, List.getElem?_cons_zero, List.getElem?_cons_succ] at ho
          obtain rfl := Option.some.inj ho
          clear ho
          obtain ⟨u44, u45, u46, u5, ha, X, f13, f14, f15, f16⟩ := hI
          rw [ha]
          clear ha
          obtain ⟨g, rfl, kb⟩ := f13.out (hd 13 (by simp))
          have C := Lib.hid (C2k.out g w' kb)
          clear kb
          (try simp only [Act.put, List.setIfInBounds_toArray, List.set_cons_zero, List.set_cons_succ])
          go_simp
          refine C.out.mono ?_
          rintro e w2 ⟨rfl, y⟩
          have y := Lib.hid y
          refine hK.out _ _ ⟨.slice (some ⟨g, 0, none⟩) 2 2, .string (strS (lineL L (2, k))), u46, u5, by simp only [Act.put, List.setIfInBounds_toArray, List.set_cons_zero, List.set_cons_succ], Lib.hid (X.out.trans y.out), Lib.hid (fun h => by obtain ⟨g, e, kb⟩ := f13.out (Loose.upd_other h (by decide)); exact ⟨g, e, kb.ext y.out⟩), Lib.hid (fun _ => rfl), Lib.hid (fun h => f15.out (Loose.upd_other h (by decide))), Lib.hid (fun h => f16.out (Loose.upd_other h (by decide)))⟩
        · dsimp only at hd ho
          simp only [List.getElem?_toArray, List.getElem?_cons_zero, List.getElem?_cons_succ] at ho
          obtain rfl := Option.some.inj ho
          clear ho
          obtain ⟨u44, u45, u46, u5, ha, X, f13, f14, f15, f16⟩ := hI
          rw [ha]
          clear ha
          have e14 := f14.out (hd 14 (by simp))
          subst e14
          have zz := zno ZK.out Z2k.out (by decide)
          (try simp only [Act.put, List.setIfInBounds_toArray, List.set_cons_zero, List.set_cons_succ])
          go_simp
          refine hK.out _ _ ⟨u44, .string (strS (lineL L (2, k))), .string (strS (accT L k) ++ strS (lineL L (2, k))), u5, by simp only [Act.put, List.setIfInBounds_toArray, List.set_cons_zero, List.set_cons_succ], X, Lib.hid (fun h => f13.out (Loose.upd_other h (by decide))), Lib.hid (fun h => f14.out (Loose.upd_other h (by decide))), Lib.hid (fun _ => by rw [strS_app]), Lib.hid (fun h => f16.out (Loose.upd_other h (by decide)))⟩
        · dsimp only at hd ho
          simp only [List.getElem?_toArray, List.getElem?_cons_zero, List.getElem?_cons_succ] at ho
          obtain rfl := Option.some.inj ho
          clear ho
          obtain ⟨u44, u45, u46, u5, ha, X, f13, f14, f15, f16⟩ := hI
          rw [ha]
          clear ha
          have e15 := f15.out (hd 15 (by simp))
          subst e15
          (try simp only [Act.put, List.setIfInBounds_toArray, List.set_cons_zero, List.set_cons_succ])
          go_simp
          refine hK.out _ _ ⟨u44, u45, .string (strS (accT L k ++ lineL L (2, k))), .string (strS (accT L k ++ lineL L (2, k))), by simp only [Act.put, List.setIfInBounds_toArray, List.set_cons_zero, List.set_cons_succ], X, Lib.hid (fun h => f13.out (Loose.upd_other h (by decide))), Lib.hid (fun h => f14.out (Loose.upd_other h (by decide))), Lib.hid (fun h => f15.out (Loose.upd_other h (by decide))), Lib.hid (fun _ => rfl)⟩
      · clear X h0
        intro F a' w' hI hall
        obtain ⟨u44, u45, u46, u5, rfl, X, f13, f14, f15, f16⟩ := hI
        obtain rfl := f16.out (hall 16)
        clear hall f13 f14 f15 f16
        (try simp only [Act.put, List.setIfInBounds_toArray, List.set_cons_zero, List.set_cons_succ])
        refine NoPanic.normal ?_
        have XK := Lib.hid (XK.out.trans X.out)
        go_wp2_with fail
        go_roundw
        case rel => exact ⟨k + 1, hlt, by rw [ANk.out], by go_num, XK⟩
        case measure => simp [intOf]; omega
    · have hk64 : ¬ (k : Int) < (L.n : Int) := by omega
      have TK : textL L = accT L k ++ lineL L (3, 0) ++ lineL L (4, 0) ++ lineL L (5, 0) ++ lineL L (6, 0) ++ lineL L (7, 0) ++ lineL L (8, 0) ++ lineL L (9, 0) := by rw [TX.out, show L.n = k by omega]
      obtain ⟨Y3, hY3⟩ : ∃ Y, Y = accT L k ++ lineL L (3, 0) := ⟨_, rfl⟩
      have EY3 := Lib.hid (show strS (accT L k) ++ strS (lineL L (3, 0)) = strS Y3 by rw [hY3, strS_app])
      have ZY3 := Lib.hid (show (strS Y3).size ≤ 6120 by rw [hY3]; exact zadd ZK.out Z3.out)
      rw [← hY3] at TK
      clear hY3
      obtain ⟨Y4, hY4⟩ : ∃ Y, Y = Y3 ++ lineL L (4, 0) := ⟨_, rfl⟩
      have EY4 := Lib.hid (show strS (Y3) ++ strS (lineL L (4, 0)) = strS Y4 by rw [hY4, strS_app])
      have ZY4 := Lib.hid (show (strS Y4).size ≤ 6240 by rw [hY4]; exact zadd ZY3.out Z4.out)
      rw [← hY4] at TK
      clear hY4
      obtain ⟨Y5, hY5⟩ : ∃ Y, Y = Y4 ++ lineL L (5, 0) := ⟨_, rfl⟩
      have EY5 := Lib.hid (show strS (Y4) ++ strS (lineL L (5, 0)) = strS Y5 by rw [hY5, strS_app])
      have ZY5 := Lib.hid (show (strS Y5).size ≤ 6360 by rw [hY5]; exact zadd ZY4.out Z5.out)
      rw [← hY5] at TK
      clear hY5
      obtain ⟨Y6, hY6⟩ : ∃ Y, Y = Y5 ++ lineL L (6, 0) := ⟨_, rfl⟩
      have EY6 := Lib.hid (show strS (Y5) ++ strS (lineL L (6, 0)) = strS Y6 by rw [hY6, strS_app])
      have ZY6 := Lib.hid (show (strS Y6).size ≤ 6480 by rw [hY6]; exact zadd ZY5.out Z6.out)
      rw [← hY6] at TK
      clear hY6
      obtain ⟨Y7, hY7⟩ : ∃ Y, Y = Y6 ++ lineL L (7, 0) := ⟨_, rfl⟩
      have EY7 := Lib.hid (show strS (Y6) ++ strS (lineL L (7, 0)) = strS Y7 by rw [hY7, strS_app])
      have ZY7 := Lib.hid (show (strS Y7).size ≤ 6600 by rw [hY7]; exact zadd ZY6.out Z7.out)
      rw [← hY7] at TK
      clear hY7
      obtain ⟨Y8, hY8⟩ : ∃ Y, Y = Y7 ++ lineL L (8, 0) := ⟨_, rfl⟩
      have EY8 := Lib.hid (show strS (Y7) ++ strS (lineL L (8, 0)) = strS Y8 by rw [hY8, strS_app])
      have ZY8 := Lib.hid (show (strS Y8).size ≤ 6720 by rw [hY8]; exact zadd ZY7.out Z8.out)
      rw [← hY8] at TK
      clear hY8
      obtain ⟨Y9, hY9⟩ : ∃ Y, Y = Y8 ++ lineL L (9, 0) := ⟨_, rfl⟩
      have EY9 := Lib.hid (show strS (Y8) ++ strS (lineL L (9, 0)) = strS Y9 by rw [hY9, strS_app])
      have ZY9 := Lib.hid (show (strS Y9).size ≤ 6840 by rw [hY9]; exact zadd ZY8.out Z9.out)
      rw [← hY9] at TK
      clear hY9
      have TK := Lib.hid TK
      clear TX ZA AN C2 Z2 SN XK
      go_upto_region 9 with (fail)
      clear a4
      go_cut [5] from 47 to 73 (fun vs wx => vs = .string (strS Y6) ∧ Ext wr wx)
      case first =>
        skip
        refine wp_region_noPanic ?_
        have xd : Ext wr wr.drew := (Ext.refl _).drew
        refine wp_region_held_drew (S := fun w' => Ext wr w') (by kernel_rfl) xd (fun h0 => ?_)
        obtain ⟨V0, hV0⟩ : ∃ V0, V0 = wr.drew := ⟨_, rfl⟩
        rw [← hV0] at xd h0 ⊢
        have X := Lib.hid xd
        clear xd hV0
        refine wpAnyH_take (i := 0) (oi := ?_) (v := ?_) ?_ (by kernel_rfl) (by kernel_rfl) (by kernel_rfl) ?_ ?_ h0 ?_
        rotate_left 2
        · simp only [List.getElem?_toArray, List.getElem?_cons_zero]; rfl
        · exact fun _ _ _ h => h
        · refine Or.inl ⟨by rfl, ?_⟩
          intro w hSw
          (try dsimp only at hSw)
          go_simp
          (try with_reducible rfl)
        (try simp only [Act.put, List.setIfInBounds_toArray, List.set_cons_zero, List.set_cons_succ])
        refine wpAnyH_take (i := 1) (oi := ?_) (v := ?_) ?_ (by kernel_rfl) (by kernel_rfl) (by kernel_rfl) ?_ ?_ h0 ?_
        rotate_left 2
        · simp only [List.getElem?_toArray, List.getElem?_cons_zero, List.getElem?_cons_succ]; rfl
        · exact fun _ _ _ h => h
        · refine Or.inl ⟨by rfl, ?_⟩
          intro w hSw
          (try dsimp only at hSw)
          go_simp
          (try with_reducible rfl)
        (try simp only [Act.put, List.setIfInBounds_toArray, List.set_cons_zero, List.set_cons_succ])
        refine wpAnyH_take (i := 2) (oi := ?_) (v := ?_) ?_ (by kernel_rfl) (by kernel_rfl) (by kernel_rfl) ?_ ?_ h0 ?_
        rotate_left 2
        · simp only [List.getElem?_toArray, List.getElem?_cons_zero, List.getElem?_cons_succ]; rfl
        · exact fun _ _ _ h => h
        · refine Or.inl ⟨by rfl, ?_⟩
          intro w hSw
          have cl : w.cell? ⟨b0, 5, none⟩ = some (.int .i64 (L.v 5)) := (K0.out.ext hSw).cell 5
          go_simp
          (try with_reducible rfl)
        (try simp only [Act.put, List.setIfInBounds_toArray, List.set_cons_zero, List.set_cons_succ])
        refine wpAnyH_take (i := 3) (oi := ?_) (v := ?_) ?_ (by kernel_rfl) (by kernel_rfl) (by kernel_rfl) ?_ ?_ h0 ?_
        rotate_left 2
        · simp only [List.getElem?_toArray, List.getElem?_cons_zero, List.getElem?_cons_succ]; rfl
        · exact fun _ _ _ h => h
        · refine Or.inl ⟨by rfl, ?_⟩
          intro w hSw
          (try dsimp only at hSw)
          go_simp
          (try with_reducible rfl)
        (try simp only [Act.put, List.setIfInBounds_toArray, List.set_cons_zero, List.set_cons_succ])
        refine wpAnyH_take (i := 4) (oi := ?_) (v := ?_) ?_ (by kernel_rfl) (by kernel_rfl) (by kernel_rfl) ?_ ?_ h0 ?_
        rotate_left 2
        · simp only [List.getElem?_toArray, List.getElem?_cons_zero, List.getElem?_cons_succ]; rfl
        · exact fun _ _ _ h => h
        · refine Or.inl ⟨by rfl, ?_⟩
          intro w hSw
          have cl : w.cell? ⟨b0, 6, none⟩ = some (.int .i64 (L.v 6)) := (K0.out.ext hSw).cell 6
          go_simp
          (try with_reducible rfl)
        (try simp only [Act.put, List.setIfInBounds_toArray, List.set_cons_zero, List.set_cons_succ])
        refine wpAnyH_take (i := 8) (oi := ?_) (v := ?_) ?_ (by kernel_rfl) (by kernel_rfl) (by kernel_rfl) ?_ ?_ h0 ?_
        rotate_left 2
        · simp only [List.getElem?_toArray, List.getElem?_cons_zero, List.getElem?_cons_succ]; rfl
        · exact fun _ _ _ h => h
        · refine Or.inl ⟨by rfl, ?_⟩
          intro w hSw
          (try dsimp only at hSw)
          go_simp
          (try with_reducible rfl)
        (try simp only [Act.put, List.setIfInBounds_toArray, List.set_cons_zero, List.set_cons_succ])
        refine wpAnyH_take (i := 9) (oi := ?_) (v := ?_) ?_ (by kernel_rfl) (by kernel_rfl) (by kernel_rfl) ?_ ?_ h0 ?_
        rotate_left 2
        · simp only [List.getElem?_toArray, List.getElem?_cons_zero, List.getElem?_cons_succ]; rfl
        · exact fun _ _ _ h => h
        · refine Or.inl ⟨by rfl, ?_⟩
          intro w hSw
          have cl : w.cell? ⟨b0, 7, none⟩ = some (.int .i64 (L.v 7)) := (K0.out.ext hSw).cell 7
          go_simp
          (try with_reducible rfl)
        (try simp only [Act.put, List.setIfInBounds_toArray, List.set_cons_zero, List.set_cons_succ])
        refine wpAnyH_take (i := 10) (oi := ?_) (v := ?_) ?_ (by kernel_rfl) (by kernel_rfl) (by kernel_rfl) ?_ ?_ h0 ?_
        rotate_left 2
        · simp only [List.getElem?_toArray, List.getElem?_cons_zero, List.getElem?_cons_succ]; rfl
        · exact fun _ _ _ h => h
        · refine Or.inl ⟨by rfl, ?_⟩
          intro w hSw
          (try dsimp only at hSw)
          go_simp
          (try with_reducible rfl)
        (try simp only [Act.put, List.setIfInBounds_toArray, List.set_cons_zero, List.set_cons_succ])
        refine wpAnyH_take (i := 11) (oi := ?_) (v := ?_) ?_ (by kernel_rfl) (by kernel_rfl) (by kernel_rfl) ?_ ?_ h0 ?_
        rotate_left 2
        · simp only [List.getElem?_toArray, List.getElem?_cons_zero, List.getElem?_cons_succ]; rfl
        · exact fun _ _ _ h => h
        · refine Or.inl ⟨by rfl, ?_⟩
          intro w hSw
          have cl : w.cell? ⟨b0, 8, none⟩ = some (.int .i64 (L.v 8)) := (K0.out.ext hSw).cell 8
          go_simp
          (try with_reducible rfl)
        (try simp only [Act.put, List.setIfInBounds_toArray, List.set_cons_zero, List.set_cons_succ])
        refine wpAnyH_take (i := 15) (oi := ?_) (v := ?_) ?_ (by kernel_rfl) (by kernel_rfl) (by kernel_rfl) ?_ ?_ h0 ?_
        rotate_left 2
        · simp only [List.getElem?_toArray, List.getElem?_cons_zero, List.getElem?_cons_succ]; rfl
        · exact fun _ _ _ h => h
        · refine Or.inl ⟨by rfl, ?_⟩
          intro w hSw
          (try dsimp only at hSw)
          go_simp
          (try with_reducible rfl)
        (try simp only [Act.put, List.setIfInBounds_toArray, List.set_cons_zero, List.set_cons_succ])
        refine wpAnyH_take (i := 16) (oi := ?_) (v := ?_) ?_ (by kernel_rfl) (by kernel_rfl) (by kernel_rfl) ?_ ?_ h0 ?_
        rotate_left 2
        · simp only [List.getElem?_toArray, List.getElem?_cons_zero, List.getElem?_cons_succ]; rfl
        · exact fun _ _ _ h => h
        · refine Or.inl ⟨by rfl, ?_⟩
          intro w hSw
          have cl : w.cell? ⟨b0, 9, none⟩ = some (.int .i64 (L.v 9)) := (K0.out.ext hSw).cell 9
          go_simp
          (try with_reducible rfl)
        (try simp only [Act.put, List.setIfInBounds_toArray, List.set_cons_zero, List.set_cons_succ])
        refine wpAnyH_take (i := 17) (oi := ?_) (v := ?_) ?_ (by kernel_rfl) (by kernel_rfl) (by kernel_rfl) ?_ ?_ h0 ?_
        rotate_left 2
        · simp only [List.getElem?_toArray, List.getElem?_cons_zero, List.getElem?_cons_succ]; rfl
        · exact fun _ _ _ h => h
        · refine Or.inl ⟨by rfl, ?_⟩
          intro w hSw
          (try dsimp only at hSw)
          go_simp
          (try with_reducible rfl)
        (try simp only [Act.put, List.setIfInBounds_toArray, List.set_cons_zero, List.set_cons_succ])
        refine wpAnyH_take (i := 18) (oi := ?_) (v := ?_) ?_ (by kernel_rfl) (by kernel_rfl) (by kernel_rfl) ?_ ?_ h0 ?_
        rotate_left 2
        · simp only [List.getElem?_toArray, List.getElem?_cons_zero, List.getElem?_cons_succ]; rfl
        · exact fun _ _ _ h => h
        · refine Or.inl ⟨by rfl, ?_⟩
          intro w hSw
          have cl : w.cell? ⟨b0, 10, none⟩ = some (.int .i64 (L.v 10)) := (K0.out.ext hSw).cell 10
          go_simp
          (try with_reducible rfl)
        (try simp only [Act.put, List.setIfInBounds_toArray, List.set_cons_zero, List.set_cons_succ])
        refine wpAnyH_take (i := 22) (oi := ?_) (v := ?_) ?_ (by kernel_rfl) (by kernel_rfl) (by kernel_rfl) ?_ ?_ h0 ?_
        rotate_left 2
        · simp only [List.getElem?_toArray, List.getElem?_cons_zero, List.getElem?_cons_succ]; rfl
        · exact fun _ _ _ h => h
        · refine Or.inl ⟨by rfl, ?_⟩
          intro w hSw
          (try dsimp only at hSw)
          go_simp
          (try with_reducible rfl)
        (try simp only [Act.put, List.setIfInBounds_toArray, List.set_cons_zero, List.set_cons_succ])
        refine wpAnyH_take (i := 23) (oi := ?_) (v := ?_) ?_ (by kernel_rfl) (by kernel_rfl) (by kernel_rfl) ?_ ?_ h0 ?_
        rotate_left 2
        · simp only [List.getElem?_toArray, List.getElem?_cons_zero, List.getElem?_cons_succ]; rfl
        · exact fun _ _ _ h => h
        · refine Or.inl ⟨by rfl, ?_⟩
          intro w hSw
          have cl : w.cell? ⟨b0, 11, none⟩ = some (.int .i64 (L.v 11)) := (K0.out.ext hSw).cell 11
          go_simp
          (try with_reducible rfl)
        (try simp only [Act.put, List.setIfInBounds_toArray, List.set_cons_zero, List.set_cons_succ])
        refine Loose.go [(5, []), (6, [5]), (7, [6]), (12, []), (13, [12]), (14, [7, 13]), (19, []), (20, [19]), (21, [14, 20]), (24, []), (25, [24]), (26, [21, 25]), (27, [26])] (fun A F a' w' => ∃ u52 u53 u54 u59 u60 u61 u66 u67 u68 u71 u72 u73 u5 : Value, a' = (((((((((((((A.put (some 52) u52).put (some 53) u53).put (some 54) u54).put (some 59) u59).put (some 60) u60).put (some 61) u61).put (some 66) u66).put (some 67) u67).put (some 68) u68).put (some 71) u71).put (some 72) u72).put (some 73) u73).put (some 5) u5) ∧ Hid (Ext wr w') ∧ Hid (F 5 = true → ∃ g : Nat, u52 = .slice (some ⟨g, 0, none⟩) 2 2 ∧ Blk w' g 3 [.int .i64 (L.v 5), .int .i64 (L.v 6)]) ∧ Hid (F 6 = true → u53 = .string (strS (lineL L (3, 0)))) ∧ Hid (F 7 = true → u54 = .string (strS (Y3))) ∧ Hid (F 12 = true → ∃ g : Nat, u59 = .slice (some ⟨g, 0, none⟩) 2 2 ∧ Blk w' g 3 [.int .i64 (L.v 7), .int .i64 (L.v 8)]) ∧ Hid (F 13 = true → u60 = .string (strS (lineL L (4, 0)))) ∧ Hid (F 14 = true → u61 = .string (strS (Y4))) ∧ Hid (F 19 = true → ∃ g : Nat, u66 = .slice (some ⟨g, 0, none⟩) 2 2 ∧ Blk w' g 3 [.int .i64 (L.v 9), .int .i64 (L.v 10)]) ∧ Hid (F 20 = true → u67 = .string (strS (lineL L (5, 0)))) ∧ Hid (F 21 = true → u68 = .string (strS (Y5))) ∧ Hid (F 24 = true → ∃ g : Nat, u71 = .slice (some ⟨g, 0, none⟩) 1 1 ∧ Blk w' g 3 [.int .i64 (L.v 11)]) ∧ Hid (F 25 = true → u72 = .string (strS (lineL L (6, 0)))) ∧ Hid (F 26 = true → u73 = .string (strS (Y6))) ∧ Hid (F 27 = true → u5 = .string (strS (Y6)))) (by kernel_rfl) (by kernel_rfl) (by kernel_rfl) (by kernel_rfl) ?_ ?_ ?_ ?_
        · exact ⟨undef, undef, undef, undef, undef, undef, undef, undef, undef, undef, undef, undef, .string (strS (accT L k)), by simp only [Act.put, List.setIfInBounds_toArray, List.set_cons_zero, List.set_cons_succ], X, Lib.hid (fun h => absurd h (by decide)), Lib.hid (fun h => absurd h (by decide)), Lib.hid (fun h => absurd h (by decide)), Lib.hid (fun h => absurd h (by decide)), Lib.hid (fun h => absurd h (by decide)), Lib.hid (fun h => absurd h (by decide)), Lib.hid (fun h => absurd h (by decide)), Lib.hid (fun h => absurd h (by decide)), Lib.hid (fun h => absurd h (by decide)), Lib.hid (fun h => absurd h (by decide)), Lib.hid (fun h => absurd h (by decide)), Lib.hid (fun h => absurd h (by decide)), Lib.hid (fun h => absurd h (by decide))⟩
        · intro F a' w' hI
          obtain ⟨u52, u53, u54, u59, u60, u61, u66, u67, u68, u71, u72, u73, u5, _, X, _⟩ := hI
          exact X.out
        · clear X h0
          intro x hx F a' w' hI _ hd o ho K hK
          simp only [List.mem_cons, List.not_mem_nil, or_false] at hx
          rcases hx with rfl | rfl | rfl | rfl | rfl | rfl | rfl | rfl | rfl | rfl | rfl | rfl | rfl
          · dsimp only at hd ho
            simp only [List.getElem?_toArray, List.getElem?_cons_zero, List.getElem?_cons_succ] at ho
            obtain rfl := Option.some.inj ho
            clear ho
            obtain ⟨u52, u53, u54, u59, u60, u61, u66, u67, u68, u71, u72, u73, u5, ha, X, f5, f6, f7, f12, f13, f14, f19, f20, f21, f24, f25, f26, f27⟩ := hI
            rw [ha]
            clear ha
            obtain ⟨w2, hw2⟩ : ∃ w2, w2 = w'.alloc (.cells #[.int .i64 (L.v 5), .int .i64 (L.v 6)] 3) := ⟨_, rfl⟩
            have y : Ext w' w2 := by rw [hw2]; exact (Ext.refl _).alloc _
            have kb := Lib.hid (show Blk w2 w'.heap.size 3 [.int .i64 (L.v 5), .int .i64 (L.v 6)] by rw [hw2]; exact Blk.lit _ _ _ _ rfl)
            have y := Lib.hid y
            (try simp only [Act.put, List.setIfInBounds_toArray, List.set_cons_zero, List.set_cons_succ])
            go_simp
            rw [← hw2]
            refine hK.out _ _ ⟨.slice (some ⟨w'.heap.size, 0, none⟩) 2 2, u53, u54, u59, u60, u61, u66, u67, u68, u71, u72, u73, u5, by simp only [Act.put, List.setIfInBounds_toArray, List.set_cons_zero, List.set_cons_succ], Lib.hid (X.out.trans y.out), Lib.hid (fun _ => ⟨_, rfl, kb.out⟩), Lib.hid (fun h => f6.out (Loose.upd_other h (by decide))), Lib.hid (fun h => f7.out (Loose.upd_other h (by decide))), Lib.hid (fun h => by obtain ⟨g, e, kb⟩ := f12.out (Loose.upd_other h (by decide)); exact ⟨g, e, kb.ext y.out⟩), Lib.hid (fun h => f13.out (Loose.upd_other h (by decide))), Lib.hid (fun h => f14.out (Loose.upd_other h (by decide))), Lib.hid (fun h => by obtain ⟨g, e, kb⟩ := f19.out (Loose.upd_other h (by decide)); exact ⟨g, e, kb.ext y.out⟩), Lib.hid (fun h => f20.out (Loose.upd_other h (by decide))), Lib.hid (fun h => f21.out (Loose.upd_other h (by decide))), Lib.hid (fun h => by obtain ⟨g, e, kb⟩ := f24.out (Loose.upd_other h (by decide)); exact ⟨g, e, kb.ext y.out⟩), Lib.hid (fun h => f25.out (Loose.upd_other h (by decide))), Lib.hid (fun h => f26.out (Loose.upd_other h (by decide))), Lib.hid (fun h => f27.out (Loose.upd_other h (by decide)))⟩
          · dsimp only at hd ho
            simp only [List.getElem?_toArray, List.getElem?_cons_zero, List.getElem?_cons_succ] at ho
            obtain rfl := Option.some.inj ho
            clear ho
            obtain ⟨u52, u53, u54, u59, u60, u61, u66, u67, u68, u71, u72, u73, u5, ha, X, f5, f6, f7, f12, f13, f14, f19, f20, f21, f24, f25, f26, f27⟩ := hI
            rw [ha]
            clear ha
            obtain ⟨g, rfl, kb⟩ := f5.out (hd 5 (by simp))
            have C := Lib.hid (C3.out g w' kb)
            clear kb
            (try simp only [Act.put, List.setIfInBounds_toArray, List.set_cons_zero, List.set_cons_succ])
            go_simp
            refine C.out.mono ?_
            rintro e w2 ⟨rfl, y⟩
            have y := Lib.hid y
            refine hK.out _ _ ⟨.slice (some ⟨g, 0, none⟩) 2 2, .string (strS (lineL L (3, 0))), u54, u59, u60, u61, u66, u67, u68, u71, u72, u73, u5, by simp only [Act.put, List.setIfInBounds_toArray, List.set_cons_zero, List.set_cons_succ], Lib.hid (X.out.trans y.out), Lib.hid (fun h => by obtain ⟨g, e, kb⟩ := f5.out (Loose.upd_other h (by decide)); exact ⟨g, e, kb.ext y.out⟩), Lib.hid (fun _ => rfl), Lib.hid (fun h => f7.out (Loose.upd_other h (by decide))), Lib.hid (fun h => by obtain ⟨g, e, kb⟩ := f12.out (Loose.upd_other h (by decide)); exact ⟨g, e, kb.ext y.out⟩), Lib.hid (fun h => f13.out (Loose.upd_other h (by decide))), Lib.hid (fun h => f14.out (Loose.upd_other h (by decide))), Lib.hid (fun h => by obtain ⟨g, e, kb⟩ := f19.out (Loose.upd_other h (by decide)); exact ⟨g, e, kb.ext y.out⟩), Lib.hid (fun h => f20.out (Loose.upd_other h (by decide))), Lib.hid (fun h => f21.out (Loose.upd_other h (by decide))), Lib.hid (fun h => by obtain ⟨g, e, kb⟩ := f24.out (Loose.upd_other h (by decide)); exact ⟨g, e, kb.ext y.out⟩), Lib.hid (fun h => f25.out (Loose.upd_other h (by decide))), Lib.hid (fun h => f26.out (Loose.upd_other h (by decide))), Lib.hid (fun h => f27.out (Loose.upd_other h (by decide)))⟩
          · dsimp only at hd ho
            simp only [List.getElem?_toArray, List.getElem?_cons_zero, List.getElem?_cons_succ] at ho
            obtain rfl := Option.some.inj ho
            clear ho
            obtain ⟨u52, u53, u54, u59, u60, u61, u66, u67, u68, u71, u72, u73, u5, ha, X, f5, f6, f7, f12, f13, f14, f19, f20, f21, f24, f25, f26, f27⟩ := hI
            rw [ha]
            clear ha
            have e6 := f6.out (hd 6 (by simp))
            subst e6
            have zz := zno ZK.out Z3.out (by decide)
            (try simp only [Act.put, List.setIfInBounds_toArray, List.set_cons_zero, List.set_cons_succ])
            go_simp
            refine hK.out _ _ ⟨u52, .string (strS (lineL L (3, 0))), .string (strS (accT L k) ++ strS (lineL L (3, 0))), u59, u60, u61, u66, u67, u68, u71, u72, u73, u5, by simp only [Act.put, List.setIfInBounds_toArray, List.set_cons_zero, List.set_cons_succ], X, Lib.hid (fun h => f5.out (Loose.upd_other h (by decide))), Lib.hid (fun h => f6.out (Loose.upd_other h (by decide))), Lib.hid (fun _ => by rw [EY3.out]), Lib.hid (fun h => f12.out (Loose.upd_other h (by decide))), Lib.hid (fun h => f13.out (Loose.upd_other h (by decide))), Lib.hid (fun h => f14.out (Loose.upd_other h (by decide))), Lib.hid (fun h => f19.out (Loose.upd_other h (by decide))), Lib.hid (fun h => f20.out (Loose.upd_other h (by decide))), Lib.hid (fun h => f21.out (Loose.upd_other h (by decide))), Lib.hid (fun h => f24.out (Loose.upd_other h (by decide))), Lib.hid (fun h => f25.out (Loose.upd_other h (by decide))), Lib.hid (fun h => f26.out (Loose.upd_other h (by decide))), Lib.hid (fun h => f27.out (Loose.upd_other h (by decide)))⟩
          · dsimp only at hd ho
            simp only [List.getElem?_toArray, List.getElem?_cons_zero, List.getElem?_cons_succ] at ho
            obtain rfl := Option.some.inj ho
            clear ho
            obtain ⟨u52, u53, u54, u59, u60, u61, u66, u67, u68, u71, u72, u73, u5, ha, X, f5, f6, f7, f12, f13, f14, f19, f20, f21, f24, f25, f26, f27⟩ := hI
            rw [ha]
            clear ha
            obtain ⟨w2, hw2⟩ : ∃ w2, w2 = w'.alloc (.cells #[.int .i64 (L.v 7), .int .i64 (L.v 8)] 3) := ⟨_, rfl⟩
            have y : Ext w' w2 := by rw [hw2]; exact (Ext.refl _).alloc _
            have kb := Lib.hid (show Blk w2 w'.heap.size 3 [.int .i64 (L.v 7), .int .i64 (L.v 8)] by rw [hw2]; exact Blk.lit _ _ _ _ rfl)
            have y := Lib.hid y
            (try simp only [Act.put, List.setIfInBounds_toArray, List.set_cons_zero, List.set_cons_succ])
            go_simp
            rw [← hw2]
            refine hK.out _ _ ⟨u52, u53, u54, .slice (some ⟨w'.heap.size, 0, none⟩) 2 2, u60, u61, u66, u67, u68, u71, u72, u73, u5, by simp only [Act.put, List.setIfInBounds_toArray, List.set_cons_zero, List.set_cons_succ], Lib.hid (X.out.trans y.out), Lib.hid (fun h => by obtain ⟨g, e, kb⟩ := f5.out (Loose.upd_other h (by decide)); exact ⟨g, e, kb.ext y.out⟩), Lib.hid (fun h => f6.out (Loose.upd_other h (by decide))), Lib.hid (fun h => f7.out (Loose.upd_other h (by decide))), Lib.hid (fun _ => ⟨_, rfl, kb.out⟩), Lib.hid (fun h => f13.out (Loose.upd_other h (by decide))), Lib.hid (fun h => f14.out (Loose.upd_other h (by decide))), Lib.hid (fun h => by obtain ⟨g, e, kb⟩ := f19.out (Loose.upd_other h (by decide)); exact ⟨g, e, kb.ext y.out⟩), Lib.hid (fun h => f20.out (Loose.upd_other h (by decide))), Lib.hid (fun h => f21.out (Loose.upd_other h (by decide))), Lib.hid (fun h => by obtain ⟨g, e, kb⟩ := f24.out (Loose.upd_other h (by decide)); exact ⟨g, e, kb.ext y.out⟩), Lib.hid (fun h => f25.out (Loose.upd_other h (by decide))), Lib.hid (fun h => f26.out (Loose.upd_other h (by decide))), Lib.hid (fun h => f27.out (Loose.upd_other h (by decide)))⟩
          · dsimp only at hd ho
            simp only [List.getElem?_toArray, List.getElem?_cons_zero, List.getElem?_cons_succ] at ho
            obtain rfl := Option.some.inj ho
            clear ho
            obtain ⟨u52, u53, u54, u59, u60, u61, u66, u67, u68, u71, u72, u73, u5, ha, X, f5, f6, f7, f12, f13, f14, f19, f20, f21, f24, f25, f26, f27⟩ := hI
            rw [ha]
            clear ha
            obtain ⟨g, rfl, kb⟩ := f12.out (hd 12 (by simp))
            have C := Lib.hid (C4.out g w' kb)
            clear kb
            (try simp only [Act.put, List.setIfInBounds_toArray, List.set_cons_zero, List.set_cons_succ])
            go_simp
            refine C.out.mono ?_
            rintro e w2 ⟨rfl, y⟩
            have y := Lib.hid y
            refine hK.out _ _ ⟨u52, u53, u54, .slice (some ⟨g, 0, none⟩) 2 2, .string (strS (lineL L (4, 0))), u61, u66, u67, u68, u71, u72, u73, u5, by simp only [Act.put, List.setIfInBounds_toArray, List.set_cons_zero, List.set_cons_succ], Lib.hid (X.out.trans y.out), Lib.hid (fun h => by obtain ⟨g, e, kb⟩ := f5.out (Loose.upd_other h (by decide)); exact ⟨g, e, kb.ext y.out⟩), Lib.hid (fun h => f6.out (Loose.upd_other h (by decide))), Lib.hid (fun h => f7.out (Loose.upd_other h (by decide))), Lib.hid (fun h => by obtain ⟨g, e, kb⟩ := f12.out (Loose.upd_other h (by decide)); exact ⟨g, e, kb.ext y.out⟩), Lib.hid (fun _ => rfl), Lib.hid (fun h => f14.out (Loose.upd_other h (by decide))), Lib.hid (fun h => by obtain ⟨g, e, kb⟩ := f19.out (Loose.upd_other h (by decide)); exact ⟨g, e, kb.ext y.out⟩), Lib.hid (fun h => f20.out (Loose.upd_other h (by decide))), Lib.hid (fun h => f21.out (Loose.upd_other h (by decide))), Lib.hid (fun h => by obtain ⟨g, e, kb⟩ := f24.out (Loose.upd_other h (by decide)); exact ⟨g, e, kb.ext y.out⟩), Lib.hid (fun h => f25.out (Loose.upd_other h (by decide))), Lib.hid (fun h => f26.out (Loose.upd_other h (by decide))), Lib.hid (fun h => f27.out (Loose.upd_other h (by decide)))⟩
          · dsimp only at hd ho
            simp only [List.getElem?_toArray, List.getElem?_cons_zero, List.getElem?_cons_succ] at ho
            obtain rfl := Option.some.inj ho
            clear ho
            obtain ⟨u52, u53, u54, u59, u60, u61, u66, u67, u68, u71, u72, u73, u5, ha, X, f5, f6, f7, f12, f13, f14, f19, f20, f21, f24, f25, f26, f27⟩ := hI
            rw [ha]
            clear ha
            have e7 := f7.out (hd 7 (by simp))
            subst e7
            have e13 := f13.out (hd 13 (by simp))
            subst e13
            have zz := zno ZY3.out Z4.out (by decide)
            (try simp only [Act.put, List.setIfInBounds_toArray, List.set_cons_zero, List.set_cons_succ])
            go_simp
            refine hK.out _ _ ⟨u52, u53, .string (strS (Y3)), u59, .string (strS (lineL L (4, 0))), .string (strS (Y3) ++ strS (lineL L (4, 0))), u66, u67, u68, u71, u72, u73, u5, by simp only [Act.put, List.setIfInBounds_toArray, List.set_cons_zero, List.set_cons_succ], X, Lib.hid (fun h => f5.out (Loose.upd_other h (by decide))), Lib.hid (fun h => f6.out (Loose.upd_other h (by decide))), Lib.hid (fun h => f7.out (Loose.upd_other h (by decide))), Lib.hid (fun h => f12.out (Loose.upd_other h (by decide))), Lib.hid (fun h => f13.out (Loose.upd_other h (by decide))), Lib.hid (fun _ => by rw [EY4.out]), Lib.hid (fun h => f19.out (Loose.upd_other h (by decide))), Lib.hid (fun h => f20.out (Loose.upd_other h (by decide))), Lib.hid (fun h => f21.out (Loose.upd_other h (by decide))), Lib.hid (fun h => f24.out (Loose.upd_other h (by decide))), Lib.hid (fun h => f25.out (Loose.upd_other h (by decide))), Lib.hid (fun h => f26.out (Loose.upd_other h (by decide))), Lib.hid (fun h => f27.out (Loose.upd_other h (by decide)))⟩
          · dsimp only at hd ho
            simp only [List.getElem?_toArray, List.getElem?_cons_zero, List.getElem?_cons_succ] at ho
            obtain rfl := Option.some.inj ho
            clear ho
            obtain ⟨u52, u53, u54, u59, u60, u61, u66, u67, u68, u71, u72, u73, u5, ha, X, f5, f6, f7, f12, f13, f14, f19, f20, f21, f24, f25, f26, f27⟩ := hI
            rw [ha]
            clear ha
            obtain ⟨w2, hw2⟩ : ∃ w2, w2 = w'.alloc (.cells #[.int .i64 (L.v 9), .int .i64 (L.v 10)] 3) := ⟨_, rfl⟩
            have y : Ext w' w2 := by rw [hw2]; exact (Ext.refl _).alloc _
            have kb := Lib.hid (show Blk w2 w'.heap.size 3 [.int .i64 (L.v 9), .int .i64 (L.v 10)] by rw [hw2]; exact Blk.lit _ _ _ _ rfl)
            have y := Lib.hid y
            (try simp only [Act.put, List.setIfInBounds_toArray, List.set_cons_zero, List.set_cons_succ])
            go_simp
            rw [← hw2]
            refine hK.out _ _ ⟨u52, u53, u54, u59, u60, u61, .slice (some ⟨w'.heap.size, 0, none⟩) 2 2, u67, u68, u71, u72, u73, u5, by simp only [Act.put, List.setIfInBounds_toArray, List.set_cons_zero, List.set_cons_succ], Lib.hid (X.out.trans y.out), Lib.hid (fun h => by obtain ⟨g, e, kb⟩ := f5.out (Loose.upd_other h (by decide)); exact ⟨g, e, kb.ext y.out⟩), Lib.hid (fun h => f6.out (Loose.upd_other h (by decide))), Lib.hid (fun h => f7.out (Loose.upd_other h (by decide))), Lib.hid (fun h => by obtain ⟨g, e, kb⟩ := f12.out (Loose.upd_other h (by decide)); exact ⟨g, e, kb.ext y.out⟩), Lib.hid (fun h => f13.out (Loose.upd_other h (by decide))), Lib.hid (fun h => f14.out (Loose.upd_other h (by decide))), Lib.hid (fun _ => ⟨_, rfl, kb.out⟩), Lib.hid (fun h => f20.out (Loose.upd_other h (by decide))), Lib.hid (fun h => f21.out (Loose.upd_other h (by decide))), Lib.hid (fun h => by obtain ⟨g, e, kb⟩ := f24.out (Loose.upd_other h (by decide)); exact ⟨g, e, kb.ext y.out⟩), Lib.hid (fun h => f25.out (Loose.upd_other h (by decide))), Lib.hid (fun h => f26.out (Loose.upd_other h (by decide))), Lib.hid (fun h => f27.out (Loose.upd_other h (by decide)))⟩
          · dsimp only at hd ho
            simp only [List.getElem?_toArray, List.getElem?_cons_zero, List.getElem?_cons_succ] at ho
            obtain rfl := Option.some.inj ho
            clear ho
            obtain ⟨u52, u53, u54, u59, u60, u61, u66, u67, u68, u71, u72, u73, u5, ha, X, f5, f6, f7, f12, f13, f14, f19, f20, f21, f24, f25, f26, f27⟩ := hI
            rw [ha]
            clear ha
            obtain ⟨g, rfl, kb⟩ := f19.out (hd 19 (by simp))
            have C := Lib.hid (C5.out g w' kb)
            clear kb
            (try simp only [Act.put, List.setIfInBounds_toArray, List.set_cons_zero, List.set_cons_succ])
            go_simp
            refine C.out.mono ?_
            rintro e w2 ⟨rfl, y⟩
            have y := Lib.hid y
            refine hK.out _ _ ⟨u52, u53, u54, u59, u60, u61, .slice (some ⟨g, 0, none⟩) 2 2, .string (strS (lineL L (5, 0))), u68, u71, u72, u73, u5, by simp only [Act.put, List.setIfInBounds_toArray, List.set_cons_zero, List.set_cons_succ], Lib.hid (X.out.trans y.out), Lib.hid (fun h => by obtain ⟨g, e, kb⟩ := f5.out (Loose.upd_other h (by decide)); exact ⟨g, e, kb.ext y.out⟩), Lib.hid (fun h => f6.out (Loose.upd_other h (by decide))), Lib.hid (fun h => f7.out (Loose.upd_other h (by decide))), Lib.hid (fun h => by obtain ⟨g, e, kb⟩ := f12.out (Loose.upd_other h (by decide)); exact ⟨g, e, kb.ext y.out⟩), Lib.hid (fun h => f13.out (Loose.upd_other h (by decide))), Lib.hid (fun h => f14.out (Loose.upd_other h (by decide))), Lib.hid (fun h => by obtain ⟨g, e, kb⟩ := f19.out (Loose.upd_other h (by decide)); exact ⟨g, e, kb.ext y.out⟩), Lib.hid (fun _ => rfl), Lib.hid (fun h => f21.out (Loose.upd_other h (by decide))), Lib.hid (fun h => by obtain ⟨g, e, kb⟩ := f24.out (Loose.upd_other h (by decide)); exact ⟨g, e, kb.ext y.out⟩), Lib.hid (fun h => f25.out (Loose.upd_other h (by decide))), Lib.hid (fun h => f26.out (Loose.upd_other h (by decide))), Lib.hid (fun h => f27.out (Loose.upd_other h (by decide)))⟩
          · dsimp only at hd ho
            simp only [List.getElem?_toArray, List.getElem?_cons_zero, List.getElem?_cons_succ] at ho
            obtain rfl := Option.some.inj ho
            clear ho
            obtain ⟨u52, u53, u54, u59, u60, u61, u66, u67, u68, u71, u72, u73, u5, ha, X, f5, f6, f7, f12, f13, f14, f19, f20, f21, f24, f25, f26, f27⟩ := hI
            rw [ha]
            clear ha
            have e14 := f14.out (hd 14 (by simp))
            subst e14
            have e20 := f20.out (hd 20 (by simp))
            subst e20
            have zz := zno ZY4.out Z5.out (by decide)
            (try simp only [Act.put, List.setIfInBounds_toArray, List.set_cons_zero, List.set_cons_succ])
            go_simp
            refine hK.out _ _ ⟨u52, u53, u54, u59, u60, .string (strS (Y4)), u66, .string (strS (lineL L (5, 0))), .string (strS (Y4) ++ strS (lineL L (5, 0))), u71, u72, u73, u5, by simp only [Act.put, List.setIfInBounds_toArray, List.set_cons_zero, List.set_cons_succ], X, Lib.hid (fun h => f5.out (Loose.upd_other h (by decide))), Lib.hid (fun h => f6.out (Loose.upd_other h (by decide))), Lib.hid (fun h => f7.out (Loose.upd_other h (by decide))), Lib.hid (fun h => f12.out (Loose.upd_other h (by decide))), Lib.hid (fun h => f13.out (Loose.upd_other h (by decide))), Lib.hid (fun h => f14.out (Loose.upd_other h (by decide))), Lib.hid (fun h => f19.out (Loose.upd_other h (by decide))), Lib.hid (fun h => f20.out (Loose.upd_other h (by decide))), Lib.hid (fun _ => by rw [EY5.out]), Lib.hid (fun h => f24.out (Loose.upd_other h (by decide))), Lib.hid (fun h => f25.out (Loose.upd_other h (by decide))), Lib.hid (fun h => f26.out (Loose.upd_other h (by decide))), Lib.hid (fun h => f27.out (Loose.upd_other h (by decide)))⟩
          · dsimp only at hd ho
            simp only [List.getElem?_toArray, List.getElem?_cons_zero, List.getElem?_cons_succ] at ho
            obtain rfl := Option.some.inj ho
            clear ho
            obtain ⟨u52, u53, u54, u59, u60, u61, u66, u67, u68, u71, u72, u73, u5, ha, X, f5, f6, f7, f12, f13, f14, f19, f20, f21, f24, f25, f26, f27⟩ := hI
            rw [ha]
            clear ha
            obtain ⟨w2, hw2⟩ : ∃ w2, w2 = w'.alloc (.cells #[.int .i64 (L.v 11)] 3) := ⟨_, rfl⟩
            have y : Ext w' w2 := by rw [hw2]; exact (Ext.refl _).alloc _
            have kb := Lib.hid (show Blk w2 w'.heap.size 3 [.int .i64 (L.v 11)] by rw [hw2]; exact Blk.lit _ _ _ _ rfl)
            have y := Lib.hid y
            (try simp only [Act.put, List.setIfInBounds_toArray, List.set_cons_zero, List.set_cons_succ])
            go_simp
            rw [← hw2]
            refine hK.out _ _ ⟨u52, u53, u54, u59, u60, u61, u66, u67, u68, .slice (some ⟨w'.heap.size, 0, none⟩) 1 1, u72, u73, u5, by simp only [Act.put, List.setIfInBounds_toArray, List.set_cons_zero, List.set_cons_succ], Lib.hid (X.out.trans y.out), Lib.hid (fun h => by obtain ⟨g, e, kb⟩ := f5.out (Loose.upd_other h (by decide)); exact ⟨g, e, kb.ext y.out⟩), Lib.hid (fun h => f6.out (Loose.upd_other h (by decide))), Lib.hid (fun h => f7.out (Loose.upd_other h (by decide))), Lib.hid (fun h => by obtain ⟨g, e, kb⟩ := f12.out (Loose.upd_other h (by decide)); exact ⟨g, e, kb.ext y.out⟩), Lib.hid (fun h => f13.out (Loose.upd_other h (by decide))), Lib.hid (fun h => f14.out (Loose.upd_other h (by decide))), Lib.hid (fun h => by obtain ⟨g, e, kb⟩ := f19.out (Loose.upd_other h (by decide)); exact ⟨g, e, kb.ext y.out⟩), Lib.hid (fun h => f20.out (Loose.upd_other h (by decide))), Lib.hid (fun h => f21.out (Loose.upd_other h (by decide))), Lib.hid (fun _ => ⟨_, rfl, kb.out⟩), Lib.hid (fun h => f25.out (Loose.upd_other h (by decide))), Lib.hid (fun h => f26.out (Loose.upd_other h (by decide))), Lib.hid (fun h => f27.out (Loose.upd_other h (by decide)))⟩
          · dsimp only at hd ho
            simp only [List.getElem?_toArray, List.getElem?_cons_zero, List.getElem?_cons_succ] at ho
            obtain rfl := Option.some.inj ho
            clear ho
            obtain ⟨u52, u53, u54, u59, u60, u61, u66, u67, u68, u71, u72, u73, u5, ha, X, f5, f6, f7, f12, f13, f14, f19, f20, f21, f24, f25, f26, f27⟩ := hI
            rw [ha]
            clear ha
            obtain ⟨g, rfl, kb⟩ := f24.out (hd 24 (by simp))
            have C := Lib.hid (C6.out g w' kb)
            clear kb
            (try simp only [Act.put, List.setIfInBounds_toArray, List.set_cons_zero, List.set_cons_succ])
            go_simp
            refine C.out.mono ?_
            rintro e w2 ⟨rfl, y⟩
            have y := Lib.hid y
            refine hK.out _ _ ⟨u52, u53, u54, u59, u60, u61, u66, u67, u68, .slice (some ⟨g, 0, none⟩) 1 1, .string (strS (lineL L (6, 0))), u73, u5, by simp only [Act.put, List.setIfInBounds_toArray, List.set_cons_zero, List.set_cons_succ], Lib.hid (X.out.trans y.out), Lib.hid (fun h => by obtain ⟨g, e, kb⟩ := f5.out (Loose.upd_other h (by decide)); exact ⟨g, e, kb.ext y.out⟩), Lib.hid (fun h => f6.out (Loose.upd_other h (by decide))), Lib.hid (fun h => f7.out (Loose.upd_other h (by decide))), Lib.hid (fun h => by obtain ⟨g, e, kb⟩ := f12.out (Loose.upd_other h (by decide)); exact ⟨g, e, kb.ext y.out⟩), Lib.hid (fun h => f13.out (Loose.upd_other h (by decide))), Lib.hid (fun h => f14.out (Loose.upd_other h (by decide))), Lib.hid (fun h => by obtain ⟨g, e, kb⟩ := f19.out (Loose.upd_other h (by decide)); exact ⟨g, e, kb.ext y.out⟩), Lib.hid (fun h => f20.out (Loose.upd_other h (by decide))), Lib.hid (fun h => f21.out (Loose.upd_other h (by decide))), Lib.hid (fun h => by obtain ⟨g, e, kb⟩ := f24.out (Loose.upd_other h (by decide)); exact ⟨g, e, kb.ext y.out⟩), Lib.hid (fun _ => rfl), Lib.hid (fun h => f26.out (Loose.upd_other h (by decide))), Lib.hid (fun h => f27.out (Loose.upd_other h (by decide)))⟩
          · dsimp only at hd ho
            simp only [List.getElem?_toArray, List.getElem?_cons_zero, List.getElem?_cons_succ] at ho
            obtain rfl := Option.some.inj ho
            clear ho
            obtain ⟨u52, u53, u54, u59, u60, u61, u66, u67, u68, u71, u72, u73, u5, ha, X, f5, f6, f7, f12, f13, f14, f19, f20, f21, f24, f25, f26, f27⟩ := hI
            rw [ha]
            clear ha
            have e21 := f21.out (hd 21 (by simp))
            subst e21
            have e25 := f25.out (hd 25 (by simp))
            subst e25
            have zz := zno ZY5.out Z6.out (by decide)
            (try simp only [Act.put, List.setIfInBounds_toArray, List.set_cons_zero, List.set_cons_succ])
            go_simp
            refine hK.out _ _ ⟨u52, u53, u54, u59, u60, u61, u66, u67, .string (strS (Y5)), u71, .string (strS (lineL L (6, 0))), .string (strS (Y5) ++ strS (lineL L (6, 0))), u5, by simp only [Act.put, List.setIfInBounds_toArray, List.set_cons_zero, List.set_cons_succ], X, Lib.hid (fun h => f5.out (Loose.upd_other h (by decide))), Lib.hid (fun h => f6.out (Loose.upd_other h (by decide))), Lib.hid (fun h => f7.out (Loose.upd_other h (by decide))), Lib.hid (fun h => f12.out (Loose.upd_other h (by decide))), Lib.hid (fun h => f13.out (Loose.upd_other h (by decide))), Lib.hid (fun h => f14.out (Loose.upd_other h (by decide))), Lib.hid (fun h => f19.out (Loose.upd_other h (by decide))), Lib.hid (fun h => f20.out (Loose.upd_other h (by decide))), Lib.hid (fun h => f21.out (Loose.upd_other h (by decide))), Lib.hid (fun h => f24.out (Loose.upd_other h (by decide))), Lib.hid (fun h => f25.out (Loose.upd_other h (by decide))), Lib.hid (fun _ => by rw [EY6.out]), Lib.hid (fun h => f27.out (Loose.upd_other h (by decide)))⟩
          · dsimp only at hd ho
            simp only [List.getElem?_toArray, List.getElem?_cons_zero, List.getElem?_cons_succ] at ho
            obtain rfl := Option.some.inj ho
            clear ho
            obtain ⟨u52, u53, u54, u59, u60, u61, u66, u67, u68, u71, u72, u73, u5, ha, X, f5, f6, f7, f12, f13, f14, f19, f20, f21, f24, f25, f26, f27⟩ := hI
            rw [ha]
            clear ha
            have e26 := f26.out (hd 26 (by simp))
            subst e26
            (try simp only [Act.put, List.setIfInBounds_toArray, List.set_cons_zero, List.set_cons_succ])
            go_simp
            refine hK.out _ _ ⟨u52, u53, u54, u59, u60, u61, u66, u67, u68, u71, u72, .string (strS (Y6)), .string (strS (Y6)), by simp only [Act.put, List.setIfInBounds_toArray, List.set_cons_zero, List.set_cons_succ], X, Lib.hid (fun h => f5.out (Loose.upd_other h (by decide))), Lib.hid (fun h => f6.out (Loose.upd_other h (by decide))), Lib.hid (fun h => f7.out (Loose.upd_other h (by decide))), Lib.hid (fun h => f12.out (Loose.upd_other h (by decide))), Lib.hid (fun h => f13.out (Loose.upd_other h (by decide))), Lib.hid (fun h => f14.out (Loose.upd_other h (by decide))), Lib.hid (fun h => f19.out (Loose.upd_other h (by decide))), Lib.hid (fun h => f20.out (Loose.upd_other h (by decide))), Lib.hid (fun h => f21.out (Loose.upd_other h (by decide))), Lib.hid (fun h => f24.out (Loose.upd_other h (by decide))), Lib.hid (fun h => f25.out (Loose.upd_other h (by decide))), Lib.hid (fun h => f26.out (Loose.upd_other h (by decide))), Lib.hid (fun _ => rfl)⟩
        · clear X h0
          intro F a' w' hI hall
          obtain ⟨u52, u53, u54, u59, u60, u61, u66, u67, u68, u71, u72, u73, u5, rfl, X, f5, f6, f7, f12, f13, f14, f19, f20, f21, f24, f25, f26, f27⟩ := hI
          obtain rfl := f27.out (hall 27)
          clear hall f5 f6 f7 f12 f13 f14 f19 f20 f21 f24 f25 f26 f27
          (try simp only [Act.put, List.setIfInBounds_toArray, List.set_cons_zero, List.set_cons_succ])
          refine NoPanic.normal ?_
          go_wp2_with fail
          go_meet
          exact ⟨rfl, X.out⟩
      case rest =>
      rename World => w6
      obtain ⟨rfl, x6⟩ := hcut
      have K0 := Lib.hid (K0.out.ext x6)
      have X := Lib.hid (X.out.trans x6)
      clear x6 C3 C4 C5 C6 Z3 Z4 Z5 Z6 ZK EY3 EY4 EY5 EY6 ZY3 ZY4 ZY5
      go_upto_region 10 with (fail)
      go_cut [5] from 74 to 101 (fun vs wx => vs = .string (strS Y9) ∧ Ext w6 wx)
      case first =>
        skip
        refine wp_region_noPanic ?_
        have xd : Ext w6 w6.drew := (Ext.refl _).drew
        refine wp_region_held_drew (S := fun w' => Ext w6 w') (by kernel_rfl) xd (fun h0 => ?_)
        obtain ⟨V0, hV0⟩ : ∃ V0, V0 = w6.drew := ⟨_, rfl⟩
        rw [← hV0] at xd h0 ⊢
        have X := Lib.hid xd
        clear xd hV0
        refine wpAnyH_take (i := 0) (oi := ?_) (v := ?_) ?_ (by kernel_rfl) (by kernel_rfl) (by kernel_rfl) ?_ ?_ h0 ?_
        rotate_left 2
        · simp only [List.getElem?_toArray, List.getElem?_cons_zero]; rfl
        · exact fun _ _ _ h => h
        · refine Or.inl ⟨by rfl, ?_⟩
          intro w hSw
          (try dsimp only at hSw)
          go_simp
          (try with_reducible rfl)
        (try simp only [Act.put, List.setIfInBounds_toArray, List.set_cons_zero, List.set_cons_succ])
        refine wpAnyH_take (i := 1) (oi := ?_) (v := ?_) ?_ (by kernel_rfl) (by kernel_rfl) (by kernel_rfl) ?_ ?_ h0 ?_
        rotate_left 2
        · simp only [List.getElem?_toArray, List.getElem?_cons_zero, List.getElem?_cons_succ]; rfl
        · exact fun _ _ _ h => h
        · refine Or.inl ⟨by rfl, ?_⟩
          intro w hSw
          (try dsimp only at hSw)
          go_simp
          (try with_reducible rfl)
        (try simp only [Act.put, List.setIfInBounds_toArray, List.set_cons_zero, List.set_cons_succ])
        refine wpAnyH_take (i := 2) (oi := ?_) (v := ?_) ?_ (by kernel_rfl) (by kernel_rfl) (by kernel_rfl) ?_ ?_ h0 ?_
        rotate_left 2
        · simp only [List.getElem?_toArray, List.getElem?_cons_zero, List.getElem?_cons_succ]; rfl
        · exact fun _ _ _ h => h
        · refine Or.inl ⟨by rfl, ?_⟩
          intro w hSw
          have cl : w.cell? ⟨b0, 12, none⟩ = some (.int .i64 (L.v 12)) := (K0.out.ext hSw).cell 12
          go_simp
          (try with_reducible rfl)
        (try simp only [Act.put, List.setIfInBounds_toArray, List.set_cons_zero, List.set_cons_succ])
        refine wpAnyH_take (i := 3) (oi := ?_) (v := ?_) ?_ (by kernel_rfl) (by kernel_rfl) (by kernel_rfl) ?_ ?_ h0 ?_
        rotate_left 2
        · simp only [List.getElem?_toArray, List.getElem?_cons_zero, List.getElem?_cons_succ]; rfl
        · exact fun _ _ _ h => h
        · refine Or.inl ⟨by rfl, ?_⟩
          intro w hSw
          (try dsimp only at hSw)
          go_simp
          (try with_reducible rfl)
        (try simp only [Act.put, List.setIfInBounds_toArray, List.set_cons_zero, List.set_cons_succ])
        refine wpAnyH_take (i := 4) (oi := ?_) (v := ?_) ?_ (by kernel_rfl) (by kernel_rfl) (by kernel_rfl) ?_ ?_ h0 ?_
        rotate_left 2
        · simp only [List.getElem?_toArray, List.getElem?_cons_zero, List.getElem?_cons_succ]; rfl
        · exact fun _ _ _ h => h
        · refine Or.inl ⟨by rfl, ?_⟩
          intro w hSw
          have cl : w.cell? ⟨b0, 13, none⟩ = some (.int .i64 (L.v 13)) := (K0.out.ext hSw).cell 13
          go_simp
          (try with_reducible rfl)
        (try simp only [Act.put, List.setIfInBounds_toArray, List.set_cons_zero, List.set_cons_succ])
        refine wpAnyH_take (i := 5) (oi := ?_) (v := ?_) ?_ (by kernel_rfl) (by kernel_rfl) (by kernel_rfl) ?_ ?_ h0 ?_
        rotate_left 2
        · simp only [List.getElem?_toArray, List.getElem?_cons_zero, List.getElem?_cons_succ]; rfl
        · exact fun _ _ _ h => h
        · refine Or.inl ⟨by rfl, ?_⟩
          intro w hSw
          (try dsimp only at hSw)
          go_simp
          (try with_reducible rfl)
        (try simp only [Act.put, List.setIfInBounds_toArray, List.set_cons_zero, List.set_cons_succ])
        refine wpAnyH_take (i := 6) (oi := ?_) (v := ?_) ?_ (by kernel_rfl) (by kernel_rfl) (by kernel_rfl) ?_ ?_ h0 ?_
        rotate_left 2
        · simp only [List.getElem?_toArray, List.getElem?_cons_zero, List.getElem?_cons_succ]; rfl
        · exact fun _ _ _ h => h
        · refine Or.inl ⟨by rfl, ?_⟩
          intro w hSw
          have cl : w.cell? ⟨b0, 14, none⟩ = some (.int .i64 (L.v 14)) := (K0.out.ext hSw).cell 14
          go_simp
          (try with_reducible rfl)
        (try simp only [Act.put, List.setIfInBounds_toArray, List.set_cons_zero, List.set_cons_succ])
        refine wpAnyH_take (i := 10) (oi := ?_) (v := ?_) ?_ (by kernel_rfl) (by kernel_rfl) (by kernel_rfl) ?_ ?_ h0 ?_
        rotate_left 2
        · simp only [List.getElem?_toArray, List.getElem?_cons_zero, List.getElem?_cons_succ]; rfl
        · exact fun _ _ _ h => h
        · refine Or.inl ⟨by rfl, ?_⟩
          intro w hSw
          (try dsimp only at hSw)
          go_simp
          (try with_reducible rfl)
        (try simp only [Act.put, List.setIfInBounds_toArray, List.set_cons_zero, List.set_cons_succ])
        refine wpAnyH_take (i := 11) (oi := ?_) (v := ?_) ?_ (by kernel_rfl) (by kernel_rfl) (by kernel_rfl) ?_ ?_ h0 ?_
        rotate_left 2
        · simp only [List.getElem?_toArray, List.getElem?_cons_zero, List.getElem?_cons_succ]; rfl
        · exact fun _ _ _ h => h
        · refine Or.inl ⟨by rfl, ?_⟩
          intro w hSw
          have cl : w.cell? ⟨b0, 15, none⟩ = some (.int .i64 (L.v 15)) := (K0.out.ext hSw).cell 15
          go_simp
          (try with_reducible rfl)
        (try simp only [Act.put, List.setIfInBounds_toArray, List.set_cons_zero, List.set_cons_succ])
        refine wpAnyH_take (i := 12) (oi := ?_) (v := ?_) ?_ (by kernel_rfl) (by kernel_rfl) (by kernel_rfl) ?_ ?_ h0 ?_
        rotate_left 2
        · simp only [List.getElem?_toArray, List.getElem?_cons_zero, List.getElem?_cons_succ]; rfl
        · exact fun _ _ _ h => h
        · refine Or.inl ⟨by rfl, ?_⟩
          intro w hSw
          (try dsimp only at hSw)
          go_simp
          (try with_reducible rfl)
        (try simp only [Act.put, List.setIfInBounds_toArray, List.set_cons_zero, List.set_cons_succ])
        refine wpAnyH_take (i := 13) (oi := ?_) (v := ?_) ?_ (by kernel_rfl) (by kernel_rfl) (by kernel_rfl) ?_ ?_ h0 ?_
        rotate_left 2
        · simp only [List.getElem?_toArray, List.getElem?_cons_zero, List.getElem?_cons_succ]; rfl
        · exact fun _ _ _ h => h
        · refine Or.inl ⟨by rfl, ?_⟩
          intro w hSw
          have cl : w.cell? ⟨b0, 16, none⟩ = some (.int .i64 (L.v 16)) := (K0.out.ext hSw).cell 16
          go_simp
          (try with_reducible rfl)
        (try simp only [Act.put, List.setIfInBounds_toArray, List.set_cons_zero, List.set_cons_succ])
        refine wpAnyH_take (i := 14) (oi := ?_) (v := ?_) ?_ (by kernel_rfl) (by kernel_rfl) (by kernel_rfl) ?_ ?_ h0 ?_
        rotate_left 2
        · simp only [List.getElem?_toArray, List.getElem?_cons_zero, List.getElem?_cons_succ]; rfl
        · exact fun _ _ _ h => h
        · refine Or.inl ⟨by rfl, ?_⟩
          intro w hSw
          (try dsimp only at hSw)
          go_simp
          (try with_reducible rfl)
        (try simp only [Act.put, List.setIfInBounds_toArray, List.set_cons_zero, List.set_cons_succ])
        refine wpAnyH_take (i := 15) (oi := ?_) (v := ?_) ?_ (by kernel_rfl) (by kernel_rfl) (by kernel_rfl) ?_ ?_ h0 ?_
        rotate_left 2
        · simp only [List.getElem?_toArray, List.getElem?_cons_zero, List.getElem?_cons_succ]; rfl
        · exact fun _ _ _ h => h
        · refine Or.inl ⟨by rfl, ?_⟩
          intro w hSw
          have cl : w.cell? ⟨b0, 17, none⟩ = some (.int .i64 (L.v 17)) := (K0.out.ext hSw).cell 17
          go_simp
          (try with_reducible rfl)
        (try simp only [Act.put, List.setIfInBounds_toArray, List.set_cons_zero, List.set_cons_succ])
        refine wpAnyH_take (i := 16) (oi := ?_) (v := ?_) ?_ (by kernel_rfl) (by kernel_rfl) (by kernel_rfl) ?_ ?_ h0 ?_
        rotate_left 2
        · simp only [List.getElem?_toArray, List.getElem?_cons_zero, List.getElem?_cons_succ]; rfl
        · exact fun _ _ _ h => h
        · refine Or.inl ⟨by rfl, ?_⟩
          intro w hSw
          (try dsimp only at hSw)
          go_simp
          (try with_reducible rfl)
        (try simp only [Act.put, List.setIfInBounds_toArray, List.set_cons_zero, List.set_cons_succ])
        refine wpAnyH_take (i := 17) (oi := ?_) (v := ?_) ?_ (by kernel_rfl) (by kernel_rfl) (by kernel_rfl) ?_ ?_ h0 ?_
        rotate_left 2
        · simp only [List.getElem?_toArray, List.getElem?_cons_zero, List.getElem?_cons_succ]; rfl
        · exact fun _ _ _ h => h
        · refine Or.inl ⟨by rfl, ?_⟩
          intro w hSw
          have cl : w.cell? ⟨b0, 18, none⟩ = some (.int .i64 (L.v 18)) := (K0.out.ext hSw).cell 18
          go_simp
          (try with_reducible rfl)
        (try simp only [Act.put, List.setIfInBounds_toArray, List.set_cons_zero, List.set_cons_succ])
        refine wpAnyH_take (i := 18) (oi := ?_) (v := ?_) ?_ (by kernel_rfl) (by kernel_rfl) (by kernel_rfl) ?_ ?_ h0 ?_
        rotate_left 2
        · simp only [List.getElem?_toArray, List.getElem?_cons_zero, List.getElem?_cons_succ]; rfl
        · exact fun _ _ _ h => h
        · refine Or.inl ⟨by rfl, ?_⟩
          intro w hSw
          (try dsimp only at hSw)
          go_simp
          (try with_reducible rfl)
        (try simp only [Act.put, List.setIfInBounds_toArray, List.set_cons_zero, List.set_cons_succ])
        refine wpAnyH_take (i := 19) (oi := ?_) (v := ?_) ?_ (by kernel_rfl) (by kernel_rfl) (by kernel_rfl) ?_ ?_ h0 ?_
        rotate_left 2
        · simp only [List.getElem?_toArray, List.getElem?_cons_zero, List.getElem?_cons_succ]; rfl
        · exact fun _ _ _ h => h
        · refine Or.inl ⟨by rfl, ?_⟩
          intro w hSw
          have cl : w.cell? ⟨b0, 19, none⟩ = some (.int .i64 (L.v 19)) := (K0.out.ext hSw).cell 19
          go_simp
          (try with_reducible rfl)
        (try simp only [Act.put, List.setIfInBounds_toArray, List.set_cons_zero, List.set_cons_succ])
        refine wpAnyH_take (i := 23) (oi := ?_) (v := ?_) ?_ (by kernel_rfl) (by kernel_rfl) (by kernel_rfl) ?_ ?_ h0 ?_
        rotate_left 2
        · simp only [List.getElem?_toArray, List.getElem?_cons_zero, List.getElem?_cons_succ]; rfl
        · exact fun _ _ _ h => h
        · refine Or.inl ⟨by rfl, ?_⟩
          intro w hSw
          (try dsimp only at hSw)
          go_simp
          (try with_reducible rfl)
        (try simp only [Act.put, List.setIfInBounds_toArray, List.set_cons_zero, List.set_cons_succ])
        refine wpAnyH_take (i := 24) (oi := ?_) (v := ?_) ?_ (by kernel_rfl) (by kernel_rfl) (by kernel_rfl) ?_ ?_ h0 ?_
        rotate_left 2
        · simp only [List.getElem?_toArray, List.getElem?_cons_zero, List.getElem?_cons_succ]; rfl
        · exact fun _ _ _ h => h
        · refine Or.inl ⟨by rfl, ?_⟩
          intro w hSw
          have cl : w.cell? ⟨b0, 20, none⟩ = some (.int .i64 (L.v 20)) := (K0.out.ext hSw).cell 20
          go_simp
          (try with_reducible rfl)
        (try simp only [Act.put, List.setIfInBounds_toArray, List.set_cons_zero, List.set_cons_succ])
        refine Loose.go [(7, []), (8, [7]), (9, [8]), (20, []), (21, [20]), (22, [9, 21]), (25, []), (26, [25]), (27, [22, 26]), (28, [27])] (fun A F a' w' => ∃ u81 u82 u83 u94 u95 u96 u99 u100 u101 u5 : Value, a' = ((((((((((A.put (some 81) u81).put (some 82) u82).put (some 83) u83).put (some 94) u94).put (some 95) u95).put (some 96) u96).put (some 99) u99).put (some 100) u100).put (some 101) u101).put (some 5) u5) ∧ Hid (Ext w6 w') ∧ Hid (F 7 = true → ∃ g : Nat, u81 = .slice (some ⟨g, 0, none⟩) 3 3 ∧ Blk w' g 3 [.int .i64 (L.v 12), .int .i64 (L.v 13), .int .i64 (L.v 14)]) ∧ Hid (F 8 = true → u82 = .string (strS (lineL L (7, 0)))) ∧ Hid (F 9 = true → u83 = .string (strS (Y7))) ∧ Hid (F 20 = true → ∃ g : Nat, u94 = .slice (some ⟨g, 0, none⟩) 5 5 ∧ Blk w' g 3 [.int .i64 (L.v 15), .int .i64 (L.v 16), .int .i64 (L.v 17), .int .i64 (L.v 18), .int .i64 (L.v 19)]) ∧ Hid (F 21 = true → u95 = .string (strS (lineL L (8, 0)))) ∧ Hid (F 22 = true → u96 = .string (strS (Y8))) ∧ Hid (F 25 = true → ∃ g : Nat, u99 = .slice (some ⟨g, 0, none⟩) 1 1 ∧ Blk w' g 3 [.int .i64 (L.v 20)]) ∧ Hid (F 26 = true → u100 = .string (strS (lineL L (9, 0)))) ∧ Hid (F 27 = true → u101 = .string (strS (Y9))) ∧ Hid (F 28 = true → u5 = .string (strS (Y9)))) (by kernel_rfl) (by kernel_rfl) (by kernel_rfl) (by kernel_rfl) ?_ ?_ ?_ ?_
        · exact ⟨undef, undef, undef, undef, undef, undef, undef, undef, undef, .string (strS (Y6)), by simp only [Act.put, List.setIfInBounds_toArray, List.set_cons_zero, List.set_cons_succ], X, Lib.hid (fun h => absurd h (by decide)), Lib.hid (fun h => absurd h (by decide)), Lib.hid (fun h => absurd h (by decide)), Lib.hid (fun h => absurd h (by decide)), Lib.hid (fun h => absurd h (by decide)), Lib.hid (fun h => absurd h (by decide)), Lib.hid (fun h => absurd h (by decide)), Lib.hid (fun h => absurd h (by decide)), Lib.hid (fun h => absurd h (by decide)), Lib.hid (fun h => absurd h (by decide))⟩
        · intro F a' w' hI
          obtain ⟨u81, u82, u83, u94, u95, u96, u99, u100, u101, u5, _, X, _⟩ := hI
          exact X.out
        · clear X h0
          intro x hx F a' w' hI _ hd o ho K hK
          simp only [List.mem_cons, List.not_mem_nil, or_false] at hx
          rcases hx with rfl | rfl | rfl | rfl | rfl | rfl | rfl | rfl | rfl | rfl
          · dsimp only at hd ho
            simp only [List.getElem?_toArray, List.getElem?_cons_zero, List.getElem?_cons_succ] at ho
            obtain rfl := Option.some.inj ho
            clear ho
            obtain ⟨u81, u82, u83, u94, u95, u96, u99, u100, u101, u5, ha, X, f7, f8, f9, f20, f21, f22, f25, f26, f27, f28⟩ := hI
            rw [ha]
            clear ha
            obtain ⟨w2, hw2⟩ : ∃ w2, w2 = w'.alloc (.cells #[.int .i64 (L.v 12), .int .i64 (L.v 13), .int .i64 (L.v 14)] 3) := ⟨_, rfl⟩
            have y : Ext w' w2 := by rw [hw2]; exact (Ext.refl _).alloc _
            have kb := Lib.hid (show Blk w2 w'.heap.size 3 [.int .i64 (L.v 12), .int .i64 (L.v 13), .int .i64 (L.v 14)] by rw [hw2]; exact Blk.lit _ _ _ _ rfl)
            have y := Lib.hid y
            (try simp only [Act.put, List.setIfInBounds_toArray, List.set_cons_zero, List.set_cons_succ])
            go_simp
            rw [← hw2]
            refine hK.out _ _ ⟨.slice (some ⟨w'.heap.size, 0, none⟩) 3 3, u82, u83, u94, u95, u96, u99, u100, u101, u5, by simp only [Act.put, List.setIfInBounds_toArray, List.set_cons_zero, List.set_cons_succ], Lib.hid (X.out.trans y.out), Lib.hid (fun _ => ⟨_, rfl, kb.out⟩), Lib.hid (fun h => f8.out (Loose.upd_other h (by decide))), Lib.hid (fun h => f9.out (Loose.upd_other h (by decide))), Lib.hid (fun h => by obtain ⟨g, e, kb⟩ := f20.out (Loose.upd_other h (by decide)); exact ⟨g, e, kb.ext y.out⟩), Lib.hid (fun h => f21.out (Loose.upd_other h (by decide))), Lib.hid (fun h => f22.out (Loose.upd_other h (by decide))), Lib.hid (fun h => by obtain ⟨g, e, kb⟩ := f25.out (Loose.upd_other h (by decide)); exact ⟨g, e, kb.ext y.out⟩), Lib.hid (fun h => f26.out (Loose.upd_other h (by decide))), Lib.hid (fun h => f27.out (Loose.upd_other h (by decide))), Lib.hid (fun h => f28.out (Loose.upd_other h (by decide)))⟩
          · dsimp only at hd ho
            simp only [List.getElem?_toArray, List.getElem?_cons_zero, List.getElem?_cons_succ] at ho
            obtain rfl := Option.some.inj ho
            clear ho
            obtain ⟨u81, u82, u83, u94, u95, u96, u99, u100, u101, u5, ha, X, f7, f8, f9, f20, f21, f22, f25, f26, f27, f28⟩ := hI
            rw [ha]
            clear ha
            obtain ⟨g, rfl, kb⟩ := f7.out (hd 7 (by simp))
            have C := Lib.hid (C7.out g w' kb)
            clear kb
            (try simp only [Act.put, List.setIfInBounds_toArray, List.set_cons_zero, List.set_cons_succ])
            go_simp
            refine C.out.mono ?_
            rintro e w2 ⟨rfl, y⟩
            have y := Lib.hid y
            refine hK.out _ _ ⟨.slice (some ⟨g, 0, none⟩) 3 3, .string (strS (lineL L (7, 0))), u83, u94, u95, u96, u99, u100, u101, u5, by simp only [Act.put, List.setIfInBounds_toArray, List.set_cons_zero, List.set_cons_succ], Lib.hid (X.out.trans y.out), Lib.hid (fun h => by obtain ⟨g, e, kb⟩ := f7.out (Loose.upd_other h (by decide)); exact ⟨g, e, kb.ext y.out⟩), Lib.hid (fun _ => rfl), Lib.hid (fun h => f9.out (Loose.upd_other h (by decide))), Lib.hid (fun h => by obtain ⟨g, e, kb⟩ := f20.out (Loose.upd_other h (by decide)); exact ⟨g, e, kb.ext y.out⟩), Lib.hid (fun h => f21.out (Loose.upd_other h (by decide))), Lib.hid (fun h => f22.out (Loose.upd_other h (by decide))), Lib.hid (fun h => by obtain ⟨g, e, kb⟩ := f25.out (Loose.upd_other h (by decide)); exact ⟨g, e, kb.ext y.out⟩), Lib.hid (fun h => f26.out (Loose.upd_other h (by decide))), Lib.hid (fun h => f27.out (Loose.upd_other h (by decide))), Lib.hid (fun h => f28.out (Loose.upd_other h (by decide)))⟩
          · dsimp only at hd ho
            simp only [List.getElem?_toArray, List.getElem?_cons_zero, List.getElem?_cons_succ] at ho
            obtain rfl := Option.some.inj ho
            clear ho
            obtain ⟨u81, u82, u83, u94, u95, u96, u99, u100, u101, u5, ha, X, f7, f8, f9, f20, f21, f22, f25, f26, f27, f28⟩ := hI
            rw [ha]
            clear ha
            have e8 := f8.out (hd 8 (by simp))
            subst e8
            have zz := zno ZY6.out Z7.out (by decide)
            (try simp only [Act.put, List.setIfInBounds_toArray, List.set_cons_zero, List.set_cons_succ])
            go_simp
            refine hK.out _ _ ⟨u81, .string (strS (lineL L (7, 0))), .string (strS (Y6) ++ strS (lineL L (7, 0))), u94, u95, u96, u99, u100, u101, u5, by simp only [Act.put, List.setIfInBounds_toArray, List.set_cons_zero, List.set_cons_succ], X, Lib.hid (fun h => f7.out (Loose.upd_other h (by decide))), Lib.hid (fun h => f8.out (Loose.upd_other h (by decide))), Lib.hid (fun _ => by rw [EY7.out]), Lib.hid (fun h => f20.out (Loose.upd_other h (by decide))), Lib.hid (fun h => f21.out (Loose.upd_other h (by decide))), Lib.hid (fun h => f22.out (Loose.upd_other h (by decide))), Lib.hid (fun h => f25.out (Loose.upd_other h (by decide))), Lib.hid (fun h => f26.out (Loose.upd_other h (by decide))), Lib.hid (fun h => f27.out (Loose.upd_other h (by decide))), Lib.hid (fun h => f28.out (Loose.upd_other h (by decide)))⟩
          · dsimp only at hd ho
            simp only [List.getElem?_toArray, List.getElem?_cons_zero, List.getElem?_cons_succ] at ho
            obtain rfl := Option.some.inj ho
            clear ho
            obtain ⟨u81, u82, u83, u94, u95, u96, u99, u100, u101, u5, ha, X, f7, f8, f9, f20, f21, f22, f25, f26, f27, f28⟩ := hI
            rw [ha]
            clear ha
            obtain ⟨w2, hw2⟩ : ∃ w2, w2 = w'.alloc (.cells #[.int .i64 (L.v 15), .int .i64 (L.v 16), .int .i64 (L.v 17), .int .i64 (L.v 18), .int .i64 (L.v 19)] 3) := ⟨_, rfl⟩
            have y : Ext w' w2 := by rw [hw2]; exact (Ext.refl _).alloc _
            have kb := Lib.hid (show Blk w2 w'.heap.size 3 [.int .i64 (L.v 15), .int .i64 (L.v 16), .int .i64 (L.v 17), .int .i64 (L.v 18), .int .i64 (L.v 19)] by rw [hw2]; exact Blk.lit _ _ _ _ rfl)
            have y := Lib.hid y
            (try simp only [Act.put, List.setIfInBounds_toArray, List.set_cons_zero, List.set_cons_succ])
            go_simp
            rw [← hw2]
            refine hK.out _ _ ⟨u81, u82, u83, .slice (some ⟨w'.heap.size, 0, none⟩) 5 5, u95, u96, u99, u100, u101, u5, by simp only [Act.put, List.setIfInBounds_toArray, List.set_cons_zero, List.set_cons_succ], Lib.hid (X.out.trans y.out), Lib.hid (fun h => by obtain ⟨g, e, kb⟩ := f7.out (Loose.upd_other h (by decide)); exact ⟨g, e, kb.ext y.out⟩), Lib.hid (fun h => f8.out (Loose.upd_other h (by decide))), Lib.hid (fun h => f9.out (Loose.upd_other h (by decide))), Lib.hid (fun _ => ⟨_, rfl, kb.out⟩), Lib.hid (fun h => f21.out (Loose.upd_other h (by decide))), Lib.hid (fun h => f22.out (Loose.upd_other h (by decide))), Lib.hid (fun h => by obtain ⟨g, e, kb⟩ := f25.out (Loose.upd_other h (by decide)); exact ⟨g, e, kb.ext y.out⟩), Lib.hid (fun h => f26.out (Loose.upd_other h (by decide))), Lib.hid (fun h => f27.out (Loose.upd_other h (by decide))), Lib.hid (fun h => f28.out (Loose.upd_other h (by decide)))⟩
          · dsimp only at hd ho
            simp only [List.getElem?_toArray, List.getElem?_cons_zero, List.getElem?_cons_succ] at ho
            obtain rfl := Option.some.inj ho
            clear ho
            obtain ⟨u81, u82, u83, u94, u95, u96, u99, u100, u101, u5, ha, X, f7, f8, f9, f20, f21, f22, f25, f26, f27, f28⟩ := hI
            rw [ha]
            clear ha
            obtain ⟨g, rfl, kb⟩ := f20.out (hd 20 (by simp))
            have C := Lib.hid (C8.out g w' kb)
            clear kb
            (try simp only [Act.put, List.setIfInBounds_toArray, List.set_cons_zero, List.set_cons_succ])
            go_simp
            refine C.out.mono ?_
            rintro e w2 ⟨rfl, y⟩
            have y := Lib.hid y
            refine hK.out _ _ ⟨u81, u82, u83, .slice (some ⟨g, 0, none⟩) 5 5, .string (strS (lineL L (8, 0))), u96, u99, u100, u101, u5, by simp only [Act.put, List.setIfInBounds_toArray, List.set_cons_zero, List.set_cons_succ], Lib.hid (X.out.trans y.out), Lib.hid (fun h => by obtain ⟨g, e, kb⟩ := f7.out (Loose.upd_other h (by decide)); exact ⟨g, e, kb.ext y.out⟩), Lib.hid (fun h => f8.out (Loose.upd_other h (by decide))), Lib.hid (fun h => f9.out (Loose.upd_other h (by decide))), Lib.hid (fun h => by obtain ⟨g, e, kb⟩ := f20.out (Loose.upd_other h (by decide)); exact ⟨g, e, kb.ext y.out⟩), Lib.hid (fun _ => rfl), Lib.hid (fun h => f22.out (Loose.upd_other h (by decide))), Lib.hid (fun h => by obtain ⟨g, e, kb⟩ := f25.out (Loose.upd_other h (by decide)); exact ⟨g, e, kb.ext y.out⟩), Lib.hid (fun h => f26.out (Loose.upd_other h (by decide))), Lib.hid (fun h => f27.out (Loose.upd_other h (by decide))), Lib.hid (fun h => f28.out (Loose.upd_other h (by decide)))⟩
          · dsimp only at hd ho
            simp only [List.getElem?_toArray, List.getElem?_cons_zero, List.getElem?_cons_succ] at ho
            obtain rfl := Option.some.inj ho
            clear ho
            obtain ⟨u81, u82, u83, u94, u95, u96, u99, u100, u101, u5, ha, X, f7, f8, f9, f20, f21, f22, f25, f26, f27, f28⟩ := hI
            rw [ha]
            clear ha
            have e9 := f9.out (hd 9 (by simp))
            subst e9
            have e21 := f21.out (hd 21 (by simp))
            subst e21
            have zz := zno ZY7.out Z8.out (by decide)
            (try simp only [Act.put, List.setIfInBounds_toArray, List.set_cons_zero, List.set_cons_succ])
            go_simp
            refine hK.out _ _ ⟨u81, u82, .string (strS (Y7)), u94, .string (strS (lineL L (8, 0))), .string (strS (Y7) ++ strS (lineL L (8, 0))), u99, u100, u101, u5, by simp only [Act.put, List.setIfInBounds_toArray, List.set_cons_zero, List.set_cons_succ], X, Lib.hid (fun h => f7.out (Loose.upd_other h (by decide))), Lib.hid (fun h => f8.out (Loose.upd_other h (by decide))), Lib.hid (fun h => f9.out (Loose.upd_other h (by decide))), Lib.hid (fun h => f20.out (Loose.upd_other h (by decide))), Lib.hid (fun h => f21.out (Loose.upd_other h (by decide))), Lib.hid (fun _ => by rw [EY8.out]), Lib.hid (fun h => f25.out (Loose.upd_other h (by decide))), Lib.hid (fun h => f26.out (Loose.upd_other h (by decide))), Lib.hid (fun h => f27.out (Loose.upd_other h (by decide))), Lib.hid (fun h => f28.out (Loose.upd_other h (by decide)))⟩
          · dsimp only at hd ho
            simp only [List.getElem?_toArray, List.getElem?_cons_zero, List.getElem?_cons_succ] at ho
            obtain rfl := Option.some.inj ho
            clear ho
            obtain ⟨u81, u82, u83, u94, u95, u96, u99, u100, u101, u5, ha, X, f7, f8, f9, f20, f21, f22, f25, f26, f27, f28⟩ := hI
            rw [ha]
            clear ha
            obtain ⟨w2, hw2⟩ : ∃ w2, w2 = w'.alloc (.cells #[.int .i64 (L.v 20)] 3) := ⟨_, rfl⟩
            have y : Ext w' w2 := by rw [hw2]; exact (Ext.refl _).alloc _
            have kb := Lib.hid (show Blk w2 w'.heap.size 3 [.int .i64 (L.v 20)] by rw [hw2]; exact Blk.lit _ _ _ _ rfl)
            have y := Lib.hid y
            (try simp only [Act.put, List.setIfInBounds_toArray, List.set_cons_zero, List.set_cons_succ])
            go_simp
            rw [← hw2]
            refine hK.out _ _ ⟨u81, u82, u83, u94, u95, u96, .slice (some ⟨w'.heap.size, 0, none⟩) 1 1, u100, u101, u5, by simp only [Act.put, List.setIfInBounds_toArray, List.set_cons_zero, List.set_cons_succ], Lib.hid (X.out.trans y.out), Lib.hid (fun h => by obtain ⟨g, e, kb⟩ := f7.out (Loose.upd_other h (by decide)); exact ⟨g, e, kb.ext y.out⟩), Lib.hid (fun h => f8.out (Loose.upd_other h (by decide))), Lib.hid (fun h => f9.out (Loose.upd_other h (by decide))), Lib.hid (fun h => by obtain ⟨g, e, kb⟩ := f20.out (Loose.upd_other h (by decide)); exact ⟨g, e, kb.ext y.out⟩), Lib.hid (fun h => f21.out (Loose.upd_other h (by decide))), Lib.hid (fun h => f22.out (Loose.upd_other h (by decide))), Lib.hid (fun _ => ⟨_, rfl, kb.out⟩), Lib.hid (fun h => f26.out (Loose.upd_other h (by decide))), Lib.hid (fun h => f27.out (Loose.upd_other h (by decide))), Lib.hid (fun h => f28.out (Loose.upd_other h (by decide)))⟩
          · dsimp only at hd ho
            simp only [List.getElem?_toArray, List.getElem?_cons_zero, List.getElem?_cons_succ] at ho
            obtain rfl := Option.some.inj ho
            clear ho
            obtain ⟨u81, u82, u83, u94, u95, u96, u99, u100, u101, u5, ha, X, f7, f8, f9, f20, f21, f22, f25, f26, f27, f28⟩ := hI
            rw [ha]
            clear ha
            obtain ⟨g, rfl, kb⟩ := f25.out (hd 25 (by simp))
            have C := Lib.hid (C9.out g w' kb)
            clear kb
            (try simp only [Act.put, List.setIfInBounds_toArray, List.set_cons_zero, List.set_cons_succ])
            go_simp
            refine C.out.mono ?_
            rintro e w2 ⟨rfl, y⟩
            have y := Lib.hid y
            refine hK.out _ _ ⟨u81, u82, u83, u94, u95, u96, .slice (some ⟨g, 0, none⟩) 1 1, .string (strS (lineL L (9, 0))), u101, u5, by simp only [Act.put, List.setIfInBounds_toArray, List.set_cons_zero, List.set_cons_succ], Lib.hid (X.out.trans y.out), Lib.hid (fun h => by obtain ⟨g, e, kb⟩ := f7.out (Loose.upd_other h (by decide)); exact ⟨g, e, kb.ext y.out⟩), Lib.hid (fun h => f8.out (Loose.upd_other h (by decide))), Lib.hid (fun h => f9.out (Loose.upd_other h (by decide))), Lib.hid (fun h => by obtain ⟨g, e, kb⟩ := f20.out (Loose.upd_other h (by decide)); exact ⟨g, e, kb.ext y.out⟩), Lib.hid (fun h => f21.out (Loose.upd_other h (by decide))), Lib.hid (fun h => f22.out (Loose.upd_other h (by decide))), Lib.hid (fun h => by obtain ⟨g, e, kb⟩ := f25.out (Loose.upd_other h (by decide)); exact ⟨g, e, kb.ext y.out⟩), Lib.hid (fun _ => rfl), Lib.hid (fun h => f27.out (Loose.upd_other h (by decide))), Lib.hid (fun h => f28.out (Loose.upd_other h (by decide)))⟩
          · dsimp only at hd ho
            simp only [List.getElem?_toArray, List.getElem?_cons_zero, List.getElem?_cons_succ] at ho
            obtain rfl := Option.some.inj ho
            clear ho
            obtain ⟨u81, u82, u83, u94, u95, u96, u99, u100, u101, u5, ha, X, f7, f8, f9, f20, f21, f22, f25, f26, f27, f28⟩ := hI
            rw [ha]
            clear ha
            have e22 := f22.out (hd 22 (by simp))
            subst e22
            have e26 := f26.out (hd 26 (by simp))
            subst e26
            have zz := zno ZY8.out Z9.out (by decide)
            (try simp only [Act.put, List.setIfInBounds_toArray, List.set_cons_zero, List.set_cons_succ])
            go_simp
            refine hK.out _ _ ⟨u81, u82, u83, u94, u95, .string (strS (Y8)), u99, .string (strS (lineL L (9, 0))), .string (strS (Y8) ++ strS (lineL L (9, 0))), u5, by simp only [Act.put, List.setIfInBounds_toArray, List.set_cons_zero, List.set_cons_succ], X, Lib.hid (fun h => f7.out (Loose.upd_other h (by decide))), Lib.hid (fun h => f8.out (Loose.upd_other h (by decide))), Lib.hid (fun h => f9.out (Loose.upd_other h (by decide))), Lib.hid (fun h => f20.out (Loose.upd_other h (by decide))), Lib.hid (fun h => f21.out (Loose.upd_other h (by decide))), Lib.hid (fun h => f22.out (Loose.upd_other h (by decide))), Lib.hid (fun h => f25.out (Loose.upd_other h (by decide))), Lib.hid (fun h => f26.out (Loose.upd_other h (by decide))), Lib.hid (fun _ => by rw [EY9.out]), Lib.hid (fun h => f28.out (Loose.upd_other h (by decide)))⟩
          · dsimp only at hd ho
            simp only [List.getElem?_toArray, List.getElem?_cons_zero, List.getElem?_cons_succ] at ho
            obtain rfl := Option.some.inj ho
            clear ho
            obtain ⟨u81, u82, u83, u94, u95, u96, u99, u100, u101, u5, ha, X, f7, f8, f9, f20, f21, f22, f25, f26, f27, f28⟩ := hI
            rw [ha]
            clear ha
            have e27 := f27.out (hd 27 (by simp))
            subst e27
            (try simp only [Act.put, List.setIfInBounds_toArray, List.set_cons_zero, List.set_cons_succ])
            go_simp
            refine hK.out _ _ ⟨u81, u82, u83, u94, u95, u96, u99, u100, .string (strS (Y9)), .string (strS (Y9)), by simp only [Act.put, List.setIfInBounds_toArray, List.set_cons_zero, List.set_cons_succ], X, Lib.hid (fun h => f7.out (Loose.upd_other h (by decide))), Lib.hid (fun h => f8.out (Loose.upd_other h (by decide))), Lib.hid (fun h => f9.out (Loose.upd_other h (by decide))), Lib.hid (fun h => f20.out (Loose.upd_other h (by decide))), Lib.hid (fun h => f21.out (Loose.upd_other h (by decide))), Lib.hid (fun h => f22.out (Loose.upd_other h (by decide))), Lib.hid (fun h => f25.out (Loose.upd_other h (by decide))), Lib.hid (fun h => f26.out (Loose.upd_other h (by decide))), Lib.hid (fun h => f27.out (Loose.upd_other h (by decide))), Lib.hid (fun _ => rfl)⟩
        · clear X h0
          intro F a' w' hI hall
          obtain ⟨u81, u82, u83, u94, u95, u96, u99, u100, u101, u5, rfl, X, f7, f8, f9, f20, f21, f22, f25, f26, f27, f28⟩ := hI
          obtain rfl := f28.out (hall 28)
          clear hall f7 f8 f9 f20 f21 f22 f25 f26 f27 f28
          (try simp only [Act.put, List.setIfInBounds_toArray, List.set_cons_zero, List.set_cons_succ])
          refine NoPanic.normal ?_
          go_wp2_with fail
          go_meet
          exact ⟨rfl, X.out⟩
      case rest =>
      rename World => w7
      obtain ⟨rfl, x7⟩ := hcut
      have X := Lib.hid (X.out.trans x7)
      clear x7 C7 C8 C9 Z7 Z8 Z9 ZY6 ZY7 ZY8 ZY9 EY7 EY8 EY9 K0
      have hsz : (strS Y9).size = Y9.length := strS_size Y9
      obtain ⟨V, hV⟩ : ∃ V, V = Lib.bytesWorld w7 5 (strS Y9) := ⟨_, rfl⟩
      have y : Ext w7 V := by rw [hV]; exact ext_bytes _ _
      have SNB := Lib.hid (show SeenB V (some ⟨w7.heap.size, 0, none⟩) Y9 by
        have := conv_seen w7 (strS Y9)
        rw [show (strS Y9).data.toList = Y9 from rfl] at this
        rw [hV]; exact this)
      have rc := Lib.run_convert_string_bytes (P := Tryd.prog) w7 9 26 5 (strS Y9) Tryd.underlying9 Tryd.underlying26 Tryd.underlying5
      obtain ⟨cv, hcv⟩ : ∃ cv, cv = grownCap w7 (strS Y9).size 0 5 := ⟨_, rfl⟩
      rw [← hV, ← hcv, hsz] at rc
      have X := Lib.hid (X.out.trans y)
      clear hcv hV y hsz
      go_wp2_with fail
      go_ret2
      exact ⟨X.out, _, _, _, by rw [T2.out]; rfl, by rw [T1.out, TK.out], by rw [T1.out, TK.out]; exact SNB.out⟩
end L14
end Go.Proofs.YteflkagilhmeiaaDoor

