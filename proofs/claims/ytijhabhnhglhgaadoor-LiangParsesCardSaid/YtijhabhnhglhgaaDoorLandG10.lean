/- The landed read of layer 10: its walk. -/
import Derived.Test.YtijhabhnhglhgaaDoorLandF10
import Derived.Test.YtijhabhnhglhgaaDoorResults
import Derived.Deep.RegionHeld3
namespace Go.Proofs.YtijhabhnhglhgaaDoor
open Go.RowKit
namespace L10

/-- What read answers. -/
def ReadQ (w : World) (s : ByteArray) (e : Ending) (w' : World) : Prop :=
  Ext w w' ∧ ∃ x y : WP, e = .returned (.tuple #[wpV x, wpV y]) ∧ tn x = (readL s).pat ∧ tn y = (readL s).exc ∧ SeenL w' x.A x.ns ∧ SeenL w' y.A y.ns ∧ x.ns.length ≤ x.c ∧ x.c ≤ maxLen ∧ y.ns.length ≤ y.c ∧ y.c ≤ maxLen ∧
    (∀ ad, x.A = some ad → w.heap.size ≤ ad.block ∧ ad.block < w'.heap.size) ∧ (∀ ad, y.A = some ad → w.heap.size ≤ ad.block ∧ ad.block < w'.heap.size)

theorem row_slice {w : World} {base : Nat} {e : TypeId} {size n : Nat} {v : Value} {xs : List Value} (h : w.ownsRow base e size v n xs) : ∃ A c, v = .slice A n c ∧ n ≤ c ∧ c ≤ maxLen ∧ Seen w.heap.size w A xs := by
  obtain ⟨A, c, rfl, hs⟩ := own_seen h
  obtain ⟨_, ⟨e1, h1⟩ | ⟨g, cap, cur, e1, _, _, hc, hm, _⟩⟩ := h
  · cases e1
    exact ⟨none, 0, rfl, Nat.le_refl _, by simp [maxLen], hs⟩
  · cases e1
    exact ⟨_, c, rfl, hc, hm, hs⟩
theorem row_str {w : World} {base : Nat} {A : Option Addr} {c : Nat} {L : List UInt8} (h : w.ownsRow base 5 1 (.slice A L.length c) L.length (bv L)) :
    (convert 22 9 (.slice A L.length c)).run Tryd.prog w = .ok (.string ⟨L.toArray⟩) w := by
  obtain ⟨A', c', e, _, _, hs⟩ := row_slice h
  cases e
  exact SeenB.str (show SeenB w A L from hs) 22 9 5 c L.length Tryd.underlying22 Tryd.underlying5 Tryd.underlying9 rfl

set_option maxRecDepth 100000 in
set_option maxHeartbeats 8000000 in
theorem read_any (s : ByteArray) (hs : s.size ≤ 1000) (w : World) : Calls Tryd.prog 35 #[.string s] w (ReadQ w s) := by
  obtain ⟨V0, hV⟩ : ∃ V0, V0 = (((w.alloc (.cells #[.string ByteArray.empty, .slice none 0 0] 42)).alloc (.cells #[.string ByteArray.empty, .slice none 0 0] 45)).alloc (.cells #[.int .i64 0] 3)).iter s 0 := ⟨_, rfl⟩
  have hR : Rd w V0 (w.heap.size + 3) s 0 (.slice none 0 0) (.slice none 0 0) (.slice (some ⟨w.heap.size + 2, 0, none⟩) 1 1) ⟨[], [], 0, [], 0⟩ := by
    rw [hV]
    have K1 := Kp.alloc (r := none) (w.alloc (.cells #[.string ByteArray.empty, .slice none 0 0] 42)) (.cells #[.string ByteArray.empty, .slice none 0 0] 45)
    have x1 : Ext w (w.alloc (.cells #[.string ByteArray.empty, .slice none 0 0] 42)) := (Ext.refl w).alloc _
    have x2 := (Ext.refl (w.alloc (.cells #[.string ByteArray.empty, .slice none 0 0] 42))).alloc (.cells #[.string ByteArray.empty, .slice none 0 0] 45)
    have x3 := (Ext.refl ((w.alloc (.cells #[.string ByteArray.empty, .slice none 0 0] 42)).alloc (.cells #[.string ByteArray.empty, .slice none 0 0] 45))).alloc (.cells #[.int .i64 0] 3)
    have x4 := (Ext.refl (((w.alloc (.cells #[.string ByteArray.empty, .slice none 0 0] 42)).alloc (.cells #[.string ByteArray.empty, .slice none 0 0] 45)).alloc (.cells #[.int .i64 0] 3))).alloc (.stringIter s 0)
    refine ⟨((x1.trans x2).trans x3).trans x4, ((((Blk.lit w w.heap.size _ _ rfl).ext x2).ext x3).ext x4), ((Blk.lit _ (w.heap.size + 1) _ _ (by simp)).ext x3).ext x4, by omega, ?_, World.ownsRow_nil _ _ _ _, World.ownsRow_nil _ _ _ _, ?_, by simp [Value.ownBlock], by simp [Value.ownBlock], by simp [Value.ownBlock]⟩
    · have := World.iter_heap (((w.alloc (.cells #[.string ByteArray.empty, .slice none 0 0] 42)).alloc (.cells #[.string ByteArray.empty, .slice none 0 0] 45)).alloc (.cells #[.int .i64 0] 3)) s 0
      simpa using this
    · have := World.ownsRow_lit (base := w.heap.size + 2) (e := 3) (size := 1) ((w.alloc (.cells #[.string ByteArray.empty, .slice none 0 0] 42)).alloc (.cells #[.string ByteArray.empty, .slice none 0 0] 45)) #[.int .i64 0] 1 (by simp) (by simp [maxLen]) (by simp)
      have e : ((w.alloc (.cells #[.string ByteArray.empty, .slice none 0 0] 42)).alloc (.cells #[.string ByteArray.empty, .slice none 0 0] 45)).heap.size = w.heap.size + 2 := by simp
      rw [e] at this
      exact OwnsRow.ext this x4
  go_enter Tryd.func35, Tryd.ntmps35
  go_upto_region 6 with (fail)
  have hV' : V0 = _ := hV
  rw [show (ByteArray.empty) = ⟨#[]⟩ from rfl] at hV
  rw [← hV]
  rw [show w.heap.size + 1 + 1 + 1 = w.heap.size + 3 from rfl, show w.heap.size + 1 + 1 = w.heap.size + 2 from rfl]
  have HR := Lib.hid hR
  clear hR hV hV'
  generalize hkk : w.heap.size + 3 = k at *
  generalize w.heap.size + 2 = B2 at *
  clear hkk
  go_loopg [4, 5, 6, 7] s.size (fun gk l a v n wr => ∃ (vl va vv : Value) (pos : Nat) (st : RS), vl = l ∧ va = a ∧ vv = v ∧ n = .int .i64 st.n ∧ Hid (Rd w wr k s pos vl va vv st) ∧ Hid (readR (runesF s gk pos) st = readL s) ∧ s.size ≤ pos + gk ∧ pos ≤ s.size ∧ st.n ≤ pos ∧ st.V.length ≤ pos ∧ st.L.length ≤ pos ∧ st.A.length ≤ pos)
  case atStart => exact ⟨_, _, _, 0, ⟨[], [], 0, [], 0⟩, rfl, rfl, rfl, rfl, HR, Lib.hid rfl, by omega, by omega, by simp, by simp, by simp, by simp⟩
  case round =>
    obtain ⟨vl, va, vv, pos, ⟨L, V, v0, A, n⟩, hvl, hva, hvv, rfl, hrd, hrest, hfu, hps, hn, hV, hL, hA⟩ := hrel
    subst hvl hva hvv
    dsimp only at hn hV hL hA
    by_cases hp : pos < s.size
    · obtain ⟨g', rfl⟩ : ∃ g', gk = g' + 1 := ⟨gk - 1, by omega⟩
      have hnx : ∀ ty, (Instr.next (.pointer (some ⟨k, 0, none⟩)) true ty).run Tryd.prog wr = _ := fun ty => Lib.run_next_any_at wr k s pos ty hrd.out.it hp
      have hwd := decode_pos s pos hp
      have hwe := decode_end s pos hp
      have hr := hrest.out
      rw [runesF, if_pos hp, readR, List.foldl_cons] at hr
      obtain ⟨R, hR⟩ : ∃ R, (Utf8.decode s pos).1 = R := ⟨_, rfl⟩
      obtain ⟨K, hK⟩ : ∃ K, (Utf8.decode s pos).2 = K := ⟨_, rfl⟩
      have hR32 : R ≤ 2147483647 := by rw [← hR]; exact decode_le s pos
      rw [hR, hK] at hnx hr
      rw [hK] at hwd hwe
      have HD := Lib.hid (hrd.out.next (pos + K))
      generalize wr.iterAt k s (pos + K) = W at *
      have HRD := Lib.hid (show readR (runesF s g' (pos + K)) (readStep ⟨L, V, v0, A, n⟩ R) = readL s from hr)
      clear hr hR hK hrest hrd
      by_cases h1 : 49 ≤ R ∧ R ≤ 57
      · have e : readStep ⟨L, V, v0, A, n⟩ R = ⟨L, V, (R : Int) - 48, A, n⟩ := by rw [readStep, if_pos h1]
        rw [e] at HRD
        obtain ⟨g, cap, rfl, c0, f0⟩ := HD.out.row
        have HD2 := Lib.hid (HD.out.setV ((R : Int) - 48))
        dsimp only at c0 f0 HD2 ⊢
        obtain ⟨h1a, h1b⟩ := h1
        have i1 : (49 : Int) ≤ R := by omega
        have i2 : (R : Int) ≤ 57 := by omega
        clear HD e
        go_wp2_with fail
        go_roundg g'
        case measure => omega
        case rel => exact ⟨_, _, _, pos + K, ⟨L, V, (R : Int) - 48, A, n⟩, rfl, rfl, rfl, rfl, HD2, HRD, by omega, by omega, by simp; omega, by simp; omega, by simp; omega, by simp; omega⟩
      · by_cases h2 : R = 45
        · subst h2
          have e : readStep ⟨L, V, v0, A, n⟩ 45 = ⟨L, V, v0, A ++ [(n : Int)], n⟩ := by rw [readStep, if_neg h1, if_pos rfl]
          rw [e] at HRD
          obtain ⟨va2, w2, r2, D2⟩ := (HD.out.kept ((Ext.refl W).alloc (.cells #[.int .i64 (n : Int)] 3))).putA ⟨W.heap.size, 0, none⟩ n (by simp) (by dsimp only; omega) 40
          have HD2 := Lib.hid D2
          clear HD e D2 h1
          go_wp2_with (at_builtin; refine wpList_ran rfl _ _ rfl r2 ?_)
          go_roundg g'
          case measure => omega
          case rel => exact ⟨_, _, _, pos + K, ⟨L, V, v0, A ++ [(n : Int)], n⟩, rfl, rfl, rfl, rfl, HD2, HRD, by omega, by omega, by simp; omega, by simp; omega, by simp; omega, by simp; omega⟩
        · have C := Lib.hid (letter_any (R : Int) W)
          by_cases h3 : 97 ≤ R ∧ R ≤ 122
          · have e : readStep ⟨L, V, v0, A, n⟩ R = ⟨L ++ [UInt8.ofNat R], V ++ [v0], 0, A, n + 1⟩ := by rw [readStep, if_neg h1, if_neg h2, if_pos h3]
            rw [e] at HRD
            rw [decide_eq_true (show (97 : Int) ≤ R ∧ (R : Int) ≤ 122 by omega)] at C
            obtain ⟨h3a, h3b⟩ := h3
            have i1 : (97 : Int) ≤ R := by omega
            have i2 : (R : Int) ≤ 122 := by omega
            have hbt : ((UInt8.ofNat R).toNat : Int) = R := by simp; omega
            have HB := Lib.hid hbt
            clear e h1 h2 hbt
            go_wp2_with fail
            refine C.out.mono ?_; rintro e w1 ⟨rfl, x1⟩
            obtain ⟨vl2, w2, r2, D2⟩ := ((HD.out.kept x1).kept ((Ext.refl w1).alloc (.cells #[.int .u8 (R : Int)] 5))).putL ⟨w1.heap.size, 0, none⟩ (UInt8.ofNat R) (by rw [HB.out]; simp) (by dsimp only; omega) 22
            obtain ⟨vv2, w3, r3, D3⟩ := (D2.kept ((Ext.refl w2).alloc (.cells #[.int .i64 0] 3))).putV ⟨w2.heap.size, 0, none⟩ (by simp) (by dsimp only; omega) 40
            have HD3 := Lib.hid D3
            clear HD C D2 D3 x1
            go_wp2_with (first | (at_builtin; refine wpList_ran rfl _ _ rfl r2 ?_) | (at_builtin; refine wpList_ran rfl _ _ rfl r3 ?_))
            go_roundg g'
            case measure => omega
            case rel => exact ⟨_, _, _, pos + K, ⟨L ++ [UInt8.ofNat R], V ++ [v0], 0, A, n + 1⟩, rfl, rfl, rfl, by go_num, (Lib.hid (HD3.out.count (n + 1))), HRD, by omega, by omega, by simp; omega, by simp; omega, by simp; omega, by simp; omega⟩
          · rw [decide_eq_false (show ¬ ((97 : Int) ≤ R ∧ (R : Int) ≤ 122) by omega)] at C
            by_cases h4 : R = 46
            · subst h4
              have e : readStep ⟨L, V, v0, A, n⟩ 46 = ⟨L ++ [46], V ++ [v0], 0, A, n⟩ := by rw [readStep, if_neg h1, if_neg h2, if_neg h3, if_pos rfl]
              rw [e] at HRD
              clear e h1 h2 h3
              go_wp2_with fail
              refine C.out.mono ?_; rintro e w1 ⟨rfl, x1⟩
              obtain ⟨vl2, w2, r2, D2⟩ := ((HD.out.kept x1).kept ((Ext.refl w1).alloc (.cells #[.int .u8 46] 5))).putL ⟨w1.heap.size, 0, none⟩ 46 (by simp) (by dsimp only; omega) 22
              obtain ⟨vv2, w3, r3, D3⟩ := (D2.kept ((Ext.refl w2).alloc (.cells #[.int .i64 0] 3))).putV ⟨w2.heap.size, 0, none⟩ (by simp) (by dsimp only; omega) 40
              have HD3 := Lib.hid D3
              clear HD C D2 D3 x1
              go_wp2_with (first | (at_builtin; refine wpList_ran rfl _ _ rfl r2 ?_) | (at_builtin; refine wpList_ran rfl _ _ rfl r3 ?_))
              go_roundg g'
              case measure => omega
              case rel => exact ⟨_, _, _, pos + K, ⟨L ++ [46], V ++ [v0], 0, A, n⟩, rfl, rfl, rfl, rfl, (by exact HD3), HRD, by omega, by omega, by simp; omega, by simp; omega, by simp; omega, by simp; omega⟩
            · have e : readStep ⟨L, V, v0, A, n⟩ R = ⟨L, V, v0, A, n⟩ := by rw [readStep, if_neg h1, if_neg h2, if_neg h3, if_neg h4]
              rw [e] at HRD
              have d1 : decide ((49 : Int) ≤ R ∧ (R : Int) ≤ 57) = false := decide_eq_false (by omega)
              have d2 : ((R : Int) == 45) = false := by simp; omega
              have d4 : ((R : Int) == 46) = false := by simp; omega
              clear e h2 h3 h4
              by_cases h5 : 49 ≤ R
              · have i1 : (49 : Int) ≤ R := by omega
                have i2 : ¬ (R : Int) ≤ 57 := by omega
                clear h1 d1
                go_wp2_with fail
                refine C.out.mono ?_; rintro e w1 ⟨rfl, x1⟩
                have HD3 := Lib.hid (HD.out.kept x1)
                clear HD C x1
                go_wp2_with fail
                go_roundg g'
                case measure => omega
                case rel => exact ⟨_, _, _, pos + K, ⟨L, V, v0, A, n⟩, rfl, rfl, rfl, rfl, HD3, HRD, by omega, by omega, by simp; omega, by simp; omega, by simp; omega, by simp; omega⟩
              · have i1 : ¬ (49 : Int) ≤ R := by omega
                clear h1 d1
                go_wp2_with fail
                refine C.out.mono ?_; rintro e w1 ⟨rfl, x1⟩
                have HD3 := Lib.hid (HD.out.kept x1)
                clear HD C x1
                go_wp2_with fail
                go_roundg g'
                case measure => omega
                case rel => exact ⟨_, _, _, pos + K, ⟨L, V, v0, A, n⟩, rfl, rfl, rfl, rfl, HD3, HRD, by omega, by omega, by simp; omega, by simp; omega, by simp; omega, by simp; omega⟩
    · have hnx : ∀ ty, (Instr.next (.pointer (some ⟨k, 0, none⟩)) true ty).run Tryd.prog wr = _ := fun ty => Lib.run_next_end_at wr k s pos ty hrd.out.it hp
      have hst : (⟨L, V, v0, A, n⟩ : RS) = readL s := by
        have := hrest.out
        cases gk with
        | zero => exact this
        | succ g => rw [runesF, if_neg hp] at this; exact this
      have HS := Lib.hid hst
      clear hrest hst
      obtain ⟨Al, cl, rfl, _, _, _⟩ := row_slice hrd.out.l
      obtain ⟨Aa, ca, rfl, ha1, ha2, _⟩ := row_slice hrd.out.a
      obtain ⟨Av, cv, rfl, hv1, hv2, _⟩ := row_slice hrd.out.v
      have STR := Lib.hid (fun w' (h : w'.ownsRow (w.heap.size + 2) 5 1 (.slice Al L.length cl) L.length (bv L)) => show (convert 22 9 (.slice Al L.length cl)).run Tryd.prog w' = .ok (.string ⟨L.toArray⟩) w' from row_str h)
      have q0 : wr.cell? ⟨w.heap.size, 0, none⟩ = some (.string ByteArray.empty) := hrd.out.b0.cell 0
      have q1 : wr.cell? ⟨w.heap.size, 1, none⟩ = some (.slice none 0 0) := hrd.out.b0.cell 1
      have q2 : wr.cell? ⟨w.heap.size + 1, 0, none⟩ = some (.string ByteArray.empty) := hrd.out.b1.cell 0
      have q3 : wr.cell? ⟨w.heap.size + 1, 1, none⟩ = some (.slice none 0 0) := hrd.out.b1.cell 1
      have z0 := hrd.out.b0.free 0
      have z1 := hrd.out.b0.free 1
      have z2 := hrd.out.b1.free 0
      have z3 := hrd.out.b1.free 1
      go_wp2_with fail
      refine wp_region_noPanic ?_
      refine wp_region_held_drew (S := (fun w' => (convert 22 9 (.slice Al L.length cl)).run Tryd.prog w' = .ok (.string ⟨L.toArray⟩) w')) (by kernel_rfl) (STR.out wr.drew hrd.out.l.drew) (fun h0 => ?_)
      refine wpAnyH_take (i := 0) (oi := ?_) (v := ?_) ?_ (by kernel_rfl) (by kernel_rfl) (by kernel_rfl) ?_ ?_ h0 ?_
      rotate_left 2
      · simp only [List.getElem?_toArray, List.getElem?_cons_zero]; rfl
      · exact fun _ _ _ h => h
      · refine Or.inl ⟨by rfl, ?_⟩
        intro w hSw
        (try dsimp only at hSw)
        go_simp
        (try with_reducible rfl)
      (try simp only [Act.put, List.setIfInBounds_toArray, List.set_cons_zero, List.set_cons_succ])
      refine wpAnyH_take (i := 1) (oi := ?_) (v := ?_) ?_ (by kernel_rfl) (by kernel_rfl) (by kernel_rfl) ?_ ?_ h0 ?_
      rotate_left 2
      · simp only [List.getElem?_toArray, List.getElem?_cons_zero, List.getElem?_cons_succ]; rfl
      · exact fun _ _ _ h => h
      · refine Or.inl ⟨by rfl, ?_⟩
        intro w hSw
        (try dsimp only at hSw)
        go_simp
        (try with_reducible rfl)
      (try simp only [Act.put, List.setIfInBounds_toArray, List.set_cons_zero, List.set_cons_succ])
      refine wpAnyH_take (i := 2) (oi := ?_) (v := ?_) ?_ (by kernel_rfl) (by kernel_rfl) (by kernel_rfl) ?_ ?_ h0 ?_
      rotate_left 2
      · simp only [List.getElem?_toArray, List.getElem?_cons_zero, List.getElem?_cons_succ]; rfl
      · exact fun _ _ _ h => h
      · refine Or.inl ⟨by rfl, ?_⟩
        intro w hSw
        (try dsimp only at hSw)
        go_simp
        (try with_reducible rfl)
      (try simp only [Act.put, List.setIfInBounds_toArray, List.set_cons_zero, List.set_cons_succ])
      refine wpAnyH_take (i := 3) (oi := ?_) (v := ?_) ?_ (by kernel_rfl) (by kernel_rfl) (by kernel_rfl) ?_ ?_ h0 ?_
      rotate_left 2
      · simp only [List.getElem?_toArray, List.getElem?_cons_zero, List.getElem?_cons_succ]; rfl
      · exact fun _ _ _ h => h
      · refine Or.inl ⟨by rfl, ?_⟩
        intro w hSw
        (try dsimp only at hSw)
        go_simp
        (try with_reducible rfl)
      (try simp only [Act.put, List.setIfInBounds_toArray, List.set_cons_zero, List.set_cons_succ])
      refine wpAnyH_take (i := 4) (oi := ?_) (v := ?_) ?_ (by kernel_rfl) (by kernel_rfl) (by kernel_rfl) ?_ ?_ h0 ?_
      rotate_left 2
      · simp only [List.getElem?_toArray, List.getElem?_cons_zero, List.getElem?_cons_succ]; rfl
      · exact fun _ _ _ h => h
      · refine Or.inl ⟨by rfl, ?_⟩
        intro w hSw
        (try dsimp only at hSw)
        go_simp
        (try with_reducible rfl)
      (try simp only [Act.put, List.setIfInBounds_toArray, List.set_cons_zero, List.set_cons_succ])
      refine wpAnyH_take (i := 5) (oi := ?_) (v := ?_) ?_ (by kernel_rfl) (by kernel_rfl) (by kernel_rfl) ?_ ?_ h0 ?_
      rotate_left 2
      · simp only [List.getElem?_toArray, List.getElem?_cons_zero, List.getElem?_cons_succ]; rfl
      · exact fun _ _ _ h => h
      · refine Or.inl ⟨by rfl, ?_⟩
        intro w hSw
        (try dsimp only at hSw)
        go_simp
        (try with_reducible rfl)
      (try simp only [Act.put, List.setIfInBounds_toArray, List.set_cons_zero, List.set_cons_succ])
      refine wpAnyH_take (i := 6) (oi := ?_) (v := ?_) ?_ (by kernel_rfl) (by kernel_rfl) (by kernel_rfl) ?_ ?_ h0 ?_
      rotate_left 2
      · simp only [List.getElem?_toArray, List.getElem?_cons_zero, List.getElem?_cons_succ]; rfl
      · exact fun _ _ _ h => h
      · refine Or.inl ⟨by rfl, ?_⟩
        intro w hSw
        (try dsimp only at hSw)
        go_simp
        (try with_reducible rfl)
      (try simp only [Act.put, List.setIfInBounds_toArray, List.set_cons_zero, List.set_cons_succ])
      refine wpAnyH_take (i := 7) (oi := ?_) (v := ?_) ?_ (by kernel_rfl) (by kernel_rfl) (by kernel_rfl) ?_ ?_ h0 ?_
      rotate_left 2
      · simp only [List.getElem?_toArray, List.getElem?_cons_zero, List.getElem?_cons_succ]; rfl
      · exact fun _ _ _ h => h
      · refine Or.inl ⟨by rfl, ?_⟩
        intro w hSw
        (try dsimp only at hSw)
        go_simp
        (try with_reducible rfl)
      (try simp only [Act.put, List.setIfInBounds_toArray, List.set_cons_zero, List.set_cons_succ])
      refine wpAnyH_ready (rs := [8]) (by kernel_rfl) (by simp) ?_
      refine AllReadyH.cons (o := ?_) ?_ (fun K hK => ?_) AllReadyH.nil
      rotate_left
      · simp only [List.getElem?_toArray, List.getElem?_cons_zero, List.getElem?_cons_succ]; rfl
      go_simp
      have hlb : w.heap.size + 2 ≤ w.heap.size + 2 := Nat.le_refl _
      have l8 : ((wr.setCell ⟨w.heap.size, 0, none⟩ (.string ⟨L.toArray⟩)).setCell ⟨w.heap.size, 1, none⟩ (.slice Av (V.length + 1) cv)).drew.ownsRow (w.heap.size + 2) 5 1 (.slice Al L.length cl) L.length (bv L) := (ownsRow_setCell_below (ownsRow_setCell_below hrd.out.l (by show w.heap.size < _; omega) _) (by show w.heap.size < _; omega) _).drew
      refine hK.out _ _ (STR.out _ l8) (fun h1 => ?_)
      clear hK K
      (try simp only [Act.put, List.setIfInBounds_toArray, List.set_cons_zero, List.set_cons_succ])
      refine wpAnyH_ready (rs := [9]) (by kernel_rfl) (by simp) ?_
      refine AllReadyH.cons (o := ?_) ?_ (fun K hK => ?_) AllReadyH.nil
      rotate_left
      · simp only [List.getElem?_toArray, List.getElem?_cons_zero, List.getElem?_cons_succ]; rfl
      go_simp
      obtain ⟨WF, hWF⟩ : ∃ WF, WF = ((((wr.setCell ⟨w.heap.size, 0, none⟩ (.string ⟨L.toArray⟩)).setCell ⟨w.heap.size, 1, none⟩ (.slice Av (V.length + 1) cv)).setCell ⟨w.heap.size + 1, 0, none⟩ (.string ⟨L.toArray⟩)).setCell ⟨w.heap.size + 1, 1, none⟩ (.slice Aa A.length ca)).drew := ⟨_, rfl⟩
      rw [← hWF]
      have lt0 : w.heap.size < w.heap.size + 2 := by omega
      have lt1 : w.heap.size + 1 < w.heap.size + 2 := by omega
      have rows : ∀ (e : TypeId) (v : Value) (n : Nat) (xs : List Value), wr.ownsRow (w.heap.size + 2) e 1 v n xs → WF.ownsRow (w.heap.size + 2) e 1 v n xs := fun e v n xs h => by
        rw [hWF]
        exact (ownsRow_setCell_below (ownsRow_setCell_below (ownsRow_setCell_below (ownsRow_setCell_below h lt0 _) lt0 _) lt1 _) lt1 _).drew
      have l9 := rows _ _ _ _ hrd.out.l
      have a9 := rows _ _ _ _ hrd.out.a
      have v9 := rows _ _ _ _ hrd.out.v
      have k0 : Blk WF w.heap.size 42 [.string ⟨L.toArray⟩, .slice Av (V.length + 1) cv] := by
        rw [hWF]
        exact (((hrd.out.b0.set 0 (.string ⟨L.toArray⟩)).set 1 (.slice Av (V.length + 1) cv)).far (p := ⟨w.heap.size + 1, 0, none⟩) (by simp) _).far (p := ⟨w.heap.size + 1, 1, none⟩) (by simp) _
      have k1 : Blk WF (w.heap.size + 1) 45 [.string ⟨L.toArray⟩, .slice Aa A.length ca] := by
        rw [hWF]
        exact ((((hrd.out.b1.far (p := ⟨w.heap.size, 0, none⟩) (by simp) _).far (p := ⟨w.heap.size, 1, none⟩) (by simp) _).set 0 (.string ⟨L.toArray⟩)).set 1 (.slice Aa A.length ca))
      have x9 : Ext w WF := by
        rw [hWF]
        exact ((((hrd.out.x.setCell (p := ⟨w.heap.size, 0, none⟩) (Nat.le_refl _) _).setCell (p := ⟨w.heap.size, 1, none⟩) (Nat.le_refl _) _).setCell (p := ⟨w.heap.size + 1, 0, none⟩) (Nat.le_succ _) _).setCell (p := ⟨w.heap.size + 1, 1, none⟩) (Nat.le_succ _) _).drew
      have HQ := Lib.hid (show ReadQ w s (.returned (.tuple #[.agg #[.string ⟨L.toArray⟩, .slice Av (V.length + 1) cv], .agg #[.string ⟨L.toArray⟩, .slice Aa A.length ca]])) WF from by
        obtain ⟨A1, c1, e1, _, _, s1⟩ := row_slice a9
        cases e1
        obtain ⟨A2, c2, e2, _, _, s2⟩ := row_slice v9
        cases e2
        refine ⟨x9, ⟨⟨L.toArray⟩, V ++ [v0], Av, cv⟩, ⟨⟨L.toArray⟩, A, Aa, ca⟩, ?_, ?_, ?_, s2, s1, ?_, hv2, ha1, ha2, fun ad e => ?_, fun ad e => ?_⟩
        · simp [wpV]
        · rw [← HS.out]; rfl
        · rw [← HS.out]; rfl
        · simpa using hv1
        · have := v9.lt ad.block (by rw [show Av = some ad from e]; rfl); omega
        · have := a9.lt ad.block (by rw [show Aa = some ad from e]; rfl); omega)
      refine hK.out _ _ (STR.out _ l9) (fun h2 => ?_)
      clear hK K
      (try simp only [Act.put, List.setIfInBounds_toArray, List.set_cons_zero, List.set_cons_succ])
      refine wpAnyH_done (by kernel_rfl) ?_ _
      refine NoPanic.normal ?_
      clear h0 h1 h2 rows l8 l9 a9 v9
      go_wp2_with fail
      refine bodyPost_ret (results_boxes rfl _ _ w.heap.size (w.heap.size + 1) _ _ rfl rfl k0.range k1.range (Tryd.isAgg42 _) (Tryd.sizeOf42 _) (Tryd.isAgg45 _) (Tryd.sizeOf45 _)) rfl ?_
      exact HQ.out
end L10
end Go.Proofs.YtijhabhnhglhgaaDoor

