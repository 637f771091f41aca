/- The landed kinds of lines: a map of closures. Written by gen14/kmap.py. -/
import Derived.Test.YtaieafmgeheomaaDoorNums14
import Derived.Test.YtaieafmgeheomaaDoorMapG11
import Derived.Test.YtaieafmgeheomaaDoorBut11
import Derived.Laws.EntriesVeiled
namespace Go.Proofs.YtaieafmgeheomaaDoor
open Go.RowKit
namespace L14
open L11

/-- Which name it is. -/
def nameJ (s : ByteArray) : Option Nat := if s = nameB 0 then some 0 else if s = nameB 1 then some 1 else if s = nameB 2 then some 2 else if s = nameB 3 then some 3 else if s = nameB 4 then some 4 else if s = nameB 5 then some 5 else if s = nameB 6 then some 6 else if s = nameB 7 then some 7 else if s = nameB 8 then some 8 else if s = nameB 9 then some 9 else none
theorem nameJ_B : ∀ j, j < 10 → nameJ (nameB j) = some j := by
  intro j hj
  have hj' : j = 0 ∨ j = 1 ∨ j = 2 ∨ j = 3 ∨ j = 4 ∨ j = 5 ∨ j = 6 ∨ j = 7 ∨ j = 8 ∨ j = 9 := by omega
  rcases hj' with rfl | rfl | rfl | rfl | rfl | rfl | rfl | rfl | rfl | rfl <;> decide
theorem nameJ_eq {s : ByteArray} {j : Nat} (h : nameJ s = some j) : j < 10 ∧ s = nameB j := by
  unfold nameJ at h
  repeat' split at h
  all_goals first | (cases h; exact ⟨by omega, by assumption⟩) | cases h
/-- Where a kind's function lies, when the map lies in block b. -/
def nbK (b j : Nat) : Nat := b + 1 + 2 * (if j < 2 then j else j - 1)
theorem nbK_ne (b j : Nat) : ¬ nbK b j = b := by unfold nbK; omega
def zeroV : Value := .agg #[.nilFunc, .nilFunc]
def kindV (b j : Nat) : Value := if j = 2 then .agg #[.func (.func 25) #[] #[], .func (.func 26) #[] #[]] else .agg #[.func (.func 34) #[] #[], .func (.func 35) #[] #[.pointer (some ⟨nbK b j, 0, none⟩)]]
def codeV (b j : Nat) : Value := if j = 10 then zeroV else kindV b j
theorem codeV_inj {b j k : Nat} (hj : j ≤ 10) (hk : k ≤ 10) (h : codeV b j = codeV b k) : j = k := by
  by_cases j10 : j = 10 <;> by_cases k10 : k = 10 <;> by_cases j2 : j = 2 <;> by_cases k2 : k = 2 <;> simp [codeV, kindV, zeroV, j10, k10, j2, k2] at h ⊢
  simp only [nbK] at h
  split at h <;> split at h <;> omega
open Classical in
noncomputable def kindR (b : Nat) (v : Value) : Option (DataW Unit × List MemPlace) := if h : ∃ j, j ≤ 10 ∧ v = codeV b j then some (.lit (.int .i64 (h.choose : Int)), []) else none
theorem kindR_code {b j : Nat} (hj : j ≤ 10) : kindR b (codeV b j) = some (.lit (.int .i64 j), []) := by
  have h : ∃ k, k ≤ 10 ∧ codeV b j = codeV b k := ⟨j, hj, rfl⟩
  have e : h.choose = j := (codeV_inj hj h.choose_spec.1 h.choose_spec.2).symm
  unfold kindR
  rw [dif_pos h, e]
theorem kindR_inv {b j : Nat} {v : Value} {ps : List MemPlace} (h : kindR b v = some (.lit (.int .i64 (j : Int)), ps)) : v = codeV b j := by
  unfold kindR at h
  split at h
  · rename_i hx
    simp only [Option.some.injEq, Prod.mk.injEq, DataW.lit.injEq, Lit.int.injEq, true_and] at h
    have : hx.choose = j := by omega
    rw [← this]; exact hx.choose_spec.2
  · cases h
/-- The map's entries. -/
def kindM (x : Value) : Option (DataW Unit) := match x with
  | .string s => (nameJ s).map fun (j : Nat) => .lit (.int .i64 (j : Int))
  | _ => none
/-- The kinds are there, in block b. -/
structure KindsAt (w : World) (b : Nat) : Prop where
  map : MapG Tryd.prog 9 (kindR b) w b 10 kindM
  fn : ∀ j, j < 10 → j ≠ 2 → Blk w (nbK b j) 59 [.func (.func (fK j)) #[] #[]]
theorem KindsAt.ext {w w' : World} {b : Nat} (h : KindsAt w b) (x : Ext w w') : KindsAt w' b := ⟨h.map.block (x.block b h.map.lt), fun j hj h2 => (h.fn j hj h2).ext x⟩
theorem nameB_size (j : Nat) : (nameB j).size ≤ maxLen := by
  have : (nameL j).length ≤ 9 := by unfold nameL; split <;> decide
  show (nameL j).toArray.size ≤ maxLen
  rw [List.size_toArray]
  exact Nat.le_trans this (by decide)
theorem skeyed : Maps.Keyed Tryd.prog 9 := Maps.string_keyed Tryd.underlying9
theorem zero_kind (w : World) : (zeroValue 57).run Tryd.prog w = .ok zeroV w := by kernel_rfl
theorem KindsAt.look {w : World} {b : Nat} (h : KindsAt w b) (s : ByteArray) (hs : s.size ≤ 1000000) :
    (Instr.lookup 51 (.map (some b)) (.string s) true).run Tryd.prog w = .ok (.tuple #[codeV b ((nameJ s).getD 10), .bool (nameJ s).isSome]) w := by
  obtain ⟨v, ps, hr, hv⟩ := h.map.look skeyed Tryd.underlying51 (zero_kind w) (kindR_code (b := b) (j := 10) (Nat.le_refl _)) (WideMaps.keyOf_string_mk Tryd.underlying9 (Nat.le_trans hs (by decide)))
  rw [hr]
  have e : kindM (.string s) = (nameJ s).map fun (j : Nat) => (DataW.lit (.int .i64 (j : Int)) : DataW Unit) := rfl
  rw [e] at hv ⊢
  cases hj : nameJ s with
  | none => rw [hj] at hv; rw [kindR_inv hv]; rfl
  | some j => rw [hj] at hv; rw [kindR_inv hv]; rfl
theorem KindsAt.look1 {w : World} {b : Nat} (h : KindsAt w b) (j : Nat) (hj : j < 10) :
    (Instr.lookup 51 (.map (some b)) (.string (nameB j)) false).run Tryd.prog w = .ok (kindV b j) w := by
  obtain ⟨v, ps, hr, hv⟩ := h.map.look1 skeyed Tryd.underlying51 (zero_kind w) (kindR_code (b := b) (j := 10) (Nat.le_refl _)) (WideMaps.keyOf_string_mk Tryd.underlying9 (nameB_size j))
  rw [hr]
  have e : kindM (.string (nameB j)) = some (DataW.lit (.int .i64 (j : Int)) : DataW Unit) := by
    have e0 : kindM (.string (nameB j)) = (nameJ (nameB j)).map fun (j : Nat) => (DataW.lit (.int .i64 (j : Int)) : DataW Unit) := rfl
    rw [e0, nameJ_B j hj]; rfl
  rw [e] at hv
  rw [kindR_inv hv, codeV, if_neg (by omega)]

set_option maxRecDepth 100000 in
theorem once_any (s f : Nat) (w : World) (hs : w.heap.size = s) : Calls Tryd.prog 22 #[.func (.func f) #[] #[]] w (fun e w' => e = .returned (.agg #[.func (.func 34) #[] #[], .func (.func 35) #[] #[.pointer (some ⟨s, 0, none⟩)]]) ∧
    w'.heap.size = s + 2 ∧ Blk w' s 59 [.func (.func f) #[] #[]] ∧ Ext w w') := by
  subst hs
  go_enter Tryd.func22, Tryd.ntmps22
  go_wp2_with fail
  refine bodyPost_ret (v := .agg #[.func (.func 34) #[] #[], .func (.func 35) #[] #[.pointer (some ⟨w.heap.size, 0, none⟩)]]) (by simp [results, Tryd.results22, go_sem]) rfl ⟨rfl, ?_, ?_, ?_⟩
  · simp
  · have h1 : Blk (w.alloc (.cells #[.func (.func f) #[] #[]] 59)) w.heap.size 59 [.func (.func f) #[] #[]] := Blk.lit _ _ _ _ rfl
    simpa [go_sem] using h1.ext ((Ext.refl _).alloc (.cells #[.func (.func 34) #[] #[], .func (.func 35) #[] #[.pointer (some ⟨w.heap.size, 0, none⟩)]] 57))
  · exact ((Ext.refl _).alloc _).alloc _
theorem key_string {x : Value} {l : Lit} (h : keyOf Tryd.prog 9 x = some l) : ∃ s, x = .string s := by
  cases x <;> simp [keyOf, Tryd.underlying9, mapKey] at h
  exact ⟨_, rfl⟩
open Classical in
theorem kindM_eq (s : ByteArray) : kindM (.string s) = ((if Value.string s = Value.string (nameB 9) then some (DataW.lit (Lit.int IntKind.i64 ((9 : Nat) : Int))) else if Value.string s = Value.string (nameB 8) then some (DataW.lit (Lit.int IntKind.i64 ((8 : Nat) : Int))) else if Value.string s = Value.string (nameB 7) then some (DataW.lit (Lit.int IntKind.i64 ((7 : Nat) : Int))) else if Value.string s = Value.string (nameB 6) then some (DataW.lit (Lit.int IntKind.i64 ((6 : Nat) : Int))) else if Value.string s = Value.string (nameB 5) then some (DataW.lit (Lit.int IntKind.i64 ((5 : Nat) : Int))) else if Value.string s = Value.string (nameB 4) then some (DataW.lit (Lit.int IntKind.i64 ((4 : Nat) : Int))) else if Value.string s = Value.string (nameB 3) then some (DataW.lit (Lit.int IntKind.i64 ((3 : Nat) : Int))) else if Value.string s = Value.string (nameB 2) then some (DataW.lit (Lit.int IntKind.i64 ((2 : Nat) : Int))) else if Value.string s = Value.string (nameB 1) then some (DataW.lit (Lit.int IntKind.i64 ((1 : Nat) : Int))) else if Value.string s = Value.string (nameB 0) then some (DataW.lit (Lit.int IntKind.i64 ((0 : Nat) : Int))) else none) : Option (DataW Unit)) := by
  have e0 : kindM (.string s) = (nameJ s).map fun (j : Nat) => (DataW.lit (.int .i64 (j : Int)) : DataW Unit) := rfl
  rw [e0]
  cases hj : nameJ s with
  | none =>
    unfold nameJ at hj
    repeat' split at hj
    all_goals first | cases hj | skip
    rename_i h0 h1 h2 h3 h4 h5 h6 h7 h8 h9
    have n : ∀ j, Value.string s = Value.string (nameB j) → s = nameB j := fun j h => by injection h
    rw [if_neg (fun h => h9 (n 9 h)), if_neg (fun h => h8 (n 8 h)), if_neg (fun h => h7 (n 7 h)), if_neg (fun h => h6 (n 6 h)), if_neg (fun h => h5 (n 5 h)), if_neg (fun h => h4 (n 4 h)), if_neg (fun h => h3 (n 3 h)), if_neg (fun h => h2 (n 2 h)), if_neg (fun h => h1 (n 1 h)), if_neg (fun h => h0 (n 0 h))]
    rfl
  | some j =>
    obtain ⟨hj1, rfl⟩ := nameJ_eq hj
    have hj' : j = 0 ∨ j = 1 ∨ j = 2 ∨ j = 3 ∨ j = 4 ∨ j = 5 ∨ j = 6 ∨ j = 7 ∨ j = 8 ∨ j = 9 := by omega
    have n : ∀ i k, i < 10 → k < 10 → i ≠ k → ¬ Value.string (nameB i) = Value.string (nameB k) := fun i k hi hk hne h => by
      injection h with h
      have := congrArg nameJ h
      rw [nameJ_B i hi, nameJ_B k hk] at this
      exact hne (Option.some.inj this)
    rcases hj' with rfl | rfl | rfl | rfl | rfl | rfl | rfl | rfl | rfl | rfl
    · show some _ = _; rw [if_neg (n 0 9 (by decide) (by decide) (by decide)), if_neg (n 0 8 (by decide) (by decide) (by decide)), if_neg (n 0 7 (by decide) (by decide) (by decide)), if_neg (n 0 6 (by decide) (by decide) (by decide)), if_neg (n 0 5 (by decide) (by decide) (by decide)), if_neg (n 0 4 (by decide) (by decide) (by decide)), if_neg (n 0 3 (by decide) (by decide) (by decide)), if_neg (n 0 2 (by decide) (by decide) (by decide)), if_neg (n 0 1 (by decide) (by decide) (by decide)), if_pos rfl]
    · show some _ = _; rw [if_neg (n 1 9 (by decide) (by decide) (by decide)), if_neg (n 1 8 (by decide) (by decide) (by decide)), if_neg (n 1 7 (by decide) (by decide) (by decide)), if_neg (n 1 6 (by decide) (by decide) (by decide)), if_neg (n 1 5 (by decide) (by decide) (by decide)), if_neg (n 1 4 (by decide) (by decide) (by decide)), if_neg (n 1 3 (by decide) (by decide) (by decide)), if_neg (n 1 2 (by decide) (by decide) (by decide)), if_pos rfl]
    · show some _ = _; rw [if_neg (n 2 9 (by decide) (by decide) (by decide)), if_neg (n 2 8 (by decide) (by decide) (by decide)), if_neg (n 2 7 (by decide) (by decide) (by decide)), if_neg (n 2 6 (by decide) (by decide) (by decide)), if_neg (n 2 5 (by decide) (by decide) (by decide)), if_neg (n 2 4 (by decide) (by decide) (by decide)), if_neg (n 2 3 (by decide) (by decide) (by decide)), if_pos rfl]
    · show some _ = _; rw [if_neg (n 3 9 (by decide) (by decide) (by decide)), if_neg (n 3 8 (by decide) (by decide) (by decide)), if_neg (n 3 7 (by decide) (by decide) (by decide)), if_neg (n 3 6 (by decide) (by decide) (by decide)), if_neg (n 3 5 (by decide) (by decide) (by decide)), if_neg (n 3 4 (by decide) (by decide) (by decide)), if_pos rfl]
    · show some _ = _; rw [if_neg (n 4 9 (by decide) (by decide) (by decide)), if_neg (n 4 8 (by decide) (by decide) (by decide)), if_neg (n 4 7 (by decide) (by decide) (by decide)), if_neg (n 4 6 (by decide) (by decide) (by decide)), if_neg (n 4 5 (by decide) (by decide) (by decide)), if_pos rfl]
    · show some _ = _; rw [if_neg (n 5 9 (by decide) (by decide) (by decide)), if_neg (n 5 8 (by decide) (by decide) (by decide)), if_neg (n 5 7 (by decide) (by decide) (by decide)), if_neg (n 5 6 (by decide) (by decide) (by decide)), if_pos rfl]
    · show some _ = _; rw [if_neg (n 6 9 (by decide) (by decide) (by decide)), if_neg (n 6 8 (by decide) (by decide) (by decide)), if_neg (n 6 7 (by decide) (by decide) (by decide)), if_pos rfl]
    · show some _ = _; rw [if_neg (n 7 9 (by decide) (by decide) (by decide)), if_neg (n 7 8 (by decide) (by decide) (by decide)), if_pos rfl]
    · show some _ = _; rw [if_neg (n 8 9 (by decide) (by decide) (by decide)), if_pos rfl]
    · show some _ = _; rw [if_pos rfl]
open Classical in
/-- What is stored in a map, and that nothing is made. -/
theorem store_sized {K : TypeId} {R : Value → Option (DataW Unit × List MemPlace)} {w : World} {b n : Nat} {m : Value → Option (DataW Unit)} (h : MapG Tryd.prog K R w b n m) (law : Maps.Keyed Tryd.prog K) {t e : TypeId} (ht : Tryd.prog.underlying t = some (.map K e)) (hn : n < maxLen) {x : Value} {l : Lit} (hx : keyOf Tryd.prog K x = some l)
    {v : Value} {d : DataW Unit} {ps : List MemPlace} (hv : R v = some (d, ps)) :
    ∃ w', (Instr.mapUpdate t (.map (some b)) x v).run Tryd.prog w = .ok () w' ∧ MapG Tryd.prog K R w' b (n + 1) (fun y => if y = x then some d else m y) ∧ w.grownBy w' (some b) ∧ w'.heap.size = w.heap.size := by
  obtain ⟨D, ho, q⟩ := h
  have hD : Maps.IsMap D := ho.isMap
  obtain ⟨w', hr, ho', hg⟩ := ho.store law ht hn hx hv
  have hk : WideAt.IsKeyLit l := law.key hx
  refine ⟨w', hr, ⟨_, ho', fun y ly hy => ?_⟩, hg.grown, ?_⟩
  · by_cases e : y = x
    · subst e
      rw [hy] at hx
      cases hx
      simp only [if_true]
      exact ⟨Maps.has_put_same hD hk _, fun p' e' z => by cases e'; exact Maps.atKey_put_same hD hk _ _⟩
    · simp only [if_neg e]
      have hne : ly ≠ l := fun h => e (law.inj hy (by rw [h]; exact hx))
      rw [Maps.has_put_other hne]
      exact ⟨(q y ly hy).1, fun p' e' z => by rw [Maps.atKey_put_other hne]; exact (q y ly hy).2 p' e' z⟩
  · obtain ⟨es, clock, es', clock', _, rfl⟩ := hg
    exact Array.size_setIfInBounds ..
-- KINDS
set_option maxRecDepth 100000 in
set_option maxHeartbeats 4000000 in
theorem kinds_any (w : World) : Calls Tryd.prog 21 #[] w (fun e w' => e = .returned (.map (some w.heap.size)) ∧ KindsAt w' w.heap.size ∧ Ext w w') := by
  have hmm := @run_makeMap Tryd.prog
  go_enter Tryd.func21, Tryd.ntmps21
  go_wp2_with fail
  obtain ⟨v, hv⟩ : ∃ v, v = w.alloc (.map #[] 0) := ⟨_, rfl⟩
  obtain ⟨b, hb⟩ : ∃ b, b = w.heap.size := ⟨_, rfl⟩
  have M : MapG Tryd.prog 9 (kindR b) v b 0 (fun _ => none) := by rw [hv, hb]; exact MapG.made w
  have hz : v.heap.size = b + 1 := by rw [hv, hb]; simp
  have B : But (fun k => k = b) w v := by rw [hv]; exact But.alloc w _
  rw [← hv, ← hb]
  have HB := Lib.hid hb
  clear hv hb
  refine (once_any (nbK b 0) 23 v (by have := hz; simp only [nbK] at *; simp at *; omega)).mono ?_
  rintro e w0 ⟨rfl, hz0, hc0, x0⟩
  have N0 := M.block (x0.block b M.lt)
  have B0 := B.trans (But.of_ext (S := fun k => k = b) x0) (fun i h => .inl h)
  obtain ⟨v0, r0, M0, g0, s0⟩ := store_sized N0 skeyed Tryd.underlying51 (by decide) (WideMaps.keyOf_string_mk Tryd.underlying9 (s := ⟨#[119, 105, 100, 116, 104]⟩) (by decide)) (kindR_code (b := b) (j := 0) (by decide))
  have C0 := B0.trans (But.of_grown (S := fun k => k = b) g0 (fun g h => (Option.some.inj h).symm)) (fun i h => .inl h)
  have sz0 : v0.heap.size = b + 3 := by have := hz0; rw [s0]; simp only [nbK] at *; simp at *; omega
  rw [show codeV b 0 = .agg #[.func (.func 34) #[] #[], .func (.func 35) #[] #[.pointer (some ⟨nbK b 0, 0, none⟩)]] from rfl] at r0
  go_wp2_with fail
  clear r0
  refine (once_any (nbK b 1) 24 v0 (by have := sz0; simp only [nbK] at *; simp at *; omega)).mono ?_
  rintro e w1 ⟨rfl, hz1, hc1, x1⟩
  have N1 := M0.block (x1.block b M0.lt)
  have B1 := C0.trans (But.of_ext (S := fun k => k = b) x1) (fun i h => .inl h)
  obtain ⟨v1, r1, M1, g1, s1⟩ := store_sized N1 skeyed Tryd.underlying51 (by decide) (WideMaps.keyOf_string_mk Tryd.underlying9 (s := ⟨#[115, 112, 97, 99, 101]⟩) (by decide)) (kindR_code (b := b) (j := 1) (by decide))
  have C1 := B1.trans (But.of_grown (S := fun k => k = b) g1 (fun g h => (Option.some.inj h).symm)) (fun i h => .inl h)
  have sz1 : v1.heap.size = b + 5 := by have := hz1; rw [s1]; simp only [nbK] at *; simp at *; omega
  rw [show codeV b 1 = .agg #[.func (.func 34) #[] #[], .func (.func 35) #[] #[.pointer (some ⟨nbK b 1, 0, none⟩)]] from rfl] at r1
  obtain ⟨v2, r2, M2, g2, s2⟩ := store_sized M1 skeyed Tryd.underlying51 (by decide) (WideMaps.keyOf_string_mk Tryd.underlying9 (s := ⟨#[115, 104, 97, 112, 101]⟩) (by decide)) (kindR_code (b := b) (j := 2) (by decide))
  have C2 := C1.trans (But.of_grown (S := fun k => k = b) g2 (fun g h => (Option.some.inj h).symm)) (fun i h => .inl h)
  have sz2 : v2.heap.size = b + 5 := by have := sz1; rw [s2]; simp only [nbK] at *; simp at *; omega
  rw [show codeV b 2 = .agg #[.func (.func 25) #[] #[], .func (.func 26) #[] #[]] from rfl] at r2
  go_wp2_with fail
  clear r1 r2
  refine (once_any (nbK b 3) 27 v2 (by have := sz2; simp only [nbK] at *; simp at *; omega)).mono ?_
  rintro e w3 ⟨rfl, hz3, hc3, x3⟩
  have N3 := M2.block (x3.block b M2.lt)
  have B3 := C2.trans (But.of_ext (S := fun k => k = b) x3) (fun i h => .inl h)
  obtain ⟨v3, r3, M3, g3, s3⟩ := store_sized N3 skeyed Tryd.underlying51 (by decide) (WideMaps.keyOf_string_mk Tryd.underlying9 (s := ⟨#[104, 97, 110, 103]⟩) (by decide)) (kindR_code (b := b) (j := 3) (by decide))
  have C3 := B3.trans (But.of_grown (S := fun k => k = b) g3 (fun g h => (Option.some.inj h).symm)) (fun i h => .inl h)
  have sz3 : v3.heap.size = b + 7 := by have := hz3; rw [s3]; simp only [nbK] at *; simp at *; omega
  rw [show codeV b 3 = .agg #[.func (.func 34) #[] #[], .func (.func 35) #[] #[.pointer (some ⟨nbK b 3, 0, none⟩)]] from rfl] at r3
  go_wp2_with fail
  clear r3
  refine (once_any (nbK b 4) 28 v3 (by have := sz3; simp only [nbK] at *; simp at *; omega)).mono ?_
  rintro e w4 ⟨rfl, hz4, hc4, x4⟩
  have N4 := M3.block (x4.block b M3.lt)
  have B4 := C3.trans (But.of_ext (S := fun k => k = b) x4) (fun i h => .inl h)
  obtain ⟨v4, r4, M4, g4, s4⟩ := store_sized N4 skeyed Tryd.underlying51 (by decide) (WideMaps.keyOf_string_mk Tryd.underlying9 (s := ⟨#[112, 97, 114, 116, 115]⟩) (by decide)) (kindR_code (b := b) (j := 4) (by decide))
  have C4 := B4.trans (But.of_grown (S := fun k => k = b) g4 (fun g h => (Option.some.inj h).symm)) (fun i h => .inl h)
  have sz4 : v4.heap.size = b + 9 := by have := hz4; rw [s4]; simp only [nbK] at *; simp at *; omega
  rw [show codeV b 4 = .agg #[.func (.func 34) #[] #[], .func (.func 35) #[] #[.pointer (some ⟨nbK b 4, 0, none⟩)]] from rfl] at r4
  go_wp2_with fail
  clear r4
  refine (once_any (nbK b 5) 29 v4 (by have := sz4; simp only [nbK] at *; simp at *; omega)).mono ?_
  rintro e w5 ⟨rfl, hz5, hc5, x5⟩
  have N5 := M4.block (x5.block b M4.lt)
  have B5 := C4.trans (But.of_ext (S := fun k => k = b) x5) (fun i h => .inl h)
  obtain ⟨v5, r5, M5, g5, s5⟩ := store_sized N5 skeyed Tryd.underlying51 (by decide) (WideMaps.keyOf_string_mk Tryd.underlying9 (s := ⟨#[98, 97, 100]⟩) (by decide)) (kindR_code (b := b) (j := 5) (by decide))
  have C5 := B5.trans (But.of_grown (S := fun k => k = b) g5 (fun g h => (Option.some.inj h).symm)) (fun i h => .inl h)
  have sz5 : v5.heap.size = b + 11 := by have := hz5; rw [s5]; simp only [nbK] at *; simp at *; omega
  rw [show codeV b 5 = .agg #[.func (.func 34) #[] #[], .func (.func 35) #[] #[.pointer (some ⟨nbK b 5, 0, none⟩)]] from rfl] at r5
  go_wp2_with fail
  clear r5
  refine (once_any (nbK b 6) 30 v5 (by have := sz5; simp only [nbK] at *; simp at *; omega)).mono ?_
  rintro e w6 ⟨rfl, hz6, hc6, x6⟩
  have N6 := M5.block (x6.block b M5.lt)
  have B6 := C5.trans (But.of_ext (S := fun k => k = b) x6) (fun i h => .inl h)
  obtain ⟨v6, r6, M6, g6, s6⟩ := store_sized N6 skeyed Tryd.underlying51 (by decide) (WideMaps.keyOf_string_mk Tryd.underlying9 (s := ⟨#[101, 120, 116, 114, 97]⟩) (by decide)) (kindR_code (b := b) (j := 6) (by decide))
  have C6 := B6.trans (But.of_grown (S := fun k => k = b) g6 (fun g h => (Option.some.inj h).symm)) (fun i h => .inl h)
  have sz6 : v6.heap.size = b + 13 := by have := hz6; rw [s6]; simp only [nbK] at *; simp at *; omega
  rw [show codeV b 6 = .agg #[.func (.func 34) #[] #[], .func (.func 35) #[] #[.pointer (some ⟨nbK b 6, 0, none⟩)]] from rfl] at r6
  go_wp2_with fail
  clear r6
  refine (once_any (nbK b 7) 31 v6 (by have := sz6; simp only [nbK] at *; simp at *; omega)).mono ?_
  rintro e w7 ⟨rfl, hz7, hc7, x7⟩
  have N7 := M6.block (x7.block b M6.lt)
  have B7 := C6.trans (But.of_ext (S := fun k => k = b) x7) (fun i h => .inl h)
  obtain ⟨v7, r7, M7, g7, s7⟩ := store_sized N7 skeyed Tryd.underlying51 (by decide) (WideMaps.keyOf_string_mk Tryd.underlying9 (s := ⟨#[112, 101, 110, 97, 108, 116, 105, 101, 115]⟩) (by decide)) (kindR_code (b := b) (j := 7) (by decide))
  have C7 := B7.trans (But.of_grown (S := fun k => k = b) g7 (fun g h => (Option.some.inj h).symm)) (fun i h => .inl h)
  have sz7 : v7.heap.size = b + 15 := by have := hz7; rw [s7]; simp only [nbK] at *; simp at *; omega
  rw [show codeV b 7 = .agg #[.func (.func 34) #[] #[], .func (.func 35) #[] #[.pointer (some ⟨nbK b 7, 0, none⟩)]] from rfl] at r7
  go_wp2_with fail
  clear r7
  refine (once_any (nbK b 8) 32 v7 (by have := sz7; simp only [nbK] at *; simp at *; omega)).mono ?_
  rintro e w8 ⟨rfl, hz8, hc8, x8⟩
  have N8 := M7.block (x8.block b M7.lt)
  have B8 := C7.trans (But.of_ext (S := fun k => k = b) x8) (fun i h => .inl h)
  obtain ⟨v8, r8, M8, g8, s8⟩ := store_sized N8 skeyed Tryd.underlying51 (by decide) (WideMaps.keyOf_string_mk Tryd.underlying9 (s := ⟨#[100, 101, 109, 101, 114, 105, 116, 115]⟩) (by decide)) (kindR_code (b := b) (j := 8) (by decide))
  have C8 := B8.trans (But.of_grown (S := fun k => k = b) g8 (fun g h => (Option.some.inj h).symm)) (fun i h => .inl h)
  have sz8 : v8.heap.size = b + 17 := by have := hz8; rw [s8]; simp only [nbK] at *; simp at *; omega
  rw [show codeV b 8 = .agg #[.func (.func 34) #[] #[], .func (.func 35) #[] #[.pointer (some ⟨nbK b 8, 0, none⟩)]] from rfl] at r8
  go_wp2_with fail
  clear r8
  refine (once_any (nbK b 9) 33 v8 (by have := sz8; simp only [nbK] at *; simp at *; omega)).mono ?_
  rintro e w9 ⟨rfl, hz9, hc9, x9⟩
  have N9 := M8.block (x9.block b M8.lt)
  have B9 := C8.trans (But.of_ext (S := fun k => k = b) x9) (fun i h => .inl h)
  obtain ⟨v9, r9, M9, g9, s9⟩ := store_sized N9 skeyed Tryd.underlying51 (by decide) (WideMaps.keyOf_string_mk Tryd.underlying9 (s := ⟨#[108, 111, 111, 115, 101]⟩) (by decide)) (kindR_code (b := b) (j := 9) (by decide))
  have C9 := B9.trans (But.of_grown (S := fun k => k = b) g9 (fun g h => (Option.some.inj h).symm)) (fun i h => .inl h)
  have sz9 : v9.heap.size = b + 19 := by have := hz9; rw [s9]; simp only [nbK] at *; simp at *; omega
  rw [show codeV b 9 = .agg #[.func (.func 34) #[] #[], .func (.func 35) #[] #[.pointer (some ⟨nbK b 9, 0, none⟩)]] from rfl] at r9
  go_wp2_with fail
  clear r9
  clear hmm
  have T9 := But.refl (fun k => k = b) v9
  have K9 := (But.of_grown (S := fun k => k = b) g9 (fun g h => (Option.some.inj h).symm)).trans T9 (fun i h => .inl h)
  have T8 := (But.of_ext (S := fun k => k = b) x9).trans ((But.of_grown (S := fun k => k = b) g9 (fun g h => (Option.some.inj h).symm)).trans T9 (fun i h => .inl h)) (fun i h => .inl h)
  have K8 := (But.of_grown (S := fun k => k = b) g8 (fun g h => (Option.some.inj h).symm)).trans T8 (fun i h => .inl h)
  have T7 := (But.of_ext (S := fun k => k = b) x8).trans ((But.of_grown (S := fun k => k = b) g8 (fun g h => (Option.some.inj h).symm)).trans T8 (fun i h => .inl h)) (fun i h => .inl h)
  have K7 := (But.of_grown (S := fun k => k = b) g7 (fun g h => (Option.some.inj h).symm)).trans T7 (fun i h => .inl h)
  have T6 := (But.of_ext (S := fun k => k = b) x7).trans ((But.of_grown (S := fun k => k = b) g7 (fun g h => (Option.some.inj h).symm)).trans T7 (fun i h => .inl h)) (fun i h => .inl h)
  have K6 := (But.of_grown (S := fun k => k = b) g6 (fun g h => (Option.some.inj h).symm)).trans T6 (fun i h => .inl h)
  have T5 := (But.of_ext (S := fun k => k = b) x6).trans ((But.of_grown (S := fun k => k = b) g6 (fun g h => (Option.some.inj h).symm)).trans T6 (fun i h => .inl h)) (fun i h => .inl h)
  have K5 := (But.of_grown (S := fun k => k = b) g5 (fun g h => (Option.some.inj h).symm)).trans T5 (fun i h => .inl h)
  have T4 := (But.of_ext (S := fun k => k = b) x5).trans ((But.of_grown (S := fun k => k = b) g5 (fun g h => (Option.some.inj h).symm)).trans T5 (fun i h => .inl h)) (fun i h => .inl h)
  have K4 := (But.of_grown (S := fun k => k = b) g4 (fun g h => (Option.some.inj h).symm)).trans T4 (fun i h => .inl h)
  have T3 := (But.of_ext (S := fun k => k = b) x4).trans ((But.of_grown (S := fun k => k = b) g4 (fun g h => (Option.some.inj h).symm)).trans T4 (fun i h => .inl h)) (fun i h => .inl h)
  have K3 := (But.of_grown (S := fun k => k = b) g3 (fun g h => (Option.some.inj h).symm)).trans T3 (fun i h => .inl h)
  have T2 := (But.of_ext (S := fun k => k = b) x3).trans ((But.of_grown (S := fun k => k = b) g3 (fun g h => (Option.some.inj h).symm)).trans T3 (fun i h => .inl h)) (fun i h => .inl h)
  have T1 := (But.of_grown (S := fun k => k = b) g2 (fun g h => (Option.some.inj h).symm)).trans T2 (fun i h => .inl h)
  have K1 := (But.of_grown (S := fun k => k = b) g1 (fun g h => (Option.some.inj h).symm)).trans T1 (fun i h => .inl h)
  have T0 := (But.of_ext (S := fun k => k = b) x1).trans ((But.of_grown (S := fun k => k = b) g1 (fun g h => (Option.some.inj h).symm)).trans T1 (fun i h => .inl h)) (fun i h => .inl h)
  have K0 := (But.of_grown (S := fun k => k = b) g0 (fun g h => (Option.some.inj h).symm)).trans T0 (fun i h => .inl h)
  go_ret
  rw [← HB.out]
  refine ⟨rfl, ⟨M9.congr ?_, ?_⟩, C9.ext_all (fun k h => by rw [h, HB.out]; exact Nat.le_refl _)⟩
  · intro x l hx
    obtain ⟨s, rfl⟩ := key_string hx
    exact kindM_eq s
  · intro j hj h2
    have hj' : j = 0 ∨ j = 1 ∨ j = 3 ∨ j = 4 ∨ j = 5 ∨ j = 6 ∨ j = 7 ∨ j = 8 ∨ j = 9 := by omega
    rcases hj' with rfl | rfl | rfl | rfl | rfl | rfl | rfl | rfl | rfl
    · exact K0.blk hc0 (nbK_ne b 0)
    · exact K1.blk hc1 (nbK_ne b 1)
    · exact K3.blk hc3 (nbK_ne b 3)
    · exact K4.blk hc4 (nbK_ne b 4)
    · exact K5.blk hc5 (nbK_ne b 5)
    · exact K6.blk hc6 (nbK_ne b 6)
    · exact K7.blk hc7 (nbK_ne b 7)
    · exact K8.blk hc8 (nbK_ne b 8)
    · exact K9.blk hc9 (nbK_ne b 9)
end L14
end Go.Proofs.YtaieafmgeheomaaDoor

