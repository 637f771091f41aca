/- A list of breaks, sorted by the landed code: one's own list, by the library's sort.Slice. -/
import Derived.Test.YtmmgmcfhlhghoaaGreatDoorSrtH16
import Derived.Test.YtmmgmcfhlhghoaaGreatDoorSrtI16
import Derived.Test.YtmmgmcfhlhghoaaGreatDoorBefL16
import Derived.Test.YtmmgmcfhlhghoaaGreatDoorShelf
import Derived.Shelf.SlSortFuncK.WholeK
namespace Go.Proofs.YtmmgmcfhlhghoaaGreatDoor
open Go.Shelf Go.RowKit
open Go.Sort hiding Below
open Go.Lib hiding intOf
namespace L16
open Srt16

def encK (b : Brk) : List Value := [.int .i64 b.1, .int .i64 b.2.1, .int .i64 b.2.2]
theorem flat_enc (d : Array Brk) : Sort.flatK encK 3 d = (L16.flatK d.toList).toArray := by
  refine Sort.ext_get! (by simp [flatK_length]) fun t ht => ?_
  rw [Sort.size_flatK] at ht
  rw [Sort.get_flatK _ _ _ _ ht]
  have h3 : t / 3 < d.size := by omega
  obtain ⟨g0, g1, g2⟩ := flatK_get d.toList (t / 3) d[t / 3] (by simp [h3])
  rw [getElem!_pos d _ h3]
  have e : ∀ (k : Nat) (v : Value), (L16.flatK d.toList)[k]? = some v → (L16.flatK d.toList).toArray[k]! = v := fun k v h => by
    rw [Array.getElem!_eq_getD, Array.getD_eq_getD_getElem?]
    simp [h]
  rcases (show t % 3 = 0 ∨ t % 3 = 1 ∨ t % 3 = 2 by omega) with h | h | h <;> rw [h]
  · have k := e _ _ g0
    rw [show t / 3 * 3 = t by omega] at k
    rw [k]; rfl
  · have k := e _ _ g1
    rw [show t / 3 * 3 + 1 = t by omega] at k
    rw [k]; rfl
  · have k := e _ _ g2
    rw [show t / 3 * 3 + 2 = t by omega] at k
    rw [k]; rfl
theorem encK_len (b : Brk) : (encK b).length = 3 := rfl
theorem encK_one (b : Brk) : ∀ v ∈ encK b, v.oneCell' = true := by
  intro v hv
  simp only [encK, List.mem_cons, List.not_mem_nil, or_false] at hv
  rcases hv with rfl | rfl | rfl <;> rfl
theorem holds_seen {w : World} {g : Nat} {d : Array Brk} (h : HoldsK encK 3 w g 0 d) (hg : g < w.heap.size) : SeenK w (some ⟨g, 0, none⟩) d.toList := by
  intro k v hv
  have hk : k < (L16.flatK d.toList).length := (List.getElem?_eq_some_iff.1 hv).1
  obtain ⟨c, _⟩ := h k (by rw [flat_enc]; simpa using hk)
  refine ⟨⟨g, 0, none⟩, rfl, hg, ?_⟩
  rw [flat_enc, Array.getElem!_eq_getD, Array.getD_eq_getD_getElem?, List.getElem?_toArray, hv] at c
  rw [show (⟨g, 0, none⟩ : Addr).add k = ⟨g, 0 + k, none⟩ by unfold Addr.add; split <;> simp_all]
  exact c
theorem own_holds {w0 w : World} {v : Value} {l : List Brk} (h : OwnK w0 w v l) (hl : l ≠ []) : ∃ g c, v = .slice (some ⟨g, 0, none⟩) l.length c ∧ w0.heap.size ≤ g ∧ g < w.heap.size ∧ HoldsK encK 3 w g 0 l.toArray := by
  rcases h.1.2 with ⟨_, h0⟩ | ⟨g, cap, cur, rfl, hb, hh, h1, h2, h3, h4⟩
  · exact absurd (List.length_eq_zero_iff.1 h0) hl
  · refine ⟨g, cap, rfl, hb, (Array.getElem?_eq_some_iff.1 hh).1, fun j hj => ?_⟩
    rw [flat_enc] at hj ⊢
    have hj' : j < (L16.flatK l).length := by simpa using hj
    refine ⟨?_, by simp [World.frozen?, hh]⟩
    have e : (cur.toList.take (l.length * 3))[j]? = (L16.flatK l)[j]? := by rw [h4]
    rw [List.getElem?_take_of_lt (by rw [← flatK_length]; exact hj')] at e
    rw [Array.getElem!_eq_getD, Array.getD_eq_getD_getElem?, List.getElem?_toArray, show l.toArray.toList = l from rfl, ← e]
    have hc : j < cur.toList.length := by
      have : l.length * 3 ≤ cur.toList.length := by rw [show cur.toList.length = cap * 3 from h3]; exact Nat.mul_le_mul_right 3 h1
      rw [flatK_length] at hj'
      omega
    rw [List.getElem?_eq_getElem hc]
    simp only [World.cell?, hh, Nat.zero_add]
    simp only [Option.isSome_none, Bool.false_eq_true, if_false]
    rw [← Array.getElem?_toList, List.getElem?_eq_getElem hc]
    rfl

/-- The row of so many breaks lies in block g. -/
def SK (n g base : Nat) (d : Array Brk) (w : World) : Prop := d.size = n ∧ HoldsK encK 3 w g 0 d ∧ g < w.heap.size ∧ base ≤ w.heap.size
theorem SK.keep {n g base : Nat} {d : Array Brk} {w w' : World} (h : SK n g base d w) (x : But (fun k => base ≤ k ∧ k ≠ g) w w') : SK n g base d w' :=
  ⟨h.1, fun j hj => by
    obtain ⟨a, b⟩ := h.2.1 j hj
    exact ⟨x.at a (fun e => e.2 rfl), x.fz a b (fun e => e.2 rfl)⟩, Nat.lt_of_lt_of_le h.2.2.1 x.size, Nat.le_trans h.2.2.2 x.size⟩
theorem but_put (w : World) (g : Nat) (d : Array Brk) : But (Only g) w (putRowK encK 3 w g 0 d) :=
  ⟨rfl, rfl, rfl, by rw [size_putRowK]; exact Nat.le_refl _, fun k _ hk => by
    show (w.heap.modify g _)[k]? = _
    rw [Array.getElem?_modify, if_neg (fun e => hk e.symm)]⟩
theorem but_sort (w : World) (g m : Nat) (d : Array Brk) (os : Array Obj) : But (Only g) w (sortWorldK encK 3 w g 0 m d os) :=
  ⟨rfl, rfl, rfl, by unfold sortWorldK; rw [size_grow, size_putRowK]; show w.heap.size ≤ w.heap.size + _; omega, fun k hk hg => by
    unfold sortWorldK
    rw [heap_grow_old _ _ (by rw [size_putRowK]; exact hk)]
    show (w.heap.modify g _)[k]? = _
    rw [Array.getElem?_modify, if_neg (fun e => hg e.symm)]⟩
theorem SK.sort {n g base : Nat} {d d' : Array Brk} {w : World} (h : SK n g base d w) (m : Nat) (os : Array Obj) (hd : d'.size = d.size) : SK n g base d' (sortWorldK encK 3 w g 0 m d' os) :=
  ⟨hd.trans h.1, holdsK_sortWorldK encK 3 w g 0 m d d' os h.2.2.1 h.2.1 hd, Nat.lt_of_lt_of_le h.2.2.1 (but_sort w g m d' os).size, Nat.le_trans h.2.2.2 (but_sort w g m d' os).size⟩
theorem bef_swo : Sort.SWO befB := by
  have no : ∀ x y, befB x y = false ↔ ¬ ((x.1 = 0 ∧ y.1 ≠ 0) ∨ (x.1 ≠ 0 ∧ y.1 ≠ 0 ∧ (x.2.1 < y.2.1 ∨ (x.2.1 = y.2.1 ∧ x.2.2 < y.2.2)))) := fun x y => by
    rw [Bool.eq_false_iff, ne_eq, bef_iff]
  refine ⟨fun x => ?_, fun x y z h k => ?_, fun x y z h k => ?_⟩
  · rw [no]; omega
  · rw [bef_iff] at h k ⊢; omega
  · rw [no] at h k ⊢; omega
theorem brk_srt (sf : Nat) (sb : Array Value) (n c g base : Nat) (hn : n ≤ 1000000) (hsw : 2 ≤ n → SwapSwapsK Tryz.prog sf sb encK 3 g 0 n) :
    Srt Tryz.prog 43 sf (.slice (some ⟨g, 0, none⟩) n c) sb befB n g base (SK n g base) where
  enter := enters_of Tryz.func43 (by kernel_rfl) rfl
  small := by omega
  long := fun h => h.1
  room := fun h => h.2.2
  keep := fun h x => h.keep x
  less := fun {d w} h i j hi hj => by
    have hd := h.1
    have k := ahead_any (some ⟨g, 0, none⟩) d.toList n c i j w (holds_seen h.2.1 h.2.2.1) (by simp [hd]) (by simpa [hd] using hi) (by simpa [hd] using hj)
    rw [getElem!_pos d i (by omega), getElem!_pos d j (by omega)]
    simp only [Array.getElem_toList] at k
    exact k
  swap := fun {d w} h2 h i j hi hj => by
    have hd := h.1
    have e := putRowK_swp encK 3 encK_len w g 0 d i j (by omega) (by omega)
    rw [putRowK_self encK 3 w g 0 d h.2.1] at e
    refine ⟨_, hsw h2 w d h.2.1 hd i j hi hj, ?_, ?_⟩ <;> rw [e]
    · exact ⟨(size_swp d i j).trans hd, holdsK_putRowK encK 3 w g 0 d _ h.2.1 (size_swp d i j), by rw [size_putRowK]; exact h.2.2.1, by rw [size_putRowK]; exact h.2.2.2⟩
    · exact but_put w g _

theorem brk_facts : (Tryz.prog.info? 43).map (fun i => (i.hasPointers, i.bytes, i.size)) = some (false, 24, 3) := by kernel_rfl
theorem brk_kind (w : World) : (Extern.Rtype.kind 43).run Tryz.prog w = .ok 25 w := by kernel_rfl
theorem list_named : (Tryz.prog.info? 104).map (fun i => match i.desc with | .named _ u => u | _ => 0) = some 35 := by kernel_rfl
theorem breaks_desc : (Tryz.prog.info? 35).map (fun i => match i.desc with | .slice u => u | _ => 0) = some 43 := by kernel_rfl
end L16
end Go.Proofs.YtmmgmcfhlhghoaaGreatDoor

