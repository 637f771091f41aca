/- sort.Slice of one's own breaks, by the landed Before. -/
import Derived.Test.YtmmgmcfhlhghoaaGreatDoorSrtJ16
namespace Go.Proofs.YtmmgmcfhlhghoaaGreatDoor
open Go.Shelf Go.RowKit
open Go.Sort hiding Below
open Go.Lib hiding intOf
namespace L16
open Srt16

theorem elem_info : ∃ ie, Tryz.prog.info? 43 = some ie ∧ ie.hasPointers = false ∧ ie.bytes = 24 ∧ ie.size = 3 := by
  have h := brk_facts
  cases e : Tryz.prog.info? 43 with
  | none => rw [e] at h; cases h
  | some ie =>
    rw [e] at h
    simp only [Option.map_some, Option.some.injEq, Prod.mk.injEq] at h
    exact ⟨ie, rfl, h⟩
theorem list_under : ∃ j, (∀ w, (Extern.Rtype.under 104).run Tryz.prog w = .ok (35, j) w) ∧ j.desc = .slice 43 := by
  have h := list_named
  have k := breaks_desc
  cases e : Tryz.prog.info? 104 with
  | none => rw [e] at h; cases h
  | some i =>
    rw [e] at h
    cases e2 : Tryz.prog.info? 35 with
    | none => rw [e2] at k; cases k
    | some j =>
      rw [e2] at k
      simp only [Option.map_some, Option.some.injEq] at h k
      split at h
      · rename_i hd
        subst h
        split at k
        · rename_i hd2
          subst k
          exact ⟨j, fun w => under_named e hd e2 w, hd2⟩
        · exact absurd k (by decide)
      · exact absurd h (by decide)
theorem swap_lit (n c g : Nat) : SwapSwapsK Tryz.prog 87 #[.slice (some ⟨g, 0, none⟩) n c, typeHandle Tryz.prog 43] encK 3 g 0 n := by
  obtain ⟨ie, hie, _, _, hs⟩ := elem_info
  exact swapSwapsK_of_literal false _ (fun args W => run_callFunc_extern Tryz.func87 (by kernel_rfl) (by kernel_rfl) (by kernel_rfl) (e := Extern.ReflectliteSwapper.swap false) (by kernel_rfl) args W) _ ie hie encK 3 encK_len hs (fun w => Tryz.isAgg43 w) encK_one g 0 n c
theorem bit_small (n : Nat) (h : n ≤ 1000000) : Lib.bitLen n < 4611686018427387904 := Nat.lt_of_le_of_lt (Lib.bitLen_le n 62 (by omega) (by omega)) (by omega)
theorem pdqL_any (f : Nat) (sb : Array Value) (n c g base : Nat) (hn : n ≤ 1000000) (hsw : 2 ≤ n → SwapSwapsK Tryz.prog f sb encK 3 g 0 n) (d : Array Brk) (w : World) (hS : SK n g base d w) :
    Calls Tryz.prog 70 #[.agg #[.func (.func 43) #[.slice (some ⟨g, 0, none⟩) n c] #[], .func (.func f) #[] sb], .int .i64 0, .int .i64 n, .int .i64 (Lib.bitLen n)] w
      (Done (SK n g base) g w (pdq befB d 0 n (Lib.bitLen n) true true) (.tuple #[])) :=
  pdq_any (P := Tryz.prog) (ρ := Tryz.laysGg6_ren) { Tryz.laysGg6 with } (brk_srt f sb n c g base hn hsw) bef_swo
    (fun h2 d w h a b hab hb => (Any.breakPatterns_func_cells_w (P := Tryz.prog) (ρ := Tryz.laysGg6_ren) { Tryz.laysGg6 with } encK 3 encK_len (.func 43) #[.slice (some ⟨g, 0, none⟩) n c] #[] f sb g 0 a b d w (by rw [h.1]; exact hsw h2) h.2.1 h.2.2.1 hab (by rw [h.1]; exact hb) (by rw [h.1]; omega)).mono
      fun e w' ⟨he, m, os, hw⟩ => by subst hw; exact ⟨he, h.sort m os (breakPatterns_holds d a b hab (by rw [h.1]; exact hb)).1, but_sort w g m _ os⟩)
    (fun h2 d w h a b hab hb => (Any.reverseRange_func_cells_w (P := Tryz.prog) (ρ := Tryz.laysGg6_ren) { Tryz.laysGg6 with } encK 3 encK_len (.func 43) #[.slice (some ⟨g, 0, none⟩) n c] #[] f sb g 0 a b d w (by rw [h.1]; exact hsw h2) h.2.1 h.2.2.1 hab (by rw [h.1]; exact hb) (by rw [h.1]; omega)).mono
      fun e w' ⟨he, m, os, hw⟩ => by subst hw; exact ⟨he, h.sort m os (reverseRange_holds d a b hab (by rw [h.1]; exact hb)).1, but_sort w g m _ os⟩)
    (n + 1) 0 n (Lib.bitLen n) d w (by omega) hS (Nat.zero_le _) (Nat.le_refl _) (bit_small n hn) (Or.inl rfl)
/-- Sorted: the same breaks, none ahead of one that stands ahead of it. -/
def Sorted (w0 : World) (v : Value) (l : List Brk) (w' : World) : Prop :=
  ∃ l' : List Brk, l'.Perm l ∧ l'.Pairwise (fun a b => befB b a = false) ∧ Ext w0 w' ∧ ∃ A c, v = .slice A l'.length c ∧ SeenK w' A l' ∧ ∀ ad, A = some ad → w0.heap.size ≤ ad.block
theorem pdq_sorted {n g base c : Nat} {w0 w w' : World} {l : List Brk} (hl : l.length = n) (hg : w0.heap.size ≤ g) (x : Ext w0 w) (hS : SK n g base (pdq befB l.toArray 0 n (Lib.bitLen n) true true) w') (hb : But (Only g) w w') :
    Sorted w0 (.slice (some ⟨g, 0, none⟩) n c) l w' := by
  obtain ⟨⟨p1, _, p3⟩, s⟩ := pdq_sorts befB bef_swo l.toArray 0 n (Lib.bitLen n) true true (Nat.zero_le _) (by simp [hl]) (Or.inl rfl)
  generalize pdq befB l.toArray 0 n (Lib.bitLen n) true true = d at *
  have hd : d.size = n := hS.1
  refine ⟨d.toList, ?_, ?_, hb.ext x fun k hk => by rw [show k = g from hk]; exact hg, some ⟨g, 0, none⟩, c, by rw [Array.length_toList, hd], holds_seen hS.2.1 hS.2.2.1, fun ad e => by cases e; exact hg⟩
  · have e1 : d.extract 0 n = d := by rw [← hd]; simp
    have e2 : l.toArray.extract 0 n = l.toArray := by rw [← hl]; simp
    rw [e1, e2] at p3
    exact p3
  · rw [List.pairwise_iff_getElem]
    intro i j hi hj hij
    have hi' : i < d.size := by simpa using hi
    have hj' : j < d.size := by simpa using hj
    have := s i j (Nat.zero_le _) hij (by omega)
    rw [getElem!_pos d i hi', getElem!_pos d j hj'] at this
    exact this
theorem slice_world {w : World} {g n c base : Nat} {d : Array Brk} (h : SK n g base d w) (t : TypeId) : SK n g base d (sliceWorld Tryz.prog Tryz.laysGg6_ren t (some ⟨g, 0, none⟩) n c w) ∧ Ext w (sliceWorld Tryz.prog Tryz.laysGg6_ren t (some ⟨g, 0, none⟩) n c w) := by
  have x : Ext w (sliceWorld Tryz.prog Tryz.laysGg6_ren t (some ⟨g, 0, none⟩) n c w) := ((Ext.refl w).alloc _).alloc _
  exact ⟨h.keep (But.of_ext x), x⟩
/-- sort.Slice(l, l.before). -/
theorem sort_any (w0 w : World) (v : Value) (l : List Brk) (h : OwnK w0 w v l) (hl : l ≠ []) (hn : l.length ≤ 1000000) :
    Calls Tryz.prog 42 #[.iface 104 v, .func (.func 43) #[v] #[]] w fun e w' => e = .returned (.tuple #[]) ∧ Sorted w0 v l w' := by
  obtain ⟨g, c, rfl, hb, hg, hH⟩ := own_holds h hl
  obtain ⟨ie, hie, i1, i2, i3⟩ := elem_info
  obtain ⟨j, hU, hk⟩ := list_under
  have hS : SK l.length g w.heap.size l.toArray w := ⟨by simp, hH, hg, Nat.le_refl _⟩
  obtain ⟨hS', x'⟩ := slice_world (c := c) hS 104
  have hp : 1 ≤ l.length := by have := List.length_pos_iff.2 hl; omega
  by_cases h2 : 2 ≤ l.length
  · have hK : Lib.swapperK l.length ie 25 = 9 := by
      unfold Lib.swapperK
      rw [i1, i2]
      have e0 : (l.length == 0) = false := by simp; omega
      have e1 : (l.length == 1) = false := by simp; omega
      simp [e0, e1]
    have q := pdqL_any 87 #[.slice (some ⟨g, 0, none⟩) l.length c, typeHandle Tryz.prog 43] l.length c g w.heap.size hn (fun _ => swap_lit l.length c g) l.toArray _ hS'
    refine slice_any (P := Tryz.prog) (ρ := Tryz.laysGg6_ren) Tryz.laysGg6 hU hk Tryz.underlying104 (by kernel_rfl) hie 25 brk_kind (some ⟨g, 0, none⟩) l.length c (by omega) 87 (by rw [hK]; kernel_rfl) _ _ _ w _ ?_
    rw [show sliceBound Tryz.prog 43 ie 25 (some ⟨g, 0, none⟩) l.length c = #[.slice (some ⟨g, 0, none⟩) l.length c, typeHandle Tryz.prog 43] by unfold sliceBound; rw [hK]; rfl]
    exact q.mono fun e w' ⟨a, s, b⟩ => ⟨a, pdq_sorted rfl hb (h.2.trans x') s b⟩
  · have h1 : l.length = 1 := by omega
    have hK : Lib.swapperK l.length ie 25 = 2 := by
      unfold Lib.swapperK
      rw [h1]
      rfl
    have q := pdqL_any 80 #[] l.length c g w.heap.size hn (fun h => absurd h h2) l.toArray _ hS'
    refine slice_any (P := Tryz.prog) (ρ := Tryz.laysGg6_ren) Tryz.laysGg6 hU hk Tryz.underlying104 (by kernel_rfl) hie 25 brk_kind (some ⟨g, 0, none⟩) l.length c (by omega) 80 (by rw [hK]; kernel_rfl) _ _ _ w _ ?_
    rw [show sliceBound Tryz.prog 43 ie 25 (some ⟨g, 0, none⟩) l.length c = #[] by unfold sliceBound; rw [hK]; rfl]
    exact q.mono fun e w' ⟨a, s, b⟩ => ⟨a, pdq_sorted rfl hb (h.2.trans x') s b⟩
end L16
end Go.Proofs.YtmmgmcfhlhghoaaGreatDoor

