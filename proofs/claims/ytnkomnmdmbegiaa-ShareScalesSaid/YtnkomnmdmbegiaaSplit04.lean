/- The contract of layer 4's Split. -/
import Derived.Test.YtnkomnmdmbegiaaBase04
import Derived.Test.YtnkomnmdmbegiaaStab04
import Derived.Test.YtnkomnmdmbegiaaFloor04
namespace Go.Proofs.Ytnkomnmdmbegiaa
open Go.RowKit Go.Sort Go.Lib Go.Shelf
namespace L04

/-- cmp.Compare. -/
def cmpI (x y : Int) : Int := if x < y then -1 else if y < x then 1 else 0
theorem compare_any (x y : Int) (w : World) : Calls Try.prog 26 #[.int .i64 x, .int .i64 y] w fun e w' => e = .returned (.int .i64 (cmpI x y)) ∧ w = w' := by
  by_cases h1 : x < y
  · rw [show cmpI x y = -1 from if_pos h1]
    go_enter Try.func26, Try.ntmps26
    go_wp2
    go_ret
    exact ⟨rfl, rfl⟩
  · by_cases h2 : y < x
    · rw [show cmpI x y = 1 by unfold cmpI; rw [if_neg h1, if_pos h2]]
      go_enter Try.func26, Try.ntmps26
      go_wp2
      go_ret
      exact ⟨rfl, rfl⟩
    · rw [show cmpI x y = 0 by unfold cmpI; rw [if_neg h1, if_neg h2]]
      go_enter Try.func26, Try.ntmps26
      go_wp2
      go_ret
      exact ⟨rfl, rfl⟩

/-- A pair's two cells. -/
def enc (x : Int × Int) : List Value := [.int .i64 x.1, .int .i64 x.2]
theorem enc_len (x : Int × Int) : (enc x).length = 2 := rfl
theorem enc_one (x : Int × Int) : ∀ v ∈ enc x, v.oneCell' = true := by
  intro v hv; simp [enc] at hv; rcases hv with rfl | rfl <;> rfl
/-- The greater rest first. -/
def cf (x y : Int × Int) : Int := cmpI y.1 x.1
theorem cf_lx (x y : Int × Int) (h : ah x y) : ltOf cf y x = lx y x := by
  unfold ah at h
  unfold ltOf cf lx cmpI
  by_cases h1 : x.1 < y.1
  · rw [if_pos h1, decide_eq_true (by omega), decide_eq_true (by omega)]
  · rw [if_neg h1, decide_eq_false (by split <;> omega), decide_eq_false (by omega)]

theorem against_any (x y : Int × Int) (W : World) : Calls Try.prog 19 #[.agg #[.int .i64 x.1, .int .i64 x.2], .agg #[.int .i64 y.1, .int .i64 y.2]] W fun e w' => e = .returned (.int .i64 (cf x y)) ∧ ∃ q os', w' = grow (W.drewN q) os' := by
  have hcon := fun W' => compare_any y.1 x.1 W'
  unfold cf
  generalize cmpI y.1 x.1 = r at hcon ⊢
  go_enter Try.func19, Try.ntmps19
  go_wp2_with (first | (go_at_call 26; refine (hcon _).mono ?_; rintro e w' ⟨rfl, rfl⟩))
  go_ret
  exact ⟨rfl, 0, _, by rw [alloc_eq_grow, alloc_eq_grow, grow_grow]; rfl⟩
theorem against_lays (blk off size : Nat) (w : World) : CmpLays Try.prog 19 #[] enc 2 cf blk off size w := fun _ _ _ _ x y => against_any x y _

/-- A row of pairs, as the sort asks for it. -/
theorem RowP.holds {w : World} {b n : Nat} {d : Nat → Int × Int} (h : RowP w b n d) : HoldsK enc 2 w b 0 ((Array.range n).map d) := by
  intro t ht
  have ht2 : t < n * 2 := by simpa [size_flatK] using ht
  have hj : t / 2 < n := by omega
  obtain ⟨⟨h1, h2⟩, h3, h4⟩ := h (t / 2) hj
  rw [get_flatK _ _ _ _ (by simpa using ht2), show ((Array.range n).map d)[t / 2]! = d (t / 2) by simp [hj], Nat.zero_add]
  rcases Nat.mod_two_eq_zero_or_one t with e | e
  · rw [e]
    rw [show t / 2 * 2 = t by omega] at h1 h3
    exact ⟨h1, h3⟩
  · rw [e]
    rw [show t / 2 * 2 + 1 = t by omega] at h2 h4
    exact ⟨h2, h4⟩
theorem holds_rowP {w : World} {b n : Nat} {d : Array (Int × Int)} (h : HoldsK enc 2 w b 0 d) (hn : d.size = n) : RowP w b n (fun j => d[j]!) := by
  intro j hj
  have h1 := h.cell (i := j) (c := 0) (by omega) (by omega)
  have h2 := h.cell (i := j) (c := 1) (by omega) (by omega)
  simp only [Nat.zero_add, Nat.add_zero] at h1 h2
  exact ⟨⟨h1.1, h2.1⟩, h1.2, h2.2⟩

/-- What a sort leaves of all else. -/
theorem swk_ext {w0 w w' : World} {b : Nat} {d : Array (Int × Int)} (h : SWK enc 2 w b 0 d w') (hx : Ext w0 w) (hb : w0.heap.size ≤ b) : Ext w0 w' := by
  obtain ⟨m, os, rfl⟩ := h
  unfold sortWorldK putRowK
  refine ⟨hx.os, hx.tape, hx.output, ?_, fun k hk => ?_⟩
  · have := hx.size
    simp [grow, putRow, mapBlock, Sort.ahead]
    omega
  · rw [← hx.block k hk]
    have hlt : k < w.heap.size := Nat.lt_of_lt_of_le hk hx.size
    have e1 : (grow (putRow id (Sort.ahead w m) b 0 (flatK enc 2 d)) os).heap[k]? = (putRow id (Sort.ahead w m) b 0 (flatK enc 2 d)).heap[k]? :=
      Sort.heap_grow_old _ os (by simpa [putRow, mapBlock, Sort.ahead] using hlt)
    rw [e1]
    simp [putRow, mapBlock, Sort.ahead, Array.getElem?_modify, show b ≠ k by omega]
theorem swk_other {w w' : World} {b c o : Nat} {d : Array (Int × Int)} (h : SWK enc 2 w b 0 d w') (hc : c ≠ b) (hl : c < w.heap.size) : w'.cell? ⟨c, o, none⟩ = w.cell? ⟨c, o, none⟩ ∧ w'.frozen? ⟨c, o, none⟩ = w.frozen? ⟨c, o, none⟩ := by
  obtain ⟨m, os, rfl⟩ := h
  unfold sortWorldK
  have hs : (⟨c, o, none⟩ : Addr).block < (putRowK enc 2 (Sort.ahead w m) b 0 d).heap.size := by rw [size_putRowK]; exact hl
  constructor
  · rw [cell?_grow _ _ _ hs, cell?_putRowK_other _ _ _ _ _ _ _ hc]; rfl
  · rw [frozen?_grow _ _ _ hs]; unfold putRowK; rw [frozen?_putRow]; rfl
theorem swk_rowF {w w' : World} {b c n : Nat} {d : Array (Int × Int)} {f : Nat → Int} (h : SWK enc 2 w b 0 d w') (hc : c ≠ b) (r : RowF w c n f) : RowF w' c n f := fun j hj => by
  have hl := block_lt_of_cell (r j hj).1
  have := swk_other (o := j) h hc hl
  exact ⟨this.1.trans (r j hj).1, this.2.trans (r j hj).2⟩

theorem may_muldiv {t : Int} {n : Nat} {f : Nat → Int} (h : MayP t n f) (h0 : t ≠ 0) {i : Nat} (hi : i < n) : L02.mayB t (f i) (sumF f n) = true := by
  have hp := h.2.2.resolve_left h0
  have hs := (sum_small (k := n) h.2.1 (Nat.le_refl _) (by have := h.1.2.2; omega)).2
  have hf := h.2.1 i hi
  have ht := h.1
  rw [L02.mayB_iff]
  omega
theorem floor_fit {t : Int} {n : Nat} {f : Nat → Int} (h : MayP t n f) (h0 : t ≠ 0) {i : Nat} (hi : i < n) : L02.fitB (floorF t n f i) = true := by
  have := floor_bounds h (h.2.2.resolve_left h0) i hi
  have ht := h.1
  rw [L02.fitB_iff]
  omega

theorem int_zero : (Try.prog.info? 3).map (fun i => (i.zero, i.size, i.bytes)) = some (some (.int .i64 0), 1, 8) := by kernel_rfl
theorem rest_zero : (Try.prog.info? 38).map (fun i => (i.zero, i.size, i.bytes)) = some (some (.agg #[.int .i64 0, .int .i64 0]), 2, 16) := by kernel_rfl

/-- What Split, or Ends, answers where it may: a row of its own. -/
def Own (w : World) (n : Nat) (f : Nat → Int) (e : Ending) (w' : World) : Prop :=
  Ext w w' ∧ ∃ b, w.heap.size ≤ b ∧ b < w'.heap.size ∧ e = .returned (.tuple #[.slice (some ⟨b, 0, none⟩) n n, .int .i64 0]) ∧ RowF w' b n f

theorem split_no (t : Int) (A : Option Addr) (n c : Nat) (f : Nat → Int) (w : World) (hs : SeenF w A n f) (hm : n ≤ 9223372036854775807) (h : ¬ MayP t n f) :
    Calls Try.prog 9 #[.int .i64 t, .slice A n c] w (Ret w (.tuple #[.slice none 0 0, .int .i64 1])) := by
  have hc := mayBe_any t A n c f w hs hm
  rw [decide_eq_false h] at hc
  go_enter Try.func9, Try.ntmps9
  go_wp2_with (first | (go_at_call 14; refine hc.mono ?_; rintro e w' ⟨rfl, rfl⟩))
  go_ret2
  exact ⟨rfl, Ext.refl _⟩

theorem split_zero (A : Option Addr) (n c : Nat) (f : Nat → Int) (w : World) (hs : SeenF w A n f) (h : MayP 0 n f) :
    Calls Try.prog 9 #[.int .i64 0, .slice A n c] w (Own w n (partF 0 n f)) := by
  have hn := h.1.2.2
  have hc := mayBe_any 0 A n c f w hs (by omega)
  rw [decide_eq_true h] at hc
  obtain ⟨cs, hmk, hrow⟩ := make_ints Try.prog 22 3 n Try.underlying22 int_zero (by omega)
  go_enter Try.func9, Try.ntmps9
  go_wp2_with (first | (go_at_call 14; refine hc.mono ?_; rintro e w' ⟨rfl, rfl⟩))
  go_ret2
  exact ⟨(Ext.refl _).alloc _, _, Nat.le_refl _, by simp, rfl, (hrow _).congr fun j _ => by simp [partF]⟩
end L04
end Go.Proofs.Ytnkomnmdmbegiaa

