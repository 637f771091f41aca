/- What all statements of layer 11 begin with. -/
import Derived.Test.YtfdoohangemojaaNew11
import Derived.Test.YtfdoohangemojaaSameLib
import Derived.Test.YtfdoohangemojaaFew10
namespace Go.Proofs.Ytfdoohangemojaa
open Go.RowKit
open Go.Lib hiding intOf
namespace L11
open L10 (TN plainB patB tn rd patsB)

/-- Two lists of numbers: the same? -/
theorem same_lists (A B : Option Addr) (l m : List Int) (c d : Nat) (w : World) (hs : SeenL w A l) (ht : SeenL w B m) (hn : l.length ≤ 1000000) :
    Calls Try.prog 21 #[.slice A l.length c, .slice B m.length d] w (Ret w (.bool (decide (l = m)))) := by
  have := L04.same_any A B l.length m.length c d _ _ w hs.fn ht.fn (by omega)
  have e : L04.sameB l.length m.length (fun j => l.getD j 0) (fun j => m.getD j 0) = decide (l = m) := by
    unfold L04.sameB
    rw [decide_eq_decide]
    constructor
    · rintro ⟨h1, h2⟩
      apply List.ext_getElem h1
      intro j hj hj'
      have := h2 j hj
      simpa [List.getD, hj, hj'] using this
    · rintro rfl
      exact ⟨rfl, fun _ _ => rfl⟩
  rwa [e] at this
def awP : List TN := [([97, 98], [0, 1, 0]), ([46, 97], [0, 0, 2])]
theorem awP_vals : valsL awP [97, 98] = [0, 2, 0] := by kernel_rfl
theorem awP_no : valsL awP [65] = [] := by kernel_rfl
theorem awP_nodes : (nodesL awP).length = 5 := by kernel_rfl

theorem blk_seenL {w : World} {b : Nat} {t : TypeId} {l : List Int} {cs : List Value} (h : Blk w b t cs) (e : cs = l.map (.int .i64)) : SeenL w (some ⟨b, 0, none⟩) l := fun j v hv =>
  ⟨_, rfl, h.lt, by rw [add_zero_addr, h.cell, e]; exact hv⟩
theorem blk_seenW {w : World} {b : Nat} {t : TypeId} {l : List WP} {cs : List Value} (h : Blk w b t cs) (e : cs = flatW l) (hs : ∀ y ∈ l, SeenL w y.A y.ns) : SeenW w (some ⟨b, 0, none⟩) l := fun i x hx => by
  obtain ⟨f0, f1⟩ := flatW_get l i x hx
  refine ⟨⟨_, rfl, h.lt, ?_, ?_⟩, hs x (List.mem_of_getElem? hx)⟩
  · rw [add_zero_addr, h.cell, e]; exact f0
  · rw [add_zero_addr, h.cell, e]; exact f1
theorem wp_ok (s : ByteArray) (l : List Int) (A : Option Addr) (c : Nat) (h1 : l.length ≤ c) (h2 : c ≤ 100) (h3 : s.size ≤ 100) (h4 : ∀ n ∈ l, -100 ≤ n ∧ n ≤ 100) : WP.Ok ⟨s, l, A, c⟩ :=
  ⟨h1, by unfold maxLen; show c ≤ _; omega, by unfold maxLen; show s.size ≤ _; omega, fun n hn => by have := h4 n hn; omega⟩
/-- The first trie. -/
theorem aw_new (W : World) (b0 b1 b2 : Nat) (k0 : Blk W b0 3 [.int .i64 0, .int .i64 1, .int .i64 0]) (k1 : Blk W b1 3 [.int .i64 0, .int .i64 0, .int .i64 2])
    (k2 : Blk W b2 49 [.string ⟨#[97, 98]⟩, .slice (some ⟨b0, 0, none⟩) 3 3, .string ⟨#[46, 97]⟩, .slice (some ⟨b1, 0, none⟩) 3 3]) :
    Calls Try.prog 16 #[.agg #[.slice (some ⟨b2, 0, none⟩) 2 2, .slice none 0 0]] W (NewQ W awP) := by
  have s0 : SeenL W (some ⟨b0, 0, none⟩) [0, 1, 0] := blk_seenL k0 rfl
  have s1 : SeenL W (some ⟨b1, 0, none⟩) [0, 0, 2] := blk_seenL k1 rfl
  have h := new_yes ⟨[⟨⟨#[97, 98]⟩, [0, 1, 0], some ⟨b0, 0, none⟩, 3⟩, ⟨⟨#[46, 97]⟩, [0, 0, 2], some ⟨b1, 0, none⟩, 3⟩], []⟩ ⟨some ⟨b2, 0, none⟩, 2, none, 0⟩
    (fun x hx => by
      rcases List.mem_cons.1 hx with rfl | hx
      · exact wp_ok _ _ _ _ (by decide) (by decide) (by decide) (by decide)
      · rw [List.mem_singleton.1 hx]; exact wp_ok _ _ _ _ (by decide) (by decide) (by decide) (by decide)) (fun x hx => by simp at hx) W
    ⟨blk_seenW k2 rfl (fun y hy => by
      rcases List.mem_cons.1 hy with rfl | hy
      · exact s0
      · rw [List.mem_singleton.1 hy]; exact s1), SeenW.nil⟩ (by simp) (by simp) (by kernel_rfl)
  exact h
theorem aw_newno (W : World) (b : Nat) (k : Blk W b 49 [.string ⟨#[]⟩, .slice none 0 0]) : Calls Try.prog 16 #[.agg #[.slice (some ⟨b, 0, none⟩) 1 1, .slice none 0 0]] W (Ret W (.tuple #[.pointer none, .int .i64 100])) := by
  have h := new_no ⟨[⟨⟨#[]⟩, [], none, 0⟩], []⟩ ⟨some ⟨b, 0, none⟩, 1, none, 0⟩ (fun x hx => by rw [List.mem_singleton.1 hx]; exact wp_ok _ _ _ _ (by decide) (by decide) (by decide) (by decide)) (fun x hx => by simp at hx) W
    ⟨blk_seenW k rfl (fun y hy => by rw [List.mem_singleton.1 hy]; exact SeenL.nil), SeenW.nil⟩ (by simp) (by simp) (by kernel_rfl)
  exact h

set_option maxRecDepth 100000 in
set_option maxHeartbeats 8000000 in
theorem awake_any (w : World) : Calls Try.prog 14 #[] w (Ret w (.bool true)) := by
  go_enter Try.func14, Try.ntmps14
  go_upto_region 2 with (fail)
  obtain ⟨v1, hv1⟩ : ∃ v1, v1 = w.alloc (.cells #[.int .i64 0, .int .i64 1, .int .i64 0] 3) := ⟨_, rfl⟩
  obtain ⟨v2, hv2⟩ : ∃ v2, v2 = v1.alloc (.cells #[.int .i64 0, .int .i64 0, .int .i64 2] 3) := ⟨_, rfl⟩
  obtain ⟨v3, hv3⟩ : ∃ v3, v3 = v2.alloc (.cells #[.string ⟨#[97, 98]⟩, .slice (some ⟨w.heap.size, 0, none⟩) 3 3, .string ⟨#[46, 97]⟩, .slice (some ⟨w.heap.size + 1, 0, none⟩) 3 3] 49) := ⟨_, rfl⟩
  obtain ⟨W, hW⟩ : ∃ W, W = v3.alloc (.cells #[.slice (some ⟨w.heap.size + 1 + 1, 0, none⟩) 2 2, .slice none 0 0] 37) := ⟨_, rfl⟩
  rw [← hv1, ← hv2, ← hv3, ← hW]
  have e1 : v1.heap.size = w.heap.size + 1 := by rw [hv1]; simp
  have e2 : v2.heap.size = w.heap.size + 1 + 1 := by rw [hv2]; simp [e1]
  have e3 : v3.heap.size = w.heap.size + 1 + 1 + 1 := by rw [hv3]; simp [e2]
  have x1 : Ext w v1 := by rw [hv1]; exact (Ext.refl _).alloc _
  have x2 : Ext v1 v2 := by rw [hv2]; exact (Ext.refl _).alloc _
  have x3 : Ext v2 v3 := by rw [hv3]; exact (Ext.refl _).alloc _
  have x4 : Ext v3 W := by rw [hW]; exact (Ext.refl _).alloc _
  have k0 : Blk v1 w.heap.size 3 [.int .i64 0, .int .i64 1, .int .i64 0] := by rw [hv1]; exact Blk.lit _ _ _ _ rfl
  have k1 : Blk v2 (w.heap.size + 1) 3 [.int .i64 0, .int .i64 0, .int .i64 2] := by rw [hv2]; exact Blk.lit _ _ _ _ e1.symm
  have k2 : Blk v3 (w.heap.size + 1 + 1) 49 [.string ⟨#[97, 98]⟩, .slice (some ⟨w.heap.size, 0, none⟩) 3 3, .string ⟨#[46, 97]⟩, .slice (some ⟨w.heap.size + 1, 0, none⟩) 3 3] := by rw [hv3]; exact Blk.lit _ _ _ _ e2.symm
  have k3 : Blk W (w.heap.size + 1 + 1 + 1) 37 [.slice (some ⟨w.heap.size + 1 + 1, 0, none⟩) 2 2, .slice none 0 0] := by rw [hW]; exact Blk.lit _ _ _ _ e3.symm
  have NEW := Lib.hid (aw_new W _ _ _ (((k0.ext x2).ext x3).ext x4) ((k1.ext x3).ext x4) (k2.ext x4))
  have X0 := Lib.hid (((x1.trans x2).trans x3).trans x4)
  have q0 := k3.cell 0
  have q1 := k3.cell 1
  simp only [List.getElem?_cons_zero, List.getElem?_cons_succ] at q0 q1
  clear hv1 hv2 hv3 hW e1 e2 e3 x1 x2 x3 x4 k0 k1 k2 k3
  go_wp2_with fail
  refine NEW.out.mono ?_; rintro e w5 ⟨B, F, rfl, x5, T5, hB, hF⟩
  have X5 := Lib.hid (X0.out.trans x5)
  have HB := Lib.hid (show w.heap.size ≤ B from Nat.le_trans X0.out.size hB)
  have NO := Lib.hid (aw_newno (w5.alloc (.cells #[.string ⟨#[]⟩, .slice none 0 0] 49)) w5.heap.size (Blk.lit _ _ _ _ rfl))
  have T5 := Lib.hid T5
  clear NEW X0 q0 q1 x5 hB hF
  go_wp2_with fail
  refine NO.out.mono ?_; rintro e w6 ⟨rfl, x6⟩
  have y6 := ((Ext.refl w5).alloc (.cells #[.string ⟨#[]⟩, .slice none 0 0] 49)).trans x6
  have X6 := Lib.hid (X5.out.trans y6)
  have T6 := T5.out.ext y6
  have VA := Lib.hid (vals_any w6 B F awP T6 ⟨#[97, 98]⟩)
  clear NO x6 y6 X5 T5 T6
  go_wp2_with fail
  refine VA.out.mono ?_; rintro e w7 ⟨b7, F7, A7, c7, rfl, T7, _, s7, _⟩
  rw [awP_vals] at s7 ⊢
  have X7 := Lib.hid (b7.ext X6.out (fun k hk => by rw [show k = B from hk]; exact HB.out))
  have SM := Lib.hid (same_lists A7 (some ⟨w7.heap.size, 0, none⟩) [0, 2, 0] [0, 2, 0] c7 3 (w7.alloc (.cells #[.int .i64 0, .int .i64 2, .int .i64 0] 3)) (s7.ext ((Ext.refl _).alloc _)) (blk_seenL (Blk.lit _ _ _ _ rfl) rfl) (by decide))
  have T7 := Lib.hid T7
  clear VA X6 b7 s7
  go_wp2_with fail
  refine SM.out.mono ?_; rintro e w8 ⟨rfl, x8⟩
  have y8 := ((Ext.refl w7).alloc (.cells #[.int .i64 0, .int .i64 2, .int .i64 0] 3)).trans x8
  have X8 := Lib.hid (X7.out.trans y8)
  have VA := Lib.hid (vals_any w8 B F7 awP (T7.out.ext y8) ⟨#[65]⟩)
  clear SM x8 y8 X7 T7
  go_wp2_with fail
  refine VA.out.mono ?_; rintro e w9 ⟨b9, F9, A9, c9, rfl, T9, _, _, _⟩
  rw [awP_no]
  have X9 := Lib.hid (b9.ext X8.out (fun k hk => by rw [show k = B from hk]; exact HB.out))
  have ND := Lib.hid (nodes_any w9 B F9 awP T9)
  clear VA X8 b9 T9
  go_wp2_with fail
  refine ND.out.mono ?_; rintro e w10 ⟨rfl, b10, _⟩
  rw [awP_nodes]
  have X10 := Lib.hid (b10.ext X9.out (fun k hk => by rw [show k = B from hk]; exact HB.out))
  have NN := Lib.hid (nodes_nil w10)
  clear ND X9 b10
  go_wp2_with fail
  refine NN.out.mono ?_; rintro e w11 ⟨rfl, x11⟩
  have X11 := Lib.hid (X10.out.trans x11)
  have VN := Lib.hid (vals_nil (.string ⟨#[97]⟩) w11)
  clear NN X10 x11
  go_wp2_with fail
  refine VN.out.mono ?_; rintro e w12 ⟨rfl, x12⟩
  have X12 := Lib.hid (X11.out.trans x12)
  clear VN X11 x12
  go_wp2_with fail
  go_ret
  exact ⟨rfl, X12.out⟩
end L11
end Go.Proofs.Ytfdoohangemojaa

