/- The landed New of layer 11: what it keeps; slices.Clone. -/
import Derived.Test.YtenajekmnggkeaaVals11
import Derived.Test.YtenajekmnggkeaaChg
import Derived.Maps.AppendAt
import Derived.Below
namespace Go.Proofs.Ytenajekmnggkeaa
open Go.RowKit
open Go.Lib hiding intOf
namespace L11
open L10 (TN plainB patB tn)

theorem int_info : (Try.prog.info? 3).map (fun i => (i.zero, i.size, i.bytes)) = some (some (.int .i64 0), 1, 8) := by kernel_rfl
theorem pat_info : (Try.prog.info? 50).map (fun i => (i.zero, i.size, i.bytes)) = some (some (.agg #[.string ⟨#[]⟩, .slice none 0 0]), 2, 40) := by kernel_rfl
/-- What Clone answers. -/
def CloneQ (w : World) (vs : List Int) (e : Ending) (w' : World) : Prop := Ext w w' ∧ ∃ A c, e = .returned (.slice A vs.length c) ∧ SeenL w' A vs ∧ ∀ ad, A = some ad → w.heap.size ≤ ad.block ∧ ad.block < w'.heap.size
set_option maxRecDepth 100000 in
set_option maxHeartbeats 4000000 in
theorem clone_any (A : Option Addr) (vs : List Int) (c : Nat) (w : World) (sn : SeenL w A vs) (hv : vs ≠ []) (hn : vs.length ≤ 100000) : Calls Try.prog 24 #[.slice A vs.length c] w (CloneQ w vs) := by
  have h0 : 0 < vs.length := List.length_pos_iff.2 hv
  obtain ⟨ad, rfl⟩ : ∃ ad, A = some ad := by
    obtain ⟨ad, e, _⟩ := sn 0 (.int .i64 vs[0]) (by simp [h0])
    exact ⟨ad, e⟩
  have heq := fun W => Go.run_eql_slice_nil (P := Try.prog) W 26 3 (some ad) vs.length c Try.underlying26
  simp only [Option.isNone_some] at heq
  have X1 : Ext w (w.alloc (.cells #[] 3)) := (Ext.refl w).alloc _
  obtain ⟨A', c', w', hr, ho, hg⟩ := run_putV (P := Try.prog) (w := w.alloc (.cells #[] 3)) (base := w.heap.size) 26 26 3 (.int .i64 0) 1 8 Try.underlying26 int_info rfl (by omega) (by omega)
    (v := .slice (some ⟨w.heap.size, 0, none⟩) 0 0) (n := 0) (xs := []) (World.ownsRow_made w #[] 0 (Nat.le_refl _) (Nat.zero_le _) rfl) ad vs.length c (vs.map (.int .i64)) (by simp)
    (fun j u hu => by
      obtain ⟨ad', e, _, hc⟩ := (sn.ext X1) j u hu
      cases e
      exact hc) (by intro u hu; obtain ⟨x, _, rfl⟩ := List.mem_map.1 hu; rfl) (by omega) (by simp)
  rw [Nat.zero_add] at hr ho
  have X2 : Ext w w' := Below.grown X1 hg X1.size (fun k e => by cases e; exact Nat.le_refl _)
  have FIN := Lib.hid (show CloneQ w vs (.returned (.slice A' vs.length c')) w' from by
    refine ⟨X2, A', c', rfl, ?_, fun ad' e => ?_⟩
    · obtain ⟨A2, c2, e2, hs⟩ := own_seen ho
      cases e2
      exact hs
    · have h3 := ho.2
      rcases h3 with ⟨h4, h5⟩ | ⟨g, cap, cur, hv', _⟩
      · omega
      · simp only [Value.slice.injEq, true_and] at hv'
        rw [e] at hv'
        have h5 : ad' = ⟨g, 0, none⟩ := by simpa using hv'.1
        exact ho.lt ad'.block (by rw [e, h5]; rfl))
  clear sn X1 ho hg X2 h0
  generalize vs.length = n at *
  go_enter Try.func24, Try.ntmps24
  go_wp2_with (first | (at_builtin; refine wpList_ran rfl _ _ rfl hr ?_))
  go_ret
  exact FIN.out

/-- What New keeps: a trie that is not made, whose list grows. -/
structure NewAt (B : Nat) (w wr : World) (vl : Value) (cl : List WP) : Prop where
  x : Ext w wr
  box : Blk wr B 73 [vl, .int .u32 0, .int .i32 0, .int .u32 0, .int .i64 0, .map none, .map none]
  bB : w.heap.size ≤ B
  row : wr.ownsRow (B + 1) 50 2 vl cl.length (flatW cl)
  inn : ∀ y ∈ cl, SeenL wr y.A y.ns ∧ ∀ ad, y.A = some ad → B < ad.block ∧ ad.block < wr.heap.size ∧ vl.ownBlock ≠ some ad.block
theorem NewAt.bw {B : Nat} {w wr : World} {vl : Value} {cl : List WP} (h : NewAt B w wr vl cl) : B + 1 ≤ wr.heap.size := h.box.lt
theorem NewAt.ext {B : Nat} {w wr w' : World} {vl : Value} {cl : List WP} (h : NewAt B w wr vl cl) (x : Ext wr w') : NewAt B w w' vl cl :=
  ⟨h.x.trans x, h.box.ext x, h.bB, OwnsRow.ext h.row x, fun y hy => ⟨(h.inn y hy).1.ext x, fun ad e => by obtain ⟨a, b, c⟩ := (h.inn y hy).2 ad e; exact ⟨a, x.grows _ b, c⟩⟩⟩
/-- One pattern more. -/
theorem NewAt.put {B : Nat} {w wr : World} {vl : Value} {cl : List WP} (h : NewAt B w wr vl cl) (y : WP) (ad : Addr) (hc0 : wr.cell? ad = some (.string y.s)) (hc1 : wr.cell? (ad.add 1) = some (.slice y.A y.ns.length y.c)) (sy : SeenL wr y.A y.ns)
    (hy : ∀ a, y.A = some a → B < a.block ∧ a.block < wr.heap.size ∧ vl.ownBlock ≠ some a.block) (hn : cl.length ≤ 10000) (ty : TypeId) :
    ∃ A' n' c' w', (Builtin.append_ #[22, 22] ty #[vl, .slice (some ad) 1 1]).run Try.prog wr = .ok (.slice A' n' c') w' ∧ NewAt B w (w'.setCell ⟨B, 0, none⟩ (.slice A' n' c')) (.slice A' n' c') (cl ++ [y]) ∧
      w'.cell? ⟨B, 0, none⟩ = some vl ∧ w'.frozen? ⟨B, 0, none⟩ = false ∧ (∀ p v, wr.cell? p = some v → vl.ownBlock ≠ some p.block → p.block ≠ B → (w'.setCell ⟨B, 0, none⟩ (.slice A' n' c')).cell? p = some v) ∧ wr.heap.size ≤ w'.heap.size ∧
      (∀ p v, wr.cell? p = some v → vl.ownBlock ≠ some p.block → w'.cell? p = some v) := by
  obtain ⟨i, hi, hz0, hsz, hby⟩ := info_parts pat_info
  obtain ⟨v', w', hr, ho, hg, _, hat⟩ := run_append_own_at (P := Try.prog) wr (B + 1) 22 ty 50 i (.agg #[.string ⟨#[]⟩, .slice none 0 0]) 2 40 Try.underlying22 hi hz0 hsz hby rfl (by omega) vl cl.length (flatW cl) h.row ad 1 1 [.string y.s, .slice y.A y.ns.length y.c] rfl
    (fun j u hu => by
      match j, hu with
      | 0, hu => simp at hu; subst hu; simpa [Addr.add] using hc0
      | 1, hu => simp at hu; subst hu; exact hc1
      | j + 2, hu => simp at hu) (by simp [Value.oneCell']) (by unfold maxLen; omega) (by omega) h.bw
  obtain ⟨A', c', rfl, _⟩ := own_seen ho
  have BG : But (fun k => vl.ownBlock = some k) wr w' := But.of_grown hg (fun g hg => hg)
  have BS : But (Only B) w' (w'.setCell ⟨B, 0, none⟩ (.slice A' (cl.length + 1) c')) := But.set (S := Only B) w' ⟨B, 0, none⟩ _ rfl
  have oB : vl.ownBlock ≠ some B := fun e => by have := (h.row.lt _ e).1; omega
  have kb : Blk w' B 73 [vl, .int .u32 0, .int .i32 0, .int .u32 0, .int .i64 0, .map none, .map none] := BG.blk h.box oB
  have fresh : ∀ a : Nat, a < wr.heap.size → vl.ownBlock ≠ some a → (Value.slice A' (cl.length + 1) c').ownBlock ≠ some a := fun a h1 h2 h3 => by
    rcases hat with h4 | h4
    · rw [h4] at h3; exact h2 h3
    · rw [h4] at h3; cases h3; omega
  have lift : ∀ z : WP, SeenL wr z.A z.ns → (∀ a, z.A = some a → B < a.block ∧ a.block < wr.heap.size ∧ vl.ownBlock ≠ some a.block) →
      SeenL (w'.setCell ⟨B, 0, none⟩ (.slice A' (cl.length + 1) c')) z.A z.ns ∧ ∀ a, z.A = some a → B < a.block ∧ a.block < (w'.setCell ⟨B, 0, none⟩ (.slice A' (cl.length + 1) c')).heap.size ∧ (Value.slice A' (cl.length + 1) c').ownBlock ≠ some a.block := fun z sz hz =>
    ⟨seenL_keep (seenL_keep sz BG (fun _ a e k => (hz a e).2.2 k)) BS (fun _ a e k => by have := (hz a e).1; have k' : a.block = B := k; omega),
      fun a e => by
        obtain ⟨b1, b2, b3⟩ := hz a e
        exact ⟨b1, Nat.lt_of_lt_of_le (Nat.lt_of_lt_of_le b2 BG.size) BS.size, fresh _ b2 b3⟩⟩
  refine ⟨A', cl.length + 1, c', w', hr, ⟨?_, kb.set 0 _, h.bB, ?_, fun z hz => ?_⟩, kb.cell 0, kb.free 0, fun p v hp h1 h2 => BS.at (BG.at hp h1) h2, BG.size, fun p v hp h1 => BG.at hp h1⟩
  · have hb := h.bB
    exact BS.ext (BG.ext h.x (fun k e => by have := (h.row.lt k e).1; omega)) (fun k e => by have e' : k = B := e; omega)
  · rw [flatW_snoc, List.length_append]
    exact ownsRow_setCell_below ho (by show B < B + 1; omega) _
  · rcases List.mem_append.1 hz with hz | hz
    · exact lift z (h.inn z hz).1 (h.inn z hz).2
    · obtain rfl : z = y := by simpa using hz
      exact lift z sy hy
end L11
end Go.Proofs.Ytenajekmnggkeaa

