/- The document's Read of layer 13: gaps; what it keeps. -/
import Derived.Test.YtbiklbomacjihaaDoorOfB13
namespace Go.Proofs.YtbiklbomacjihaaDoor
open Go.RowKit
namespace L13
open L10 (gapB wordsGo wordsL)

set_option maxRecDepth 100000 in
set_option maxHeartbeats 2000000 in
theorem rgap_any (b : UInt8) (w : World) : Calls Tryd.prog 21 #[.int .u8 (b.toNat : Int)] w (Ret w (.bool (gapB b))) := by
  have H := Lib.hid (show gapB b = decide ((b.toNat : Int) = 9 ∨ (b.toNat : Int) = 10 ∨ (b.toNat : Int) = 13 ∨ (b.toNat : Int) = 32) by
    unfold gapB
    refine decide_eq_decide.2 ?_
    rw [← UInt8.toNat_inj, ← UInt8.toNat_inj, ← UInt8.toNat_inj, ← UInt8.toNat_inj]
    show (b.toNat = 9 ∨ b.toNat = 10 ∨ b.toNat = 13 ∨ b.toNat = 32) ↔ _
    omega)
  rw [H.out]
  clear H
  generalize (b.toNat : Int) = z
  by_cases h1 : z = 9
  · subst h1
    go_enter Tryd.func21, Tryd.ntmps21
    go_wp2_with fail
    go_ret
    exact ⟨rfl, Ext.refl _⟩
  by_cases h2 : z = 10
  · subst h2
    go_enter Tryd.func21, Tryd.ntmps21
    go_wp2_with fail
    go_ret
    exact ⟨rfl, Ext.refl _⟩
  by_cases h3 : z = 13
  · subst h3
    go_enter Tryd.func21, Tryd.ntmps21
    go_wp2_with fail
    go_ret
    exact ⟨rfl, Ext.refl _⟩
  by_cases h4 : z = 32
  · subst h4
    go_enter Tryd.func21, Tryd.ntmps21
    go_wp2_with fail
    go_ret
    exact ⟨rfl, Ext.refl _⟩
  have HF := Lib.hid (show false = decide (z = 9 ∨ z = 10 ∨ z = 13 ∨ z = 32) from (decide_eq_false (fun e => e.elim h1 (fun e => e.elim h2 (fun e => e.elim h3 h4)))).symm)
  generalize decide (z = 9 ∨ z = 10 ∨ z = 13 ∨ z = 32) = r at *
  go_enter Tryd.func21, Tryd.ntmps21
  go_wp2_with fail
  go_ret
  exact ⟨ret_bool (by rw [← HF.out]; simp [h1, h2, h3, h4]), Ext.refl _⟩

theorem word_info13 : (Tryd.prog.info? 36).map (fun i => (i.zero, i.size, i.bytes)) = some (some (.agg #[.slice none 0 0, .slice none 0 0]), 2, 48) := by kernel_rfl
/-- A word's two lists, made since w, not where v's cells are. -/
structure Inn (w wr : World) (v : Value) (y : CW) : Prop where
  a : SeenL wr y.A y.cs
  b : SeenL wr y.B y.ss
  la : ∀ ad, y.A = some ad → w.heap.size ≤ ad.block ∧ ad.block < wr.heap.size ∧ v.ownBlock ≠ some ad.block
  lb : ∀ ad, y.B = some ad → w.heap.size ≤ ad.block ∧ ad.block < wr.heap.size ∧ v.ownBlock ≠ some ad.block
/-- What Read keeps: one's own list of words. -/
structure Rd (w wr : World) (v : Value) (wl : List CW) : Prop where
  x : Ext w wr
  row : wr.ownsRow w.heap.size 36 2 v wl.length (flatC wl)
  inn : ∀ y ∈ wl, Inn w wr v y
theorem Rd.nil (w : World) : Rd w w (.slice none 0 0) [] := ⟨Ext.refl _, World.ownsRow_nil _ _ _ _, fun y hy => by simp at hy⟩
theorem Inn.ext {w wr w' : World} {v : Value} {y : CW} (h : Inn w wr v y) (x : Ext wr w') : Inn w w' v y :=
  ⟨h.a.ext x, h.b.ext x, fun ad e => by obtain ⟨h1, h2, h3⟩ := h.la ad e; exact ⟨h1, x.grows _ h2, h3⟩, fun ad e => by obtain ⟨h1, h2, h3⟩ := h.lb ad e; exact ⟨h1, x.grows _ h2, h3⟩⟩
theorem Rd.over {w wr w' : World} {v : Value} {wl : List CW} (h : Rd w wr v wl) (x : Ext wr w') : Rd w w' v wl := ⟨h.x.trans x, OwnsRow.ext h.row x, fun y hy => (h.inn y hy).ext x⟩
theorem seenL_but {S : Nat → Prop} {w w' : World} {A : Option Addr} {l : List Int} (h : SeenL w A l) (k : But S w w') (hn : ∀ ad, A = some ad → ¬ S ad.block) : SeenL w' A l := fun i v hv => by
  obtain ⟨ad, e, hb, hc⟩ := h i v hv
  exact ⟨ad, e, Nat.lt_of_lt_of_le hb k.size, k.at hc (by rw [addr_block]; exact hn ad e)⟩
/-- One word more. -/
theorem Rd.put {w wr : World} {v : Value} {wl : List CW} (h : Rd w wr v wl) (y : CW) (hy : Inn w wr v y) (hn : wl.length ≤ 400000) (ty : TypeId) :
    ∃ A' n' c' w', (Builtin.append_ #[24, 24] ty #[v, .slice (some ⟨wr.heap.size, 0, none⟩) 1 1]).run Tryd.prog (wr.alloc (.cells #[.slice y.A y.cs.length y.c, .slice y.B y.ss.length y.d] 36)) = .ok (.slice A' n' c') w' ∧ Rd w w' (.slice A' n' c') (wl ++ [y]) := by
  obtain ⟨i, hi, hz0, hsz, hby⟩ := info_parts word_info13
  have xa : Ext wr (wr.alloc (.cells #[.slice y.A y.cs.length y.c, .slice y.B y.ss.length y.d] 36)) := (Ext.refl wr).alloc _
  have h := h.over xa
  have hy := hy.ext xa
  have kN : Blk (wr.alloc (.cells #[.slice y.A y.cs.length y.c, .slice y.B y.ss.length y.d] 36)) wr.heap.size 36 [.slice y.A y.cs.length y.c, .slice y.B y.ss.length y.d] := Blk.lit _ _ _ _ rfl
  generalize wr.alloc (.cells #[.slice y.A y.cs.length y.c, .slice y.B y.ss.length y.d] 36) = wq at *
  obtain ⟨v', w', hr, ho, hg, _, hat⟩ := run_append_own_at (P := Tryd.prog) wq w.heap.size 24 ty 36 i (.agg #[.slice none 0 0, .slice none 0 0]) 2 48 Tryd.underlying24 hi hz0 hsz hby rfl (by omega) v wl.length (flatC wl) h.row ⟨wr.heap.size, 0, none⟩ 1 1 [.slice y.A y.cs.length y.c, .slice y.B y.ss.length y.d] rfl
    (fun j u hu => by
      match j, hu with
      | 0, hu => simp at hu; subst hu; exact kN.cell 0
      | 1, hu => simp at hu; subst hu; exact kN.cell 1
      | j + 2, hu => simp at hu) (by simp [Value.oneCell']) (by unfold maxLen; omega) (by omega) h.x.size
  obtain ⟨A', c', rfl, _⟩ := own_seen ho
  have BG : But (fun k => v.ownBlock = some k) wq w' := But.of_grown hg (fun g hg => hg)
  have fresh : ∀ a : Nat, a < wq.heap.size → v.ownBlock ≠ some a → (Value.slice A' (wl.length + 1) c').ownBlock ≠ some a := fun a h1 h2 h3 => by
    rcases hat with h4 | h4
    · rw [h4] at h3; exact h2 h3
    · rw [h4] at h3; cases h3; omega
  have lift : ∀ z : CW, Inn w wq v z → Inn w w' (.slice A' (wl.length + 1) c') z := fun z hz =>
    ⟨seenL_but hz.a BG (fun a e => (hz.la a e).2.2), seenL_but hz.b BG (fun a e => (hz.lb a e).2.2),
      fun a e => by obtain ⟨b1, b2, b3⟩ := hz.la a e; exact ⟨b1, Nat.lt_of_lt_of_le b2 BG.size, fresh _ b2 b3⟩,
      fun a e => by obtain ⟨b1, b2, b3⟩ := hz.lb a e; exact ⟨b1, Nat.lt_of_lt_of_le b2 BG.size, fresh _ b2 b3⟩⟩
  refine ⟨A', wl.length + 1, c', w', hr, BG.ext h.x (fun k e => (h.row.lt k e).1), ?_, fun z hz => ?_⟩
  · rw [flatC_snoc, List.length_append]
    exact ho
  · rcases List.mem_append.1 hz with hz | hz
    · exact lift z (h.inn z hz)
    · obtain rfl : z = y := by simpa using hz
      exact lift z hy
/-- The list, seen. -/
theorem Rd.look {w wr : World} {v : Value} {wl : List CW} (h : Rd w wr v wl) : ∃ A c, v = .slice A wl.length c ∧ wl.length ≤ c ∧ c ≤ maxLen ∧ SeenC wr A wl := by
  obtain ⟨A, c, rfl, hs⟩ := own_seen h.row
  have hin : ∀ x ∈ wl, SeenL wr x.A x.cs ∧ SeenL wr x.B x.ss := fun x hx => ⟨(h.inn x hx).a, (h.inn x hx).b⟩
  obtain ⟨_, ⟨e1, h1⟩ | ⟨g, cap, cur, e1, _, _, hc, hm, _⟩⟩ := h.row
  · simp only [Value.slice.injEq] at e1
    exact ⟨A, c, rfl, by omega, by unfold maxLen; omega, seenC_of hs hin⟩
  · simp only [Value.slice.injEq] at e1
    exact ⟨A, c, rfl, by omega, by omega, seenC_of hs hin⟩
end L13
end Go.Proofs.YtbiklbomacjihaaDoor

