/- One's own numbers, to which more are put. -/
import Derived.Test.YtmmgmcfhlhghoaaMid09
import Derived.Test.YtmmgmcfhlhghoaaTexts10
import Derived.Laws.EntriesVeiled
import Derived.Shelf.Abstract
namespace Go.Proofs.Ytmmgmcfhlhghoaa
open Go.RowKit

/-- One's own numbers, made since w0. -/
def OwnI (w0 w : World) (v : Value) (l : List Int) : Prop := w.ownsRow w0.heap.size 3 1 v l.length (l.map (.int .i64)) ∧ Ext w0 w
theorem OwnI.nil {w0 w : World} (x : Ext w0 w) : OwnI w0 w (.slice none 0 0) [] := ⟨World.ownsRow_nil _ _ _ _, x⟩
theorem OwnI.over {w0 w w' : World} {v : Value} {l : List Int} (h : OwnI w0 w v l) (x : Ext w w') : OwnI w0 w' v l := ⟨OwnsRow.ext h.1 x, h.2.trans x⟩
theorem OwnI.seen {w0 w : World} {v : Value} {l : List Int} (h : OwnI w0 w v l) : ∃ A c, v = .slice A l.length c ∧ SeenL w A l ∧ ∀ ad, A = some ad → w0.heap.size ≤ ad.block := by
  obtain ⟨A, c, rfl, hs⟩ := own_seen h.1
  exact ⟨A, c, rfl, hs, fun ad e => (h.1.lt ad.block (by rw [e]; rfl)).1⟩
theorem OwnI.empty {w0 w : World} (x : Ext w0 w) : OwnI w0 (w.alloc (.cells #[] 3)) (.slice (some ⟨w.heap.size, 0, none⟩) 0 0) [] :=
  ⟨World.ownsRow_lit (base := w0.heap.size) (e := 3) (size := 1) w #[] 0 x.size (by unfold maxLen; omega) (by simp), x.alloc _⟩
theorem int_info12 : (Try.prog.info? 3).map (fun i => (i.zero, i.size, i.bytes)) = some (some (.int .i64 0), 1, 8) := by kernel_rfl
/-- append(own, more...). -/
theorem OwnI.puts {w0 w : World} {v : Value} {l : List Int} (h : OwnI w0 w v l) (A : Option Addr) (m : List Int) (n c : Nat) (hs : SeenL w A m) (hn : n = m.length) (hm : l.length + m.length ≤ 1000000) (ty : TypeId) :
    ∃ v' w', (Builtin.append_ #[36, 36] ty #[v, .slice A n c]).run Try.prog w = .ok v' w' ∧ OwnI w0 w' v' (l ++ m) := by
  subst hn
  obtain ⟨i, hi, hz0, hsz, hby⟩ := info_parts int_info12
  rcases A with _ | ad
  · have hl : m = [] := by
      rcases m with _ | ⟨b, m⟩
      · rfl
      · obtain ⟨_, e, _⟩ := hs.get (k := 0) (by simp); cases e
    subst hl
    refine ⟨v, w, ?_, by simpa using h⟩
    rcases h.1.2 with ⟨rfl, _⟩ | ⟨g, cap, cur, rfl, _, _, hnc, _⟩
    · simp [Builtin.append_, run_underlying Try.underlying36, Go.sizeOf, typeInfo, hi, Builtin.lenOf, Builtin.firstCells]
    · simp [Builtin.append_, run_underlying Try.underlying36, Go.sizeOf, typeInfo, hi, Builtin.lenOf, Builtin.firstCells, hnc, storeCells]
  · obtain ⟨v', w', hr, ho, hg, _, _⟩ := run_append_own_at (P := Try.prog) w w0.heap.size 36 ty 3 i (.int .i64 0) 1 8 Try.underlying36 hi hz0 hsz hby rfl (by omega) v l.length (l.map (.int .i64)) h.1 ad m.length c (m.map (.int .i64)) (by simp)
      (fun j u hu => by
        obtain ⟨ad', e, _, hc⟩ := hs j u hu
        cases e
        exact hc) (by simp [Value.oneCell']) (by unfold maxLen; omega) (by omega) h.2.size
    refine ⟨v', w', hr, ?_, Below.grown h.2 hg h.2.size (fun k hk => (h.1.lt k hk).1)⟩
    rw [List.length_append, List.map_append]
    exact ho
/-- append(own, x). -/
theorem OwnI.put {w0 w : World} {v : Value} {l : List Int} (h : OwnI w0 w v l) (x : Int) (hm : l.length + 1 ≤ 1000000) (ty : TypeId) :
    ∃ v' w', (Builtin.append_ #[36, 36] ty #[v, .slice (some ⟨w.heap.size, 0, none⟩) 1 1]).run Try.prog (w.alloc (.cells #[.int .i64 x] 3)) = .ok v' w' ∧ OwnI w0 w' v' (l ++ [x]) :=
  (h.over ((Ext.refl w).alloc (.cells #[.int .i64 x] 3))).puts _ [x] 1 1 (seen_new w [.int .i64 x] 3) rfl (by simpa using hm) ty
end Go.Proofs.Ytmmgmcfhlhghoaa

