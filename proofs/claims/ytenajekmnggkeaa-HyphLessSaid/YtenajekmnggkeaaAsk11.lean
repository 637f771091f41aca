/- A trie, made or not, and what asking it leaves: layer 11's Nodes. -/
import Derived.Test.YtenajekmnggkeaaRaise11
namespace Go.Proofs.Ytenajekmnggkeaa
open Go.RowKit
open Go.Lib hiding intOf
namespace L11
open L10 (TN plainB patB tn)

/-- A trie that is not made yet. -/
def RawAt (w : World) (B : Nat) (F : Nat → Prop) (p : List TN) : Prop :=
  ∃ LA lc l, List.map tn l = p ∧ Blk w B 73 [.slice LA l.length lc, .int .u32 0, .int .i32 0, .int .u32 0, .int .i64 0, .map none, .map none] ∧ SeenW w LA l ∧ (l ≠ [] → ∀ ad, LA = some ad → F ad.block) ∧ ∀ x ∈ l, ∀ ad, x.A = some ad → F ad.block
/-- A trie of the patterns p, at block B; its pieces' blocks are all in F. -/
structure TrieAt (w : World) (B : Nat) (F : Nat → Prop) (p : List TN) : Prop where
  pat : ∀ x ∈ p, patB x = true
  len : p.length ≤ 300
  own : ¬ F B
  low : ∀ k, F k → k < w.heap.size
  st : RawAt w B F p ∨ ∃ bs bv G, MadeAt w B bs bv 1 0 p G ∧ ∀ k, pieces bs bv p G k → F k
theorem MadeAt.lt {w : World} {B bs bv : Nat} {d st : Int} {p : List TN} {G : List UInt8 → Nat} (h : MadeAt w B bs bv d st p G) {k : Nat} (hk : pieces bs bv p G k) : k < w.heap.size := by
  rcases hk with rfl | rfl | ⟨q, hq, rfl⟩
  · exact h.steps.lt
  · exact h.rows.lt
  · exact (h.rows.row q hq).lt
theorem MadeAt.keepB {S : Nat → Prop} {w w' : World} {B bs bv : Nat} {d st : Int} {p : List TN} {G : List UInt8 → Nat} (h : MadeAt w B bs bv d st p G) (x : But S w w') (hB : ¬ S B) (hP : ∀ k, pieces bs bv p G k → ¬ S k) : MadeAt w' B bs bv d st p G :=
  ⟨x.blk h.box hB, h.steps.keepB x (hP _ (.inl rfl)), h.rows.keepB x (hP _ (.inr (.inl rfl))) (fun q hq => hP _ (.inr (.inr ⟨q, hq, rfl⟩))), h.ne⟩
theorem TrieAt.lt {w : World} {B : Nat} {F : Nat → Prop} {p : List TN} (h : TrieAt w B F p) : B < w.heap.size := by
  rcases h.st with ⟨_, _, _, _, hb, _⟩ | ⟨_, _, _, hm, _⟩
  · exact hb.lt
  · exact hm.box.lt
theorem pat_ne {x : WP} (h : patB (tn x) = true) : x.ns ≠ [] := fun e => by
  have h1 := (L10.pat_vals h).1
  simp only [tn] at h1
  rw [e] at h1
  simp at h1
theorem TrieAt.keepB {S : Nat → Prop} {w w' : World} {B : Nat} {F : Nat → Prop} {p : List TN} (h : TrieAt w B F p) (x : But S w w') (hB : ¬ S B) (hF : ∀ k, F k → ¬ S k) : TrieAt w' B F p := by
  refine ⟨h.pat, h.len, h.own, fun k hk => Nat.lt_of_lt_of_le (h.low k hk) x.size, ?_⟩
  rcases h.st with ⟨LA, lc, l, hl, hb, hs, h1, h2⟩ | ⟨bs, bv, G, hm, h1⟩
  · refine .inl ⟨LA, lc, l, hl, x.blk hb hB, fun i y hy => ?_, h1, h2⟩
    obtain ⟨⟨ad, e, hlt, a0, a1⟩, hn⟩ := hs i y hy
    have hne : l ≠ [] := by rintro rfl; simp at hy
    have hnS := hF _ (h1 hne ad e)
    have hym : y ∈ l := List.mem_of_getElem? hy
    exact ⟨⟨ad, e, Nat.lt_of_lt_of_le hlt x.size, x.at a0 (by rw [addr_block]; exact hnS), x.at a1 (by rw [addr_block]; exact hnS)⟩, seenL_keep hn x (fun _ ad' e' => hF _ (h2 y hym ad' e'))⟩
  · exact .inr ⟨bs, bv, G, hm.keepB x hB (fun k hk => hF k (h1 k hk)), h1⟩
theorem TrieAt.ext {w w' : World} {B : Nat} {F : Nat → Prop} {p : List TN} (h : TrieAt w B F p) (x : Ext w w') : TrieAt w' B F p := h.keepB (But.of_ext (S := fun _ => False) x) id (fun _ _ => id)
theorem TrieAt.wide {w : World} {B : Nat} {F F' : Nat → Prop} {p : List TN} (h : TrieAt w B F p) (hF : ∀ k, F k → F' k) (hB : ¬ F' B) (hl : ∀ k, F' k → k < w.heap.size) : TrieAt w B F' p := by
  refine ⟨h.pat, h.len, hB, hl, ?_⟩
  rcases h.st with ⟨LA, lc, l, hl, hb, hs, h1, h2⟩ | ⟨bs, bv, G, hm, h1⟩
  · exact .inl ⟨LA, lc, l, hl, hb, hs, fun hne ad e => hF _ (h1 hne ad e), fun x hx ad e => hF _ (h2 x hx ad e)⟩
  · exact .inr ⟨bs, bv, G, hm, fun k hk => hF k (h1 k hk)⟩
/-- What asking leaves of the trie: it is made. -/
def AskedAt (w : World) (B : Nat) (F : Nat → Prop) (p : List TN) (w' : World) : Prop :=
  But (Only B) w w' ∧ ∃ bs bv G, MadeAt w' B bs bv 1 0 p G ∧ ∀ k, pieces bs bv p G k → F k ∨ (w.heap.size ≤ k ∧ k < w'.heap.size)
def AskQ (w : World) (B : Nat) (F : Nat → Prop) (p : List TN) (e : Ending) (w' : World) : Prop := e = .returned (.tuple #[]) ∧ AskedAt w B F p w'

theorem ask_any (w : World) (B : Nat) (F : Nat → Prop) (p : List TN) (T : TrieAt w B F p) :
    Calls Try.prog 42 #[.pointer (some ⟨B, 1, none⟩), .func (.func 43) #[.pointer (some ⟨B, 0, none⟩)] #[]] w (AskQ w B F p) := by
  rcases T.st with ⟨LA, lc, l, hl, hb, hs, h1, h2⟩ | ⟨bs, bv, G, hm, h1⟩
  · have bS : But (Only B) w (w.setCell ⟨B, 2, none⟩ (.int .i32 1)) := But.set (S := Only B) w ⟨B, 2, none⟩ _ rfl
    have hlB : ∀ x ∈ l, ∀ ad, x.A = some ad → ad.block ≠ B := fun x hx ad e k => T.own (by rw [← k]; exact h2 x hx ad e)
    have hLB : l ≠ [] → ∀ ad, LA = some ad → ad.block ≠ B := fun hne ad e k => T.own (by rw [← k]; exact h1 hne ad e)
    have hp : ∀ x ∈ l, patB (tn x) = true := fun x hx => T.pat _ (by rw [← hl]; exact List.mem_map.2 ⟨x, hx, rfl⟩)
    have hn : l.length ≤ 300 := by have := T.len; rw [← hl] at this; simpa using this
    have hs2 : SeenW (w.setCell ⟨B, 2, none⟩ (.int .i32 1)) LA l := fun i y hy => by
      obtain ⟨⟨ad, e, hlt, a0, a1⟩, hn⟩ := hs i y hy
      have hne : l ≠ [] := by rintro rfl; simp at hy
      have hnS := hLB hne ad e
      have hym : y ∈ l := List.mem_of_getElem? hy
      exact ⟨⟨ad, e, Nat.lt_of_lt_of_le hlt bS.size, bS.at a0 (by rw [addr_block]; exact hnS), bS.at a1 (by rw [addr_block]; exact hnS)⟩, seenL_keep hn bS (fun _ ad' e' => hlB y hym ad' e')⟩
    refine (do_first (BuildQ (w.setCell ⟨B, 2, none⟩ (.int .i32 1)) B p) B 1 (.pointer (some ⟨B, 0, none⟩)) w (hb.cell 1) (hb.cell 2) (hb.free 2) ?_).mono ?_
    · refine (build_any B LA lc l _ (hb.set 2 (.int .i32 1)) hs2 hp hLB hlB hn).mono ?_
      rintro e w1 ⟨rfl, hq⟩
      rw [hl] at hq
      obtain ⟨_, bs, bv, G, hm, _⟩ := id hq
      exact ⟨rfl, hq, hm.box.cell 1, hm.box.free 1, hm.box.cell 2, hm.box.free 2⟩
    · rintro e w' ⟨rfl, w1, ⟨hb1, bs, bv, G, hm, hF⟩, hw'⟩
      have hB : B < w.heap.size := hb.lt
      have b2 : But (Only B) w1 w' := by
        rw [hw']
        exact ((But.refl (Only B) w1).drew.trans (But.set (S := Only B) w1.drew ⟨B, 1, none⟩ (.int .u32 1) rfl) (fun i hi => .inl hi)).trans (But.set (S := Only B) _ ⟨B, 1 + 1, none⟩ (.int .i32 0) rfl) (fun i hi => .inl hi)
      have hsz : (w.setCell ⟨B, 2, none⟩ (.int .i32 1)).heap.size = w.heap.size := size_set _ _ _
      rw [hsz] at hF
      have hm2 : MadeAt w' B bs bv 1 0 p G := by
        have hP : ∀ k, pieces bs bv p G k → ¬ Only B k := fun k hk e => by have := hF k hk; have e' : k = B := e; omega
        refine ⟨?_, hm.steps.keepB b2 (hP _ (.inl rfl)), hm.rows.keepB b2 (hP _ (.inr (.inl rfl))) (fun q hq => hP _ (.inr (.inr ⟨q, hq, rfl⟩))), hm.ne⟩
        rw [hw']
        have h3 : Blk w1.drew B 73 (trieC (.slice none 0 0) 0 1 (nodesL p).length bs bv) := hm.box
        exact (h3.set 1 (.int .u32 1)).set 2 (.int .i32 0)
      exact ⟨rfl, (bS.trans hb1 (fun i hi => .inl hi)).trans b2 (fun i hi => .inl hi), bs, bv, G, hm2, fun k hk => .inr ⟨hF k hk, hm2.lt hk⟩⟩
  · refine (do_done ⟨B, 1, none⟩ _ w (hm.box.cell 1)).mono ?_
    rintro e w' ⟨rfl, rfl⟩
    exact ⟨rfl, But.refl _ _, bs, bv, G, hm, fun k hk => .inl (h1 k hk)⟩
/-- A trie that is asked, as it is afterwards. -/
def Later (w : World) (B : Nat) (F : Nat → Prop) (p : List TN) (w' : World) : Prop := But (Only B) w w' ∧ ∃ F', TrieAt w' B F' p ∧ ∀ k, F' k → F k ∨ (w.heap.size ≤ k ∧ k < w'.heap.size)
theorem AskedAt.later {w w' : World} {B : Nat} {F : Nat → Prop} {p : List TN} (h : AskedAt w B F p w') (T : TrieAt w B F p) : Later w B F p w' := by
  obtain ⟨hb, bs, bv, G, hm, hF⟩ := h
  exact ⟨hb, fun k => F k ∨ (w.heap.size ≤ k ∧ k < w'.heap.size), ⟨T.pat, T.len, fun k => k.elim T.own (fun h => by have := T.lt; omega), fun k hk => hk.elim (fun h => Nat.lt_of_lt_of_le (T.low k h) hb.size) (fun h => h.2), .inr ⟨bs, bv, G, hm, hF⟩⟩, fun _ h => h⟩

end L11
end Go.Proofs.Ytenajekmnggkeaa

