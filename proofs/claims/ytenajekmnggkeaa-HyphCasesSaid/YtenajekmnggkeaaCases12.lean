/- Great letters and small ones: what HyphCases says, plain; two lists of one's own numbers. -/
import Derived.Test.YtenajekmnggkeaaPlain12
import Derived.Test.YtenajekmnggkeaaRoom12
import Derived.Test.YtenajekmnggkeaaBut11
namespace Go.Proofs.Ytenajekmnggkeaa
open Go.RowKit

/-- Two lists of one's own. -/
structure Two (W w : World) (va vb : Value) (la lb : List Int) : Prop where
  x : Ext W w
  a : w.ownsRow W.heap.size 3 1 va la.length (la.map (.int .i64))
  b : w.ownsRow W.heap.size 3 1 vb lb.length (lb.map (.int .i64))
  ne : ∀ g, va.ownBlock = some g → vb.ownBlock ≠ some g
theorem Two.nil (W : World) : Two W W (.slice none 0 0) (.slice none 0 0) [] [] := ⟨Ext.refl _, World.ownsRow_nil _ _ _ _, World.ownsRow_nil _ _ _ _, fun g e => by cases e⟩
theorem Two.over {W w w' : World} {va vb : Value} {la lb : List Int} (h : Two W w va vb la lb) (x : Ext w w') : Two W w' va vb la lb := ⟨h.x.trans x, OwnsRow.ext h.a x, OwnsRow.ext h.b x, h.ne⟩
theorem Two.swap {W w : World} {va vb : Value} {la lb : List Int} (h : Two W w va vb la lb) : Two W w vb va lb la := ⟨h.x, h.b, h.a, fun g e f => h.ne g f e⟩
theorem row_keeps {S : Nat → Prop} {w w' : World} {base : Nat} {e : TypeId} {size n : Nat} {v : Value} {xs : List Value} (k : But S w w') (h : w.ownsRow base e size v n xs) (hne : ∀ g, v.ownBlock = some g → ¬ S g) : w'.ownsRow base e size v n xs := by
  refine ⟨h.1, ?_⟩
  rcases h.2 with hn | ⟨g, cap, cur, rfl, hb, hgg, rest⟩
  · exact .inl hn
  · exact .inr ⟨g, cap, cur, rfl, hb, (k.block g (Array.getElem?_eq_some_iff.1 hgg).1 (hne g rfl)).trans hgg, rest⟩
/-- append(the first one, more...). -/
theorem Two.puts {W w : World} {va vb : Value} {la lb : List Int} (h : Two W w va vb la lb) (ad : Addr) (m : List Int) (n c : Nat) (hs : SeenL w (some ad) m) (hn : n = m.length) (hm : la.length + m.length ≤ 1000000) (ty : TypeId) :
    ∃ v' w', (Builtin.append_ #[26, 26] ty #[va, .slice (some ad) n c]).run Try.prog w = .ok v' w' ∧ Two W w' v' vb (la ++ m) lb := by
  subst hn
  obtain ⟨i, hi, hz0, hsz, hby⟩ := info_parts int_info12
  obtain ⟨v', w', hr, ho, hg, _, hat⟩ := run_append_own_at (P := Try.prog) w W.heap.size 26 ty 3 i (.int .i64 0) 1 8 Try.underlying26 hi hz0 hsz hby rfl (by omega) va la.length (la.map (.int .i64)) h.a ad m.length c (m.map (.int .i64)) (by simp)
    (fun j u hu => by
      obtain ⟨ad', e, _, hc⟩ := hs j u hu
      cases e
      exact hc) (by simp [Value.oneCell']) (by unfold maxLen; omega) (by omega) h.x.size
  have BG : But (fun k => va.ownBlock = some k) w w' := But.of_grown hg (fun g hg => hg)
  refine ⟨v', w', hr, Below.grown h.x hg h.x.size (fun k hk => (h.a.lt k hk).1), ?_, row_keeps BG h.b (fun g e hS => h.ne g hS e), fun g e f => ?_⟩
  · rw [List.length_append, List.map_append]
    exact ho
  · rcases hat with h1 | h1
    · rw [h1] at e
      exact h.ne g e f
    · rw [h1] at e
      cases e
      have := (h.b.lt _ f).2
      omega
/-- append(the first one, x). -/
theorem Two.put {W w : World} {va vb : Value} {la lb : List Int} (h : Two W w va vb la lb) (x : Int) (hm : la.length + 1 ≤ 1000000) (ty : TypeId) :
    ∃ v' w', (Builtin.append_ #[26, 26] ty #[va, .slice (some ⟨w.heap.size, 0, none⟩) 1 1]).run Try.prog (w.alloc (.cells #[.int .i64 x] 3)) = .ok v' w' ∧ Two W w' v' vb (la ++ [x]) lb :=
  (h.over ((Ext.refl w).alloc (.cells #[.int .i64 x] 3))).puts _ [x] 1 1 (seen_new w [.int .i64 x] 3) rfl (by simpa using hm) ty
/-- The first one is seen. -/
theorem Two.seen {W w : World} {va vb : Value} {la lb : List Int} (h : Two W w va vb la lb) : ∃ A c, va = .slice A la.length c ∧ la.length ≤ c ∧ c ≤ maxLen ∧ SeenL w A la ∧ ∀ ad, A = some ad → W.heap.size ≤ ad.block := by
  obtain ⟨A, c, rfl, hs, ha⟩ := OwnI.seen (show OwnI W w va la from ⟨h.a, h.x⟩)
  obtain ⟨h1, h2⟩ := OwnI.room (show OwnI W w (.slice A la.length c) la from ⟨h.a, h.x⟩)
  exact ⟨A, c, rfl, h1, h2, hs, ha⟩

namespace L12
open L10 (TN plainB patB letterB)

/-- A letter of a byte. -/
def letN (b : UInt8) : Int := 97 + (b.toNat : Int) % 26
theorem letN_small (b : UInt8) : small (letN b) = letN b ∧ isL (letN b) = true ∧ small (letN b - 32) = letN b ∧ isL (letN b - 32) = true := by
  have h1 : 97 ≤ letN b ∧ letN b ≤ 122 := by unfold letN; omega
  have e1 : small (letN b) = letN b := by rw [small, if_neg (by omega), if_pos (by omega)]
  have e2 : small (letN b - 32) = letN b := by rw [small, if_pos (by omega)]; omega
  exact ⟨e1, by rw [isL_iff, e1]; omega, e2, by rw [isL_iff, e2]; omega⟩
/-- Letters, great or small, that are the same as small ones. -/
structure SameLet (l : List Int) (m : List Int) : Prop where
  same : byteL m = byteL l
  let1 : ∀ c ∈ l, isL c = true
  let2 : ∀ c ∈ m, isL c = true
theorem SameLet.nil : SameLet [] [] := ⟨rfl, by simp, by simp⟩
theorem SameLet.snoc {l m : List Int} (h : SameLet l m) {c d : Int} (e : small d = small c) (hc : isL c = true) (hd : isL d = true) : SameLet (l ++ [c]) (m ++ [d]) :=
  ⟨by rw [byteL_snoc, byteL_snoc, h.same, e], fun x hx => (List.mem_append.1 hx).elim (h.let1 x) (fun k => by rw [List.mem_singleton.1 k]; exact hc), fun x hx => (List.mem_append.1 hx).elim (h.let2 x) (fun k => by rw [List.mem_singleton.1 k]; exact hd)⟩
theorem SameLet.len {l m : List Int} (h : SameLet l m) : m.length = l.length := by
  have := congrArg List.length h.same
  simpa [byteL_length] using this
/-- Codes that are no letters ahead, and behind, move points alone. -/
theorem alike_points {l m a b : List Int} (h : SameLet l m) (ha : ∀ c ∈ a, isL c = false) (hb : ∀ c ∈ b, isL c = false) (hl : l.length ≤ 40) (p : List TN) (left right : Int) :
    coreL (a ++ m ++ b) = coreL l ∧ (coreL l).length = l.length ∧ (l ≠ [] → coreN (a ++ m ++ b) = a.length) ∧ pointsL p [] (a ++ m ++ b) left right = (pointsL p [] l left right).map fun x => x + (a.length : Int) := by
  by_cases hne : l = []
  · subst hne
    have hm : m = [] := List.length_eq_zero_iff.1 h.len
    subst hm
    have e1 : coreB ([] : List Int) = false := none_core (by simp)
    have e2 : coreB (a ++ [] ++ b) = false := none_core (fun c hc => by
      rw [List.append_nil] at hc
      exact (List.mem_append.1 hc).elim (ha c) (hb c))
    refine ⟨by rw [coreL_no e1, coreL_no e2], by rw [coreL_no e1]; rfl, fun k => absurd rfl k, by rw [points_no e1, points_no e2]; rfl⟩
  · have hmne : m ≠ [] := fun e => hne (List.length_eq_zero_iff.1 (by rw [← h.len, e]; rfl))
    obtain ⟨b1, b2, b3⟩ := frame_core ha h.let2 hb (by rw [h.len]; exact hl) hmne
    obtain ⟨c1, c2, c3⟩ := frame_core (a := []) (b := []) (by simp) h.let1 (by simp) hl hne
    simp only [List.nil_append, List.append_nil, List.length_nil] at c1 c2 c3
    have e : coreL (a ++ m ++ b) = coreL l := by rw [b2, c2, h.same]
    refine ⟨e, by rw [c2, byteL_length], fun _ => b3, ?_⟩
    rw [points_yes b1, points_yes c1, e, b3, c3, List.map_map]
    refine List.map_congr_left fun x _ => ?_
    simp only [Function.comp]
    omega
end L12
end Go.Proofs.Ytenajekmnggkeaa

