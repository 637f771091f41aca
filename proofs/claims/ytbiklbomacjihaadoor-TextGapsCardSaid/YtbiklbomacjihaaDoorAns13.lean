/- Layer 13: what is answered, in the form that the laws use. -/
import Derived.Test.YtbiklbomacjihaaDoorAwake13
import Derived.Test.YtbiklbomacjihaaDoorFew13
namespace Go.Proofs.YtbiklbomacjihaaDoor
open Go.RowKit
namespace L13

theorem check_parts {l : List TW} (h : checkB l = true) : 1 ≤ l.length ∧ l.length ≤ 100 ∧ (∀ p ∈ l, wordB p = true) ∧ sumC l ≤ 400 := by
  simp only [checkB, Bool.and_eq_true, decide_eq_true_eq, List.all_eq_true] at h
  exact ⟨h.1.1, h.1.2, h.2.1, h.2.2⟩
theorem readA_cases (t : List UInt8) : ((readA t).2 = 0 ∧ checkB (readA t).1 = true) ∨ ((readA t).2 = 130 ∧ (readA t).1 = []) := by
  unfold readA fromL
  split
  · rename_i h
    simp only [Bool.and_eq_true] at h
    exact .inl ⟨rfl, h.2⟩
  · exact .inr ⟨rfl, rfl⟩
theorem readA_len (t : List UInt8) : (readA t).1.length ≤ 100 ∧ ∀ p ∈ (readA t).1, wordB p = true := by
  rcases readA_cases t with ⟨_, h⟩ | ⟨_, h⟩
  · have := check_parts h
    exact ⟨this.2.1, this.2.2.1⟩
  · rw [h]; simp
theorem soft_len {p : TW} (h : wordB p = true) : p.1.length ≤ 60 ∧ p.2.length ≤ 60 := by
  have h1 := word_short h
  simp only [wordB, Bool.and_eq_true] at h
  have := rises_len _ _ _ h.2.2 (by omega)
  omega
theorem word_in {wl : List CW} (h : ∀ p ∈ wl.map tw, wordB p = true) : ∀ x ∈ wl, x.cs.length ≤ 1000000 ∧ x.ss.length ≤ 1000000 := fun x hx => by
  have h1 := soft_len (h (tw x) (List.mem_map.2 ⟨x, hx, rfl⟩))
  unfold tw at h1
  dsimp only at h1
  omega
theorem Good.len {w : World} {A : Option Addr} {wl : List CW} {c : Nat} {t : List UInt8} (_ : Good w A wl c) (e : wl.map tw = (readA t).1) : wl.length ≤ 100 := by
  have := (readA_len t).1
  rw [← e, List.length_map] at this
  exact this
theorem rread_all (A : Option Addr) (t : List UInt8) (n c : Nat) (w : World) (ht : SeenB w A t) (hn : n = t.length) (hm : n ≤ 100000) (hc : n ≤ c) : Calls Tryd.prog 12 #[.slice A n c] w (ReadG w t) := by
  refine (rread_any A t n c w ht hn hm hc).mono ?_
  rintro e w' ⟨hx, A', c', wl, rfl, h1, h2, h3, h4, h5⟩
  exact ⟨hx, A', wl, c', rfl, h1, h2, h3, h4, h5⟩
/-- The text of words, or its error. -/
def textA (l : List TW) : List UInt8 × Int := if checkB l = true then (textL l, 0) else ([], 130)
def WriteG (w : World) (r : List UInt8 × Int) (e : Ending) (w' : World) : Prop :=
  Ext w w' ∧ ∃ A c, e = .returned (.tuple #[.slice A r.1.length c, .int .i64 r.2]) ∧ r.1.length ≤ c ∧ c ≤ maxLen ∧ SeenB w' A r.1
theorem write_all (A : Option Addr) (l : List CW) (n c : Nat) (w : World) (hs : SeenC w A l) (hn : n = l.length) (ok : ∀ x ∈ l, x.Ok) : Calls Tryd.prog 15 #[.slice A n c] w (WriteG w (textA (l.map tw))) := by
  unfold textA
  cases h : checkB (l.map tw) with
  | true =>
    refine (write_yes A l n c w hs hn ok h).mono ?_
    rintro e w' ⟨hx, A', c', rfl, h1, h2, h3⟩
    exact ⟨hx, A', c', rfl, h1, h2, h3⟩
  | false =>
    refine (write_no A l n c w hs hn ok h).mono ?_
    rintro e w' ⟨rfl, hx⟩
    exact ⟨hx, none, 0, rfl, Nat.le_refl _, by unfold maxLen; omega, SeenB.nil⟩
def RWriteG (w : World) (r : List UInt8 × Int) (e : Ending) (w' : World) : Prop :=
  Ext w w' ∧ ∃ A c, e = .returned (.tuple #[.slice A r.1.length c, .int .i64 r.2]) ∧ SeenB w' A r.1
theorem rwrite_all (A : Option Addr) (l : List CW) (n c : Nat) (w : World) (hs : SeenC w A l) (hn : n = l.length) (ok : ∀ x ∈ l, x.Ok) : Calls Tryd.prog 16 #[.slice A n c] w (RWriteG w (textA (l.map tw))) := by
  unfold textA
  cases h : checkB (l.map tw) with
  | true =>
    refine (rwrite_yes A l n c w hs hn ok h).mono ?_
    rintro e w' ⟨hx, A', c', rfl, h3⟩
    exact ⟨hx, A', c', rfl, h3⟩
  | false =>
    refine (rwrite_no A l n c w hs hn ok h).mono ?_
    rintro e w' ⟨rfl, hx⟩
    exact ⟨hx, none, 0, rfl, SeenB.nil⟩
theorem OwnB.look {t : TypeId} {w0 w : World} {v : Value} {l : List UInt8} (h : OwnB t w0 w v l) : ∃ A c, v = .slice A l.length c ∧ l.length ≤ c ∧ c ≤ maxLen ∧ SeenB w A l := by
  obtain ⟨A, c, rfl, h1, h2⟩ := h.seen
  refine ⟨A, c, rfl, h1, ?_, h2⟩
  obtain ⟨_, ⟨e1, _⟩ | ⟨g, cap, cur, e1, _, _, _, hm, _⟩⟩ := h.1
  · simp only [Value.slice.injEq] at e1
    unfold maxLen; omega
  · simp only [Value.slice.injEq] at e1
    omega
theorem few_parts {l : List CW} (h : fewB (l.map tw) = true) : l.length ≤ 110 ∧ ∀ x ∈ l, x.cs.length ≤ 100 ∧ x.ss.length ≤ 100 := by
  simp only [fewB, few1, Bool.and_eq_true, decide_eq_true_eq, List.all_eq_true, List.length_map] at h
  exact ⟨h.1, fun x hx => h.2 (tw x) (List.mem_map.2 ⟨x, hx, rfl⟩)⟩
end L13
end Go.Proofs.YtbiklbomacjihaaDoor

