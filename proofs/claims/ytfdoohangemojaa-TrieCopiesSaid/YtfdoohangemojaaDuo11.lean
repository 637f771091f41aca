/- Two tries beside each other; what they answer may be written over. -/
import Derived.Test.YtfdoohangemojaaCopy11
namespace Go.Proofs.Ytfdoohangemojaa
open Go.RowKit
open Go.Lib hiding intOf
namespace L11
open L10 (TN plainB patB tn rd patsB)

/-- Two tries that share nothing. -/
def Duo (w : World) (B B' : Nat) (p q : List TN) : Prop := ∃ F F', TrieAt w B F p ∧ TrieAt w B' F' q ∧ Apart B F B' F'
theorem Duo.rot {w : World} {B B' : Nat} {p q : List TN} (h : Duo w B B' p q) : Duo w B' B q p := by
  obtain ⟨F, F', h1, h2, a⟩ := h
  exact ⟨F', F, h2, h1, a.symm⟩
theorem Duo.ext {w w' : World} {B B' : Nat} {p q : List TN} (h : Duo w B B' p q) (x : Ext w w') : Duo w' B B' p q := by
  obtain ⟨F, F', h1, h2, a⟩ := h
  exact ⟨F, F', h1.ext x, h2.ext x, a⟩
theorem Duo.lt {w : World} {B B' : Nat} {p q : List TN} (h : Duo w B B' p q) : B < w.heap.size ∧ B' < w.heap.size := by
  obtain ⟨F, F', h1, h2, _⟩ := h
  exact ⟨h1.lt, h2.lt⟩
def DuoV (w : World) (B B' : Nat) (p q : List TN) (l : List UInt8) (e : Ending) (w' : World) : Prop :=
  But (Only B) w w' ∧ Duo w' B B' p q ∧ ∃ A c, e = .returned (.slice A (valsL p l).length c) ∧ SeenL w' A (valsL p l) ∧
    ∀ ad, A = some ad → w.heap.size ≤ ad.block ∧ (∀ j, j < (valsL p l).length → w'.frozen? (ad.add j) = false) ∧ ∀ w2, But (Only ad.block) w' w2 → Duo w2 B B' p q
theorem Duo.vals {w : World} {B B' : Nat} {p q : List TN} (h : Duo w B B' p q) (s : ByteArray) : Calls Try.prog 18 #[.pointer (some ⟨B, 0, none⟩), .string s] w (DuoV w B B' p q s.data.toList) := by
  obtain ⟨F, F', h1, h2, a⟩ := h
  refine (vals_any w B F p h1 s).mono ?_
  rintro e w' ⟨x, F1, A, c, rfl, T, hF, hs, ha⟩
  have a' := a.asked h2 hF
  have h2' := h2.beside x a.symm
  refine ⟨x, ⟨F1, F', T, h2', a'⟩, A, c, rfl, hs, fun ad e => ?_⟩
  obtain ⟨g1, g2, g3⟩ := ha ad e
  have l1 := h1.lt
  have l2 := h2.lt
  refine ⟨g1, g3, fun w2 y => ⟨F1, F', T.keepB y (fun hb => by have : B = ad.block := hb; omega) (fun k hk hb => g2 (by rw [← show k = ad.block from hb]; exact hk)), h2'.keepB y (fun hb => by have : B' = ad.block := hb; omega) (fun k hk hb => by have : k = ad.block := hb; have := h2.low k hk; omega), a'⟩⟩
def DuoN (w : World) (B B' : Nat) (p q : List TN) (e : Ending) (w' : World) : Prop := e = .returned (.int .i64 (nodesL p).length) ∧ But (Only B) w w' ∧ Duo w' B B' p q
theorem Duo.nodes {w : World} {B B' : Nat} {p q : List TN} (h : Duo w B B' p q) : Calls Try.prog 19 #[.pointer (some ⟨B, 0, none⟩)] w (DuoN w B B' p q) := by
  obtain ⟨F, F', h1, h2, a⟩ := h
  refine (nodes_any w B F p h1).mono ?_
  rintro e w' ⟨rfl, x, F1, T, hF⟩
  exact ⟨rfl, x, F1, F', T, h2.beside x a.symm, a.asked h2 hF⟩
/-- Both were made behind N: what lies ahead of it may turn. -/
theorem duo_new {w w3 w4 : World} {B B' N : Nat} {F F' : Nat → Prop} {p q : List TN} (hN : N ≤ w.heap.size) (T : TrieAt w3 B F p) (hB : w.heap.size ≤ B) (hF : ∀ k, F k → w.heap.size ≤ k) (x : Ext w3 w4) (T' : TrieAt w4 B' F' q) (hB' : w3.heap.size ≤ B') (hF' : ∀ k, F' k → w3.heap.size ≤ k) :
    ∀ S w', (∀ k, S k → k < N) → But S w4 w' → Duo w' B B' p q := fun S w' hS y => by
  have l1 := T.lt
  exact ⟨F, F', (T.ext x).keepB y (fun h => by have := hS _ h; omega) (fun k hk h => by have := hS _ h; have := hF k hk; omega),
    T'.keepB y (fun h => by have := hS _ h; omega) (fun k hk h => by have := hS _ h; have := hF' k hk; omega), Apart.new T hB' hF'⟩
/-- Numbers that may be written over. -/
def Soft (w : World) (A : Option Addr) (n : Nat) : Prop := ∀ j, j < n → ∃ ad x, A = some ad ∧ w.cell? (ad.add j) = some (.int .i64 x) ∧ w.frozen? (ad.add j) = false
theorem soft_of {w : World} {A : Option Addr} {l : List Int} (h : SeenL w A l) (hf : ∀ ad, A = some ad → ∀ j, j < l.length → w.frozen? (ad.add j) = false) : Soft w A l.length := fun j hj => by
  obtain ⟨ad, e, hc⟩ := h.get hj
  exact ⟨ad, _, e, hc, hf ad e j hj⟩
theorem Soft.put {w : World} {A : Option Addr} {n : Nat} (h : Soft w A n) (ad : Addr) (k : Nat) (x : Int) : Soft (w.setCell (ad.add k) (.int .i64 x)) A n := fun j hj => by
  obtain ⟨ad', y, e, hc, hf⟩ := h j hj
  by_cases e' : ad.add k = ad'.add j
  · refine ⟨ad', x, e, ?_, by rw [World.frozen?_setCell]; exact hf⟩
    rw [e']
    exact World.cell?_setCell_same _ _ _ hc
  · refine ⟨ad', y, e, ?_, by rw [World.frozen?_setCell]; exact hf⟩
    rw [World.cell?_setCell_other _ _ _ _ e']
    exact hc
theorem rd_same {cl l : List WP} (h : cl.map tn = l.map tn) : rd ⟨cl, []⟩ = rd ⟨l, []⟩ := by
  unfold rd
  rw [h]
theorem same_self {w : World} {A B : Option Addr} {l : List Int} (c d : Nat) (hs : SeenL w A l) (ht : SeenL w B l) (hn : l.length ≤ 1000000) : Calls Try.prog 21 #[.slice A l.length c, .slice B l.length d] w (Ret w (.bool true)) := by
  have := same_lists A B l l c d w hs ht hn
  rwa [decide_eq_true rfl] at this
theorem vals_most (p : List TN) (l : List UInt8) : (valsL p l).length ≤ l.length + 1 := by
  unfold valsL
  split <;> simp
/-- Where an answer lies. -/
def Lies (A : Option Addr) (b : Nat) : Prop := ∃ ad, A = some ad ∧ b = ad.block
/-- An answer may be written over. -/
theorem duo_keep {V w w8 : World} {B B2 : Nat} {p q : List TN} {A : Option Addr} {n : Nat} (x : Ext V w) (x8 : Ext V w8) (D : Duo w8 B B2 p q)
    (h : ∀ ad, A = some ad → w.heap.size ≤ ad.block ∧ (∀ j, j < n → w8.frozen? (ad.add j) = false) ∧ ∀ w2, But (Only ad.block) w8 w2 → Duo w2 B B2 p q) : ∀ w', But (Lies A) w8 w' → Duo w' B B2 p q ∧ Ext V w' := fun w' y => by
  rcases A with _ | ad
  · have z := y.ext_all (fun k hk => by obtain ⟨_, e, _⟩ := hk; cases e)
    exact ⟨D.ext z, x8.trans z⟩
  · obtain ⟨h1, _, h3⟩ := h ad rfl
    have z : But (Only ad.block) w8 w' := y.mono (fun k _ hk => by obtain ⟨_, e, hk⟩ := hk; cases e; exact hk)
    refine ⟨h3 w' z, z.ext x8 (fun k hk => ?_)⟩
    have := x.size
    rw [show k = ad.block from hk]
    omega
end L11
end Go.Proofs.Ytfdoohangemojaa

