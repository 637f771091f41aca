/- What the landed calls of layer 17 answer, as one condition; lines' words, plain. -/
import Derived.Test.YtmmgmcfhlhghoaaPiece17
namespace Go.Proofs.Ytmmgmcfhlhghoaa
open Go.RowKit
namespace L17
open L13 (TW tw checkB wordB)
open L16 (Brk befB brkV SeenK)

/-- It lies among lists of numbers. -/
def TypedO (w : World) (A : Option Addr) : Prop := ∀ ad, A = some ad → ∃ cs f, w.heap[ad.block]? = some (.cells cs 36 f)
theorem TypedO.ext {w w' : World} {A : Option Addr} (h : TypedO w A) (x : Ext w w') : TypedO w' A := fun ad e => by
  obtain ⟨cs, f, hb⟩ := h ad e
  exact ⟨cs, f, (x.block _ (Array.getElem?_eq_some_iff.1 hb).1).trans hb⟩
/-- Lists that can be read, cut, and put into one's own: each lies among numbers, and has room. -/
def ReadR (w : World) (A : Option Addr) (l : List RI) : Prop := SeenR w A l ∧ (∀ x ∈ l, TypedI w x.A) ∧ (∀ x ∈ l, x.ns.length ≤ x.c) ∧ TypedO w A
theorem ReadR.ext {w w' : World} {A : Option Addr} {l : List RI} (h : ReadR w A l) (x : Ext w w') : ReadR w' A l := ⟨h.1.ext x, fun y hy => (h.2.1 y hy).ext x, h.2.2.1, h.2.2.2.ext x⟩
theorem ReadR.nil {w : World} : ReadR w none [] := ⟨SeenR.nil, fun x h => by simp at h, fun x h => by simp at h, fun ad e => by cases e⟩
theorem OwnR.read {w0 w : World} {v : Value} {l : List RI} (h : OwnR w0 w v l) : ∃ A c, v = .slice A l.length c ∧ SeenR w A l ∧ (∀ x ∈ l, TypedI w x.A) ∧ TypedO w A := by
  obtain ⟨A, c, e, hs⟩ := h.seen
  subst e
  refine ⟨A, c, rfl, hs, fun x hx => (h.2.2 x hx).2, fun ad e => ?_⟩
  rcases h.1.2 with ⟨e1, _⟩ | ⟨g, cap, cur, e1, _, hb, _⟩
  · simp only [Value.slice.injEq] at e1
    rw [e] at e1; cases e1.1
  · simp only [Value.slice.injEq] at e1
    rw [e] at e1
    obtain ⟨e2, _⟩ := e1
    cases e2
    exact ⟨cur, (0, 0), hb⟩
/-- Lists that are read, and an error. -/
def PiQ (w : World) (r : List (List Int) × Int) (e : Ending) (w' : World) : Prop := Ext w w' ∧ ∃ A rs c, e = .returned (.tuple #[.slice A r.1.length c, .int .i64 r.2]) ∧ ReadR w' A rs ∧ nsL rs = r.1
/-- Lists that are seen. -/
def WhQ (w : World) (r : List (List Int)) (e : Ending) (w' : World) : Prop := Ext w w' ∧ ∃ A rs c, e = .returned (.slice A r.length c) ∧ SeenR w' A rs ∧ nsL rs = r
theorem nsL_len {rs : List RI} {r : List (List Int)} (h : nsL rs = r) : rs.length = r.length := by rw [← h]; simp [nsL]

/-- Lines' pieces: a list of lists of lists that is seen. -/
structure RR where
  rs : List RI
  A : Option Addr
  c : Nat
def rrV (x : RR) : Value := .slice x.A x.rs.length x.c
def nnL (l : List RR) : List (List (List Int)) := l.map fun x => nsL x.rs
def SeenRR (w : World) (A : Option Addr) (l : List RR) : Prop := Seen w.heap.size w A (l.map rrV) ∧ ∀ x ∈ l, SeenR w x.A x.rs
theorem SeenRR.ext {w w' : World} {A : Option Addr} {l : List RR} (h : SeenRR w A l) (x : Ext w w') : SeenRR w' A l := ⟨Seen.ext h.1 x, fun y hy => (h.2 y hy).ext x⟩
theorem SeenRR.nil {w : World} {A : Option Addr} : SeenRR w A [] := ⟨Seen.nil, fun x h => by simp at h⟩
theorem SeenRR.get {w : World} {A : Option Addr} {l : List RR} (h : SeenRR w A l) {k : Nat} (hk : k < l.length) : (∃ ad, A = some ad ∧ w.cell? (ad.add k) = some (rrV l[k])) ∧ SeenR w l[k].A l[k].rs := by
  obtain ⟨ad, e, _, hc⟩ := Seen.get h.1 (k := k) (by simpa using hk)
  exact ⟨⟨ad, e, by rw [hc]; simp⟩, h.2 _ (List.getElem_mem hk)⟩

/-! ### Lines' words, plain -/
/-- A piece: the last one of a line that ends at a hyphen loses it. -/
def trimP (last hy : Bool) (l : List Int) : List Int := if last = true ∧ l ≠ [] ∧ hy = true then l.dropLast else l
/-- A piece is put behind: to the last word, if the line before it ended inside of that. -/
def addP (glue : Bool) (out : List (List Int)) (l : List Int) : List (List Int) := if glue = true ∧ out ≠ [] then out.dropLast ++ [out.getLastD [] ++ l] else out ++ [l]
/-- The first k pieces of a line. -/
def lineTo (on hy : Bool) (ps : List (List Int)) (out : List (List Int)) : Nat → List (List Int)
  | 0 => out
  | k + 1 => addP (decide (k = 0) && on) (lineTo on hy ps out k) (trimP (decide (k + 1 = ps.length)) hy (ps.getD k []))
/-- Does a line end inside of a word? -/
def onB (b : Brk) : Bool := decide (2 ≤ b.1) && decide (b.1 ≤ 4)
/-- The first k lines, and whether the last of them ends inside of a word. -/
def whTo (ls : List (List (List Int))) (ends : List Brk) : Nat → List (List Int) × Bool
  | 0 => ([], false)
  | k + 1 => (lineTo (whTo ls ends k).2 (hyB (ends.getD k (0, 0, 0))) (ls.getD k []) (whTo ls ends k).1 (ls.getD k []).length, onB (ends.getD k (0, 0, 0)))
def whL (ls : List (List (List Int))) (ends : List Brk) : List (List Int) := (whTo ls ends (min ls.length ends.length)).1

/-- How much lines hold. -/
def szP (ps : List (List Int)) : Nat := (ps.map fun l => l.length + 1).sum
def szL (ls : List (List (List Int))) : Nat := (ls.map szP).sum
/-- What the landed calls answer. -/
structure Pie : Prop where
  stC : ∀ (WA : Option Addr) (wl : List CW) (n d : Nat) (b : Brk) (w : World), SeenC w WA wl → n = wl.length → n ≤ d → d ≤ maxLen → (∀ x ∈ wl, x.Ok) → Calls Try.prog 10 #[.slice WA n d, brkV b] w (Ret w (.bool (stB (wl.map tw) b)))
  piC : ∀ (WA : Option Addr) (wl : List CW) (n d : Nat) (a b : Brk) (w : World), SeenC w WA wl → n = wl.length → n ≤ d → d ≤ maxLen → (∀ x ∈ wl, x.Ok) → Calls Try.prog 8 #[.slice WA n d, brkV a, brkV b] w (PiQ w (piA (wl.map tw) a b))
  whC : ∀ (A : Option Addr) (l : List RR) (n c : Nat) (B : Option Addr) (ends : List Brk) (m d : Nat) (w : World), SeenRR w A l → n = l.length → n ≤ 1000000 → SeenK w B ends → m = ends.length → m ≤ 1000000 →
    (∀ x ∈ l, ∀ y ∈ x.rs, y.ns.length ≤ y.c) → szL (nnL l) ≤ 900000 → Calls Try.prog 13 #[.slice A n c, .slice B m d] w (WhQ w (whL (nnL l) ends))

/-! ### How much there is -/
theorem cutW_len (a b : Brk) (w : Nat) (cs : List Int) : (cutW a b w cs).length ≤ cs.length := cutTo_len a b w cs cs.length
theorem rowsTo_mem (a b : Brk) (l : List TW) (m : Nat) (h : ∀ x ∈ l, x.1.length ≤ m) : ∀ k, ∀ x ∈ rowsTo a b l k, x.length ≤ m
  | 0, x, hx => by simp [rowsTo] at hx
  | k + 1, x, hx => by
    rw [rowsTo_succ, List.mem_append] at hx
    rcases hx with hx | hx
    · exact rowsTo_mem a b l m h k x hx
    · split at hx
      · simp at hx
      · rw [List.mem_singleton.1 hx]
        refine Nat.le_trans (cutW_len _ _ _ _) ?_
        rcases Nat.lt_or_ge k l.length with hk | hk
        · rw [List.getD_eq_getElem?_getD, List.getElem?_eq_getElem hk]
          exact h _ (List.getElem_mem hk)
        · rw [List.getD_eq_getElem?_getD, List.getElem?_eq_none hk]
          exact Nat.zero_le _
theorem piA_small (l : List TW) (a b : Brk) (m : Nat) (hl : l.length ≤ m) (h : ∀ x ∈ l, x.1.length ≤ m) : (piA l a b).1.length ≤ m ∧ ∀ x ∈ (piA l a b).1, x.length ≤ m + 1 := by
  have h1 := rowsTo_len a b l l.length
  have h2 := rowsTo_mem a b l m h l.length
  unfold piA
  split
  · split
    · unfold cutL
      dsimp only
      split
      · rename_i hc
        generalize rowsTo a b l l.length = o at *
        obtain ⟨i, z, rfl⟩ : ∃ i z, o = i ++ [z] := ⟨o.dropLast, o.getLast hc.1, (List.dropLast_concat_getLast hc.1).symm⟩
        rw [putH_snoc]
        refine ⟨by simp only [List.length_append, List.length_singleton] at h1 ⊢; omega, fun x hx => ?_⟩
        rcases List.mem_append.1 hx with hx | hx
        · have := h2 x (List.mem_append_left _ hx); omega
        · rw [List.mem_singleton.1 hx]
          have := h2 z (by simp)
          simp only [List.length_append, List.length_singleton]
          omega
      · exact ⟨by omega, fun x hx => by have := h2 x hx; omega⟩
    · exact ⟨Nat.zero_le _, fun x hx => by simp at hx⟩
  · exact ⟨Nat.zero_le _, fun x hx => by simp at hx⟩
end L17
end Go.Proofs.Ytmmgmcfhlhghoaa

