/- What Write and Parse answer, in one form; and how the two go together. -/
import Derived.Test.YteflkagilhmeiaaDoorAwake14
namespace Go.Proofs.YteflkagilhmeiaaDoor
open Go.RowKit
namespace L14

/-- The text and the error of a layout; the layout and the error of a text. -/
def tW (L : LayD) : List UInt8 := if mayL L = true then textL L else []
def zW (L : LayD) : Int := if mayL L = true then 0 else 140
def lP (l : List UInt8) : LayD := (parseT l).getD LZ
def zP (l : List UInt8) : Int := if (parseT l).isSome = true then 0 else 140
def WriteU (w : World) (L : LayD) (e : Ending) (w' : World) : Prop := Ext w w' ∧ ∃ (A : Option Addr) (n c : Nat), e = .returned (.tuple #[.slice A n c, .int .i64 (zW L)]) ∧ n = (tW L).length ∧ n ≤ c ∧ c ≤ maxLen ∧ SeenB w' A (tW L)
def ParseU (w : World) (l : List UInt8) (e : Ending) (w' : World) : Prop := Ext w w' ∧ ∃ (A : Option Addr) (c : Nat), e = .returned (.tuple #[.agg (layC (lP l) A c).toArray, .int .i64 (zP l)]) ∧ LayOk (lP l) c ∧ SeenP w' A (lP l).n (lP l).sh
theorem write_uni (L : LayD) (A : Option Addr) (c : Nat) (w : World) (ok : LayOk L c) (sn : SeenP w A L.n L.sh) (hH : Home w) : Calls Tryd.prog 8 #[.agg (layC L A c).toArray] w (WriteU w L) := by
  refine (show Calls Tryd.prog 8 #[.agg (layC L A c).toArray] w (WriteQ w (writeL L)) from write_any L A c w ok sn hH).mono ?_
  rintro e w' ⟨x, h⟩
  refine ⟨x, ?_⟩
  by_cases hm : mayL L = true
  · rw [writeL, if_pos hm] at h
    obtain ⟨A', n, c', rfl, h1, h2, h3, h4⟩ := h
    exact ⟨A', n, c', by rw [zW, if_pos hm], by rw [tW, if_pos hm]; exact h1, h2, h3, by rw [tW, if_pos hm]; exact h4⟩
  · rw [writeL, if_neg hm] at h
    obtain rfl := h
    exact ⟨none, 0, 0, by rw [zW, if_neg hm], by rw [tW, if_neg hm]; rfl, Nat.le_refl _, Nat.zero_le _, by rw [tW, if_neg hm]; exact fun k v hv => by simp [bv] at hv⟩
theorem check_uni (L : LayD) (A : Option Addr) (c : Nat) (w : World) (ok : LayOk L c) (sn : SeenP w A L.n L.sh) (hH : Home w) : Calls Tryd.prog 10 #[.agg (layC L A c).toArray] w (Ret w (.bool (mayL L))) := check_any L A c w ok sn hH
/-- The same, and where the lines of the answer lie. -/
def ParseN (w : World) (l : List UInt8) (e : Ending) (w' : World) : Prop := ∃ (A : Option Addr) (c : Nat), e = .returned (.tuple #[.agg (layC (lP l) A c).toArray, .int .i64 (zP l)]) ∧ Ext w w' ∧ LayOk (lP l) c ∧ SeenP w' A (lP l).n (lP l).sh ∧ ∀ ad, A = some ad → w.heap.size ≤ ad.block
theorem parse_new (A0 : Option Addr) (l : List UInt8) (n c0 : Nat) (w : World) (hs : SeenB w A0 l) (hn : n = l.length) (hl : n ≤ 800000) (hc : n ≤ c0) (hH : Home w) : Calls Tryd.prog 12 #[.slice A0 n c0] w (ParseN w l) := by
  refine (parse_any A0 l n c0 w hs hn hl hc hH).mono ?_
  rintro e w' ⟨L, A, c, z, rfl, ok, sn, x, fr, h⟩
  refine ⟨A, c, ?_⟩
  cases hp : parseT l with
  | none =>
    rw [hp] at h
    obtain ⟨rfl, rfl⟩ := h
    have e1 : lP l = LZ := by rw [lP, hp]; rfl
    have e2 : zP l = 140 := by rw [zP, hp]; rfl
    rw [e1, e2]
    exact ⟨rfl, x, ok, sn, fr⟩
  | some L' =>
    rw [hp] at h
    obtain ⟨rfl, rfl⟩ := h
    have e1 : lP l = L := by rw [lP, hp]; rfl
    have e2 : zP l = 0 := by rw [zP, hp]; rfl
    rw [e1, e2]
    exact ⟨rfl, x, ok, sn, fr⟩
theorem parse_uni (A0 : Option Addr) (l : List UInt8) (n c0 : Nat) (w : World) (hs : SeenB w A0 l) (hn : n = l.length) (hl : n ≤ 800000) (hc : n ≤ c0) (hH : Home w) : Calls Tryd.prog 12 #[.slice A0 n c0] w (ParseU w l) := by
  refine (parse_new A0 l n c0 w hs hn hl hc hH).mono ?_
  rintro e w' ⟨A, c, rfl, x, ok, sn, _⟩
  exact ⟨x, A, c, rfl, ok, sn⟩
theorem text_len {L : LayD} {c : Nat} (ok : LayOk L c) : (tW L).length ≤ 6000 := by
  unfold tW
  split
  · rename_i hm
    have hn : L.n ≤ 40 := by
      unfold mayL at hm
      rw [Bool.and_eq_true, decide_eq_true_eq] at hm
      exact hm.1
    have key : ∀ ks : List (Nat × Nat), (∀ x ∈ ks, x ∈ seqN L.n) → (ks.flatMap (lineL L)).length ≤ 120 * ks.length := by
      intro ks
      induction ks with
      | nil => intro _; exact Nat.le_refl _
      | cons x ks ih =>
        intro h
        have h1 := lineL_len ok (x.1, x.2, 0) (h x (by simp))
        have h2 := ih (fun y hy => h y (by simp [hy]))
        rw [show keyN (x.1, x.2, 0) = x from rfl] at h1
        rw [List.flatMap_cons, List.length_append, List.length_cons]
        omega
    have := key (seqN L.n) (fun _ h => h)
    rw [seqN_length] at this
    unfold textL
    omega
  · exact Nat.zero_le _
/-- A layout that may be is read as it was written; of one that may not be, nothing is read. -/
theorem wrote {L : LayD} {c : Nat} (ok : LayOk L c) : (mayL L = true ∧ zW L = 0 ∧ zP (tW L) = 0 ∧ LEq L (lP (tW L))) ∨ (mayL L = false ∧ zW L = 140 ∧ zP (tW L) = 140 ∧ lP (tW L) = LZ) := by
  cases hm : mayL L with
  | true =>
    obtain ⟨M, h1, h2⟩ := parse_text ok hm
    have e : tW L = textL L := by rw [tW, if_pos hm]
    exact .inl ⟨rfl, by rw [zW, if_pos hm], by rw [zP, e, h1]; rfl, by rw [lP, e, h1]; exact h2⟩
  | false =>
    have e : tW L = [] := by rw [tW, hm]; rfl
    exact .inr ⟨rfl, by rw [zW, hm]; rfl, by rw [zP, e, parse_nil]; rfl, by rw [lP, e, parse_nil]; rfl⟩
/-- What was read is written, and read again. -/
theorem reads (t : List UInt8) : (zP t = 0 ∧ mayL (lP t) = true) ∨ (zP t = 140 ∧ lP t = LZ ∧ mayL (lP t) = false) := by
  cases h : parseT t with
  | none => exact .inr ⟨by rw [zP, h]; rfl, by rw [lP, h]; rfl, by rw [lP, h]; exact mayL_zero⟩
  | some L => exact .inl ⟨by rw [zP, h]; rfl, by rw [lP, h]; exact parse_may h⟩
theorem again {t : List UInt8} {c : Nat} (ok : LayOk (lP t) c) : LEq (lP t) (lP (tW (lP t))) ∧ (zP t = 140 ∨ (zP t = 0 ∧ zW (lP t) = 0 ∧ zP (tW (lP t)) = 0)) := by
  rcases wrote ok with ⟨h1, h2, h3, h4⟩ | ⟨h1, h2, h3, h4⟩
  · refine ⟨h4, ?_⟩
    rcases reads t with ⟨k1, _⟩ | ⟨_, _, k3⟩
    · exact .inr ⟨k1, h2, h3⟩
    · rw [h1] at k3; cases k3
  · rcases reads t with ⟨_, k2⟩ | ⟨k1, k2, _⟩
    · rw [h1] at k2; cases k2
    · exact ⟨by rw [h4, k2]; exact LEq.refl _, .inl k1⟩
theorem may_few {L : LayD} (h : mayL L = true) : L.n ≤ 40 := by
  unfold mayL at h
  rw [Bool.and_eq_true, decide_eq_true_eq] at h
  exact h.1
theorem read_few (t : List UInt8) : (lP t).n ≤ 40 := by
  rcases reads t with ⟨_, h⟩ | ⟨_, h, _⟩
  · exact may_few h
  · rw [h]; exact Nat.zero_le _
end L14
end Go.Proofs.YteflkagilhmeiaaDoor

