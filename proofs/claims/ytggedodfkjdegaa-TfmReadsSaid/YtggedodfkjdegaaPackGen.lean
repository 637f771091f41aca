/- What the contracts of layer 6 stand on, in any seat. -/
import Derived.Test.YtggedodfkjdegaaPackMath06
import Derived.StillTailTactics
import Derived.Deep.QuietTactic
import Derived.BigQuiet
import Derived.Laws.BitsLemmas
import Derived.Deep.RegionHeld3
import Derived.Lib.LazyBuf
namespace Go.Proofs.Ytggedodfkjdegaa
open Go.RowKit
namespace L06

/-- What lies below block g is as it was, wherever one looks from. -/
def Far (g : Nat) (w w' : World) : Prop := ∀ w0, Ext w0 w → w0.heap.size ≤ g → Ext w0 w'

theorem Far.refl (g : Nat) (w : World) : Far g w w := fun _ h _ => h

theorem Far.trans {g : Nat} {a b c : World} (h : Far g a b) (k : Far g b c) : Far g a c := fun w0 x l => k w0 (h w0 x l) l

theorem Far.put (g : Nat) (w : World) (p : Addr) (hp : p.block = g) (u : Value) : Far g w (w.setCell p u).drew := fun _ x l => (x.setCell (by omega) u).drew

theorem byte_at (n z k : Nat) (h : k < z) : ((n : Int) / 2 ^ (8 * (z - 1 - k)) % 256) = (((be n z)[k]'(by rw [be_length]; exact h)).toNat : Int) := by
  rw [be_get]
  have e2 : (2 : Int) ^ (8 * (z - 1 - k)) = ((256 ^ (z - 1 - k) : Nat) : Int) := by rw [Int.pow_mul]; norm_cast
  rw [e2, ← Int.natCast_ediv]
  simp

/-- A list of bytes, and no error. -/
def GivesB (w : World) (l : List UInt8) (e : Ending) (w' : World) : Prop :=
  ∃ A c, e = .returned (.tuple #[.slice A l.length c, .int .i64 0]) ∧ l.length ≤ c ∧ SeenB w' A l ∧ Ext w w'

theorem run_copyB {P : Program} {w w0 : World} (dT sT ty e t : TypeId) (hu : P.underlying dT = some (.slice e)) (hsz : (P.info? e).map (·.size) = some 1)
    (g n dc : Nat) (A : Option Addr) (l : List UInt8) (c : Nat) (hx : SeenB w A l) (cs : List Value) (hg : Blk w g t cs) (hl : l.length ≤ n) (hn : n ≤ cs.length) (h0 : Ext w0 w) (hlt : w0.heap.size ≤ g) :
    ∃ w', (Builtin.copy_ #[dT, sT] ty #[.slice (some ⟨g, 0, none⟩) n dc, .slice A l.length c]).run P w = .ok (.int .i64 l.length) w' ∧ Blk w' g t (bv l ++ cs.drop l.length) ∧ Ext w0 w' := by
  rcases Nat.eq_zero_or_pos l.length with h | h
  · obtain rfl : l = [] := List.eq_nil_of_length_eq_zero h
    exact ⟨w, run_copy_none w dT sT ty e _ A n dc 0 c hu hsz (by simp), by simpa [bv] using hg, h0⟩
  · obtain ⟨ad, rfl, _, _⟩ := hx.get h
    refine ⟨_, ?_, setRow_heap w g cs.toArray (bv l ++ cs.drop l.length).toArray t _ hg, below_setRow h0 hlt _⟩
    have := run_copy_row (P := P) w dT sT ty e g 0 n dc ad l.length c cs.toArray t (bv l) hu hsz hg (by rw [bv_length]; exact (Nat.min_eq_left hl).symm)
      (fun j v hv => by
        obtain ⟨ad', e, _, hc⟩ := hx j v hv
        obtain rfl : ad = ad' := by simpa using e
        exact hc) (by simp [bv_length]; omega) (bv_one l)
    rw [this]
    simp [bv_length, goInt]

theorem uint8_info : (Try.prog.info? 5).map (fun i => (i.zero, i.size, i.bytes)) = some (some (.int .u8 0), 1, 1) := by kernel_rfl

theorem row_is {w : World} {g : Nat} {t : TypeId} {l : List UInt8} {cs : List Value} {z : Nat} (e : cs = bv (List.replicate (l.length + z) 0)) (h : Blk w g t (bv l ++ cs.drop l.length)) : Blk w g t (bv (l ++ List.replicate z 0)) := by
  subst e
  have : (bv (List.replicate (l.length + z) 0)).drop l.length = bv (List.replicate z 0) := by simp [bv]
  rwa [this, ← bv_append] at h

theorem gives_put {w w' : World} {g : Nat} {t : TypeId} (l : List UInt8) (n z : Nat) (h : Blk w' g t (bv (l ++ be n z))) (x : Ext w w') :
    GivesB w (l ++ be n z) (.returned (.tuple #[.slice (some ⟨g, 0, none⟩) (l.length + z) (l.length + z), .int .i64 0])) w' := by
  have e : (l ++ be n z).length = l.length + z := by rw [List.length_append, be_length]
  exact ⟨_, l.length + z, by rw [e], by rw [e]; exact Nat.le_refl _, h.seen rfl, x⟩

theorem wraps_i64 (n : Int) (h₀ : 0 ≤ n) (h₁ : n < 2 ^ 62) : IntKind.i64.wrap n = n := by rw [IntKind.wrap_i64]; omega

theorem or_step (l : List UInt8) (z k : Nat) (hz : z ≤ 4) (hk : k < z) (hl : k < l.length) :
    bits .or .i64 ((num (l.take k) * 256 ^ (z - k) : Nat) : Int) (wrap64 ((l[k].toNat : Int) * 2 ^ (8 * (z - 1 - k)))) = ((num (l.take (k + 1)) * 256 ^ (z - (k + 1)) : Nat) : Int) ∧
      num (l.take k) * 256 ^ (z - k) < 4294967296 := by
  have hb := l[k].toNat_lt
  have h1 := num_lt (l.take k)
  rw [List.length_take, Nat.min_eq_left (by omega)] at h1
  have e1 : l.take (k + 1) = l.take k ++ [l[k]] := List.take_succ_eq_append_getElem hl
  rw [e1, num_snoc]
  generalize l[k].toNat = b at *
  generalize num (l.take k) = x at *
  obtain ⟨i, hi⟩ : ∃ i, i = 8 * (z - k) := ⟨_, rfl⟩
  rcases (show (z = 1 ∧ k = 0) ∨ (z = 2 ∧ k = 0) ∨ (z = 2 ∧ k = 1) ∨ (z = 3 ∧ k = 0) ∨ (z = 3 ∧ k = 1) ∨ (z = 3 ∧ k = 2) ∨ (z = 4 ∧ k = 0) ∨ (z = 4 ∧ k = 1) ∨ (z = 4 ∧ k = 2) ∨ (z = 4 ∧ k = 3) by omega) with ⟨rfl, rfl⟩ | ⟨rfl, rfl⟩ | ⟨rfl, rfl⟩ | ⟨rfl, rfl⟩ | ⟨rfl, rfl⟩ | ⟨rfl, rfl⟩ | ⟨rfl, rfl⟩ | ⟨rfl, rfl⟩ | ⟨rfl, rfl⟩ | ⟨rfl, rfl⟩
  all_goals
    simp at h1 hi
    refine ⟨?_, by simp; omega⟩
    simp only [wrap64]
    rw [bits_join .i64 62 (by decide) wraps_i64 i _ _ (by omega) (by rw [hi]; simp) (by simp; omega) (by simp; omega) (by rw [hi]; simp; omega) (by simp; omega)]
    simp
    omega

/-- A copy. -/
def CopyB (w : World) (l : List UInt8) (e : Ending) (w' : World) : Prop := ∃ A c, e = .returned (.slice A l.length c) ∧ SeenB w' A l ∧ Ext w w'

/-- A number, what is behind, and no error. -/
def GivesT (w : World) (n : Int) (l : List UInt8) (e : Ending) (w' : World) : Prop :=
  ∃ A c, e = .returned (.tuple #[.int .i64 n, .slice A l.length c, .int .i64 0]) ∧ SeenB w' A l ∧ Ext w w'

/-- A number that may be below 0, as one that is not; and back. -/
def up32 (n : Int) : Int := if n < 0 then n + 4294967296 else n

def down32 (n : Int) : Int := if 2147483648 ≤ n then n - 4294967296 else n

theorem up32_in {n : Int} (h1 : -2147483648 ≤ n) (h2 : n < 2147483648) : 0 ≤ up32 n ∧ up32 n < 256 ^ 4 := by unfold up32; split <;> omega

theorem down_up {n : Int} (h1 : -2147483648 ≤ n) (h2 : n < 2147483648) : down32 (up32 n) = n := by
  unfold down32 up32; repeat' split
  all_goals omega

/-- string(b), as the walk asks it. -/
theorem str_of {w : World} {A : Option Addr} {l : List UInt8} (h : SeenB w A l) (c n : Nat) (hn : n = l.length) : (convert 22 9 (.slice A n c)).run Try.prog w = .ok (.string ⟨l.toArray⟩) w :=
  h.str 22 9 5 c n Try.underlying22 Try.underlying5 Try.underlying9 hn

theorem str_drew {w : World} {A : Option Addr} {l : List UInt8} (h : SeenB w A l) (c n : Nat) (hn : n = l.length) (k : Nat) : (convert 22 9 (.slice A n c)).run Try.prog (w.drewN k) = .ok (.string ⟨l.toArray⟩) (w.drewN k) :=
  str_of (w := w.drewN k) h c n hn

/-- What was put stands behind what was there. -/
theorem GivesB.open {w w' : World} {l : List UInt8} {n z : Nat} {e : Ending} (h : GivesB w (l ++ be n z) e w') :
    ∃ A c, e = .returned (.tuple #[.slice A (l.length + z) c, .int .i64 0]) ∧ l.length + z ≤ c ∧ SeenB w' A (l ++ be n z) ∧ Ext w w' := by
  obtain ⟨A, c, e, hc, s, x⟩ := h
  rw [List.length_append, be_length] at e hc
  exact ⟨A, c, e, hc, s, x⟩

theorem put_ways (n size : Int) : ((size < 1 ∨ 4 < size) ∨ ((1 ≤ size ∧ size ≤ 4) ∧ (n < 0 ∨ (256 : Int) ^ size.toNat ≤ n))) ∨ ∃ z : Nat, size = z ∧ 1 ≤ z ∧ z ≤ 4 ∧ 0 ≤ n ∧ n < 256 ^ z := by
  by_cases h : 1 ≤ size ∧ size ≤ 4
  · by_cases h0 : 0 ≤ n ∧ n < 256 ^ size.toNat
    · exact .inr ⟨size.toNat, by omega, by omega, by omega, h0.1, h0.2⟩
    · exact .inl (.inr ⟨h, by rw [Classical.not_and_iff_not_or_not] at h0; omega⟩)
  · exact .inl (.inl (by omega))

theorem fix_ways (n : Int) : (n < -2147483648 ∨ 2147483648 ≤ n) ∨ (-2147483648 ≤ n ∧ n < 2147483648) := by omega

theorem lit_seen (w : World) (b : Nat) (cs : Array Value) (l : List UInt8) (h : cs = (bv l).toArray) (hb : b = w.heap.size) : SeenB (w.alloc (.cells cs 5)) (some ⟨b, 0, none⟩) l := by
  subst h hb
  exact (Blk.new w 5 (bv l).toArray).seen (by simp)

theorem byte_is (n : Int) (z k : Nat) (h : k < z) (hn : 0 ≤ n) : n / (256 : Int) ^ (z - 1 - k) % 256 = (((be n.toNat z)[k]'(by rw [be_length]; exact h)).toNat : Int) := by
  have := byte_at n.toNat z k h
  rw [Int.toNat_of_nonneg hn, Int.pow_mul] at this
  exact this

theorem num_step (l : List UInt8) (k : Nat) (h : k < l.length) : ((num (l.take (k + 1)) : Nat) : Int) = 256 * (num (l.take k) : Nat) + (l[k].toNat : Int) := by
  rw [List.take_succ_eq_append_getElem h, num_snoc]; omega

theorem num_four (l : List UInt8) (k : Nat) (h : k ≤ 4) : num (l.take k) < 4294967296 := by
  have h1 := num_lt (l.take k)
  have h2 : (l.take k).length ≤ 4 := by rw [List.length_take]; omega
  have h3 : 256 ^ (l.take k).length ≤ 256 ^ 4 := Nat.pow_le_pow_right (by decide) h2
  omega
end L06
end Go.Proofs.Ytggedodfkjdegaa

