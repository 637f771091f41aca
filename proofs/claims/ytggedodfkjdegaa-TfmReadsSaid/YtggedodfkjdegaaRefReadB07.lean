/- The document's Read of layer 7: what it keeps. -/
import Derived.Test.YtggedodfkjdegaaRefReadA07
import Derived.Test.YtggedodfkjdegaaKp
import Derived.Test.YtggedodfkjdegaaMid09
import Derived.Deep.RegionHeld3
import Derived.Deep.RegionLaw
namespace Go.Proofs.Ytggedodfkjdegaa
open Go.RowKit Go.Deep
namespace L07
open L06

/-- A store of a struct, in a region that draws its order. -/
theorem step_store7 {P : Program} {ops : Array Oper} {o : Oper} {a : Act} {w : World} {K : Act → World → Prop} {Q : Exit → Act → World → Prop} {E : Prop} (ty : TypeId) (x y : Operand) (ho : o.op = .store ty x y)
    (b : Nat) (cells : Array Value) (hx : a.eval x = .pointer (some ⟨b, 0, none⟩)) (hy : a.eval y = .agg cells) (ht : w.there b 0 cells.size) (hi : (P.info? ty).map (·.size) = some cells.size) (h1 : cells.all (·.oneCell') = true)
    (hw : Region.wanted o (yielded ops a.tmps) = true) (h : K (a.put o.dst undef) (w.setCells b 0 cells.toList)) : if Region.wanted o (yielded ops a.tmps) = true then Oper.wp P o a w K Q else E := by
  rw [if_pos hw]
  exact wp_store_mid ty x y ho b 0 cells hx hy ht hi h1 h

/-- An append within a region that draws its order, whose run is known. -/
theorem step_app7 {P : Program} {ops : Array Oper} {o : Oper} {a : Act} {w w' : World} {K : Act → World → Prop} {Q : Exit → Act → World → Prop} {E : Prop} {t : TypeId} {v : Value} (s x : Operand)
    (ho : o.op = .call { callee := .builtin .append, args := #[s, x], argTypes := #[t, t] }) (hw : Region.wanted o (yielded ops a.tmps) = true) (hrun : (Builtin.append_ #[t, t] o.type #[a.eval s, a.eval x]).run P w = .ok v w')
    (h : K (a.put o.dst v) w') : if Region.wanted o (yielded ops a.tmps) = true then Oper.wp P o a w K Q else E := by
  rw [if_pos hw]
  unfold Oper.wp execOp
  simp only [ho, resolve, invoke, builtin, Sem.run_bind, Sem.run_pure, Result.andThen_ok, List.map_toArray, List.map_cons, List.map_nil, hrun]
  exact h
/-- What the document's Read answers: the font of which these are the bytes; or none, if there is none. -/
def ReadC (w : World) (l : List UInt8) (e : Ending) (w' : World) : Prop :=
  (∃ D P, e = .returned (.tuple #[fontV D P, .int .i64 0]) ∧ FontOk D P ∧ SeenFont w' D P ∧ Ext w w' ∧ checkB D = true ∧ writeB D = l) ∨
    (e = .returned (.tuple #[fontV noD noP, .int .i64 70]) ∧ ¬ FontOf l ∧ Ext w w')

theorem char_info7 : (Try.prog.info? 35).map (fun i => (i.zero, i.size, i.bytes)) = some (some (.agg #[.int .i64 0, .int .i64 0, .int .i64 0, .int .i64 0, .int .i64 0, .int .i64 0]), 6, 48) := by kernel_rfl
theorem step_info7 : (Try.prog.info? 45).map (fun i => (i.zero, i.size, i.bytes)) = some (some (.agg #[.int .i64 0, .int .i64 0, .int .i64 0, .int .i64 0]), 4, 32) := by kernel_rfl
/-- A font in a variable, of which fields turn. -/
structure Fr (w wr : World) (F : Nat) (cs : List Value) : Prop where
  x : Ext w wr
  box : Blk wr F 28 cs
  fw : w.heap.size ≤ F
theorem Fr.kept {w wr w' : World} {F : Nat} {cs : List Value} (h : Fr w wr F cs) (x : Ext wr w') : Fr w w' F cs := ⟨h.x.trans x, h.box.ext x, h.fw⟩
theorem Fr.set {w wr : World} {F : Nat} {cs : List Value} (h : Fr w wr F cs) (i : Nat) (u : Value) : Fr w (wr.setCell ⟨F, i, none⟩ u) F (cs.set i u) :=
  ⟨h.x.setCell (by show _ ≤ F; exact h.fw) _, h.box.set i u, h.fw⟩
/-- A row of numbers behind the variable. -/
structure RowK (F : Nat) (w : World) (A : Option Addr) (n : Nat) (f : Nat → Int) : Prop where
  s : SeenF w A n f
  at' : ∀ ad, A = some ad → F < ad.block
structure RowNK (F k : Nat) (w : World) (A : Option Addr) (n : Nat) (f : Nat → Nat → Int) : Prop where
  s : SeenN k w A n f
  at' : ∀ ad, A = some ad → F < ad.block
theorem kp_cell {F : Nat} {w w' : World} (k : Kp (some F) w w') {p : Addr} (hb : p.block < w.heap.size) (hF : p.block ≠ F) : w'.cell? p = w.cell? p :=
  World.cell?_of_block (k.same _ hb (by simpa using hF))
theorem RowK.kp {F : Nat} {w w' : World} {A : Option Addr} {n : Nat} {f : Nat → Int} (h : RowK F w A n f) (k : Kp (some F) w w') : RowK F w' A n f :=
  ⟨fun j hj => by
    obtain ⟨ad, e, hb, hc⟩ := h.s j hj
    have hF := h.at' ad e
    exact ⟨ad, e, Nat.lt_of_lt_of_le hb k.size, (kp_cell k (by rw [addr_block]; exact hb) (by rw [addr_block]; omega)).trans hc⟩, h.at'⟩
theorem RowNK.kp {F m : Nat} {w w' : World} {A : Option Addr} {n : Nat} {f : Nat → Nat → Int} (h : RowNK F m w A n f) (k : Kp (some F) w w') : RowNK F m w' A n f :=
  ⟨fun i hi j hj => by
    obtain ⟨ad, e, hb, hc⟩ := h.s i hi j hj
    have hF := h.at' ad e
    exact ⟨ad, e, Nat.lt_of_lt_of_le hb k.size, (kp_cell k (by rw [addr_block]; exact hb) (by rw [addr_block]; omega)).trans hc⟩, h.at'⟩
theorem kp_trans {r : Option Nat} {a b c : World} (h : Kp r a b) (k : Kp r b c) : Kp r a c :=
  ⟨Nat.le_trans h.size k.size, fun n hn hr => (k.same n (Nat.lt_of_lt_of_le hn h.size) hr).trans (h.same n hn hr)⟩
/-- What 'some' answers, as a row. -/
theorem RowK.own {F base m : Nat} {w : World} {A : Option Addr} {c : Nat} {f : Nat → Int} (h : w.ownsRow base 3 1 (.slice A m c) m ((List.range m).map fun j => .int .i64 (f j))) (hb : F < base) : RowK F w A m f ∧ m ≤ c ∧ c ≤ maxLen := by
  obtain ⟨hl, ⟨e, rfl⟩ | ⟨g, cap, cur, e, hb', hg, hc, hm, hs, ht⟩⟩ := h
  · cases e
    exact ⟨⟨fun j hj => by omega, fun ad e => by cases e⟩, Nat.le_refl _, by simp [maxLen]⟩
  · cases e
    refine ⟨⟨fun j hj => ⟨_, rfl, (Array.getElem?_eq_some_iff.1 hg).1, ?_⟩, fun ad e => by cases e; show F < g; omega⟩, hc, hm⟩
    have e1 : w.cell? ((⟨g, 0, none⟩ : Addr).add j) = cur[j]? := by rw [add_zero_addr]; simp [World.cell?, hg]
    rw [e1]
    have e2 : cur[j]? = (cur.toList.take (m * 1))[j]? := by rw [List.getElem?_take_of_lt (by omega)]; simp
    rw [e2, ht]
    simp [hj]
/-- Structs, one behind the other. -/
def flatN (k : Nat) (f : Nat → Nat → Int) (n : Nat) : List Value := (List.range n).flatMap fun i => (List.range k).map fun j => .int .i64 (f i j)
theorem flatN_succ (k : Nat) (f : Nat → Nat → Int) (n : Nat) : flatN k f (n + 1) = flatN k f n ++ (List.range k).map fun j => .int .i64 (f n j) := by
  simp [flatN, List.range_succ]
theorem flatN_length (k : Nat) (f : Nat → Nat → Int) : ∀ n, (flatN k f n).length = n * k
  | 0 => by simp [flatN]
  | n + 1 => by rw [flatN_succ, List.length_append, flatN_length k f n]; simp [Nat.succ_mul]
theorem flatN_get (k : Nat) (f : Nat → Nat → Int) : ∀ n i j, i < n → j < k → (flatN k f n)[i * k + j]? = some (.int .i64 (f i j))
  | 0, i, j, hi, _ => by omega
  | n + 1, i, j, hi, hj => by
    rw [flatN_succ]
    by_cases h : i < n
    · have : i * k + j < n * k := by
        have : (i + 1) * k ≤ n * k := Nat.mul_le_mul h (Nat.le_refl _)
        rw [Nat.succ_mul] at this; omega
      rw [List.getElem?_append_left (by rw [flatN_length]; exact this)]
      exact flatN_get k f n i j h hj
    · obtain rfl : i = n := by omega
      rw [List.getElem?_append_right (by rw [flatN_length]; omega), flatN_length]
      simp [hj]
theorem RowNK.own {F base m k : Nat} {w : World} {e : TypeId} {A : Option Addr} {c : Nat} {f : Nat → Nat → Int} (h : w.ownsRow base e k (.slice A m c) m (flatN k f m)) (hb : F < base) : RowNK F k w A m f ∧ m ≤ c ∧ c ≤ maxLen := by
  obtain ⟨hl, ⟨e, rfl⟩ | ⟨g, cap, cur, e, hb', hg, hc, hm, hs, ht⟩⟩ := h
  · cases e
    exact ⟨⟨fun j hj => by omega, fun ad e => by cases e⟩, Nat.le_refl _, by simp [maxLen]⟩
  · cases e
    refine ⟨⟨fun i hi j hj => ⟨_, rfl, (Array.getElem?_eq_some_iff.1 hg).1, ?_⟩, fun ad e => by cases e; show F < g; omega⟩, hc, hm⟩
    have hlt : i * k + j < m * k := by
      have : (i + 1) * k ≤ m * k := Nat.mul_le_mul hi (Nat.le_refl _)
      rw [Nat.succ_mul] at this; omega
    have e1 : w.cell? ((⟨g, 0, none⟩ : Addr).add (i * k + j)) = cur[i * k + j]? := by rw [add_zero_addr]; simp [World.cell?, hg]
    rw [e1]
    have e2 : cur[i * k + j]? = (cur.toList.take (m * k))[i * k + j]? := by rw [List.getElem?_take_of_lt hlt]; simp
    rw [e2, ht]
    exact flatN_get k f m i j hi hj
/-- One struct more in a row of the variable's. -/
theorem Fr.app {w WB wr : World} {F : Nat} {cs : List Value} (h : Fr w wr F cs) (hK : Kp (some F) WB wr) (hF : F < WB.heap.size) (T E : TypeId) (z : Value) (size bytes : Nat) (hT : Try.prog.underlying T = some (.slice E)) (hz : (Try.prog.info? E).map (fun i => (i.zero, i.size, i.bytes)) = some (some z, size, bytes))
    (hzs : z.cells.size = size) (hsz : 0 < size) (hb : bytes ≤ 1000) {A : Option Addr} {k c : Nat} {f : Nat → Nat → Int} (ow : wr.ownsRow WB.heap.size E size (.slice A k c) k (flatN size f k)) (ys : Array Value) (hys : ys.toList = (List.range size).map fun j => .int .i64 (f k j)) (hk : k ≤ 200000) (i : Nat) :
    ∃ A' c' w3, (Builtin.append_ #[T, T] T #[.slice A k c, .slice (some ⟨wr.heap.size, 0, none⟩) 1 1]).run Try.prog (wr.alloc (.cells ys E)) = .ok (.slice A' (k + 1) c') w3 ∧ Blk w3 F 28 cs ∧ Ext w w3 ∧
      Fr w (w3.setCell ⟨F, i, none⟩ (.slice A' (k + 1) c')) F (cs.set i (.slice A' (k + 1) c')) ∧ Kp (some F) WB (w3.setCell ⟨F, i, none⟩ (.slice A' (k + 1) c')) ∧
      (w3.setCell ⟨F, i, none⟩ (.slice A' (k + 1) c')).ownsRow WB.heap.size E size (.slice A' (k + 1) c') (k + 1) (flatN size f (k + 1)) := by
  have xa := (Ext.refl wr).alloc (.cells ys E)
  have o1 := OwnsRow.ext ow xa
  have kN : Blk (wr.alloc (.cells ys E)) wr.heap.size E ys.toList := Blk.lit _ _ _ _ rfl
  obtain ⟨A', c', w3, hr, ho, hg⟩ := run_putV (P := Try.prog) T T E z size bytes hT hz hzs hsz hb o1 ⟨wr.heap.size, 0, none⟩ 1 1 ys.toList (by rw [hys]; simp)
    (fun j u hu => by
      rw [add_zero_addr]
      exact (kN.cell j).trans hu) (fun u hu => by
        rw [hys] at hu
        obtain ⟨j, _, rfl⟩ := List.mem_map.1 hu
        rfl) (by omega) (Nat.le_trans hK.size xa.size)
  have hrow : ∀ n, (Value.slice A k c).ownBlock = some n → WB.heap.size ≤ n := fun n hn => (ow.lt n hn).1
  have K := Kp.of_grown hg
  have neF : some F ≠ (Value.slice A k c).ownBlock := fun e => by have := hrow _ e.symm; omega
  have bF : Blk w3 F 28 cs := K.blk (h.box.ext xa) neF
  have X3 : Ext w w3 := Below.grown (h.x.trans xa) hg (h.x.trans xa).size fun n hn => by have := hrow n hn; have := h.fw; omega
  have K3 : Kp (some F) WB w3 := ⟨Nat.le_trans hK.size (Nat.le_trans xa.size K.size), fun n hn hr' => (K.same n (Nat.lt_of_lt_of_le hn (Nat.le_trans hK.size xa.size)) (fun e => by have := hrow _ e.symm; omega)).trans ((xa.block n (Nat.lt_of_lt_of_le hn hK.size)).trans (hK.same n hn hr'))⟩
  have fr3 : Fr w w3 F cs := ⟨X3, bF, h.fw⟩
  refine ⟨A', c', w3, hr, bF, X3, fr3.set i _, kp_trans K3 (Kp.set w3 ⟨F, i, none⟩ _), ?_⟩
  rw [flatN_succ, ← hys]
  exact ownsRow_setCell_below ho (by show F < _; omega) _
end L07
end Go.Proofs.Ytggedodfkjdegaa

