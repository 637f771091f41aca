/- The landed read of layer 10: what it keeps. -/
import Derived.Test.YtijhabhnhglhgaaDoorLandE10
import Derived.Test.YtijhabhnhglhgaaDoorKp
namespace Go.Proofs.YtijhabhnhglhgaaDoor
open Go.RowKit
namespace L10

theorem decode_end (s : ByteArray) (pos : Nat) (h : pos < s.size) : pos + (Utf8.decode s pos).2 ≤ s.size := by
  by_cases h1 : (s.get! pos).toNat < 128
  · rw [decode_one s pos h1]; exact h
  · exact (decode_wide s pos h (by omega)).2.2.1
theorem int_info : (Tryd.prog.info? 3).map (fun i => (i.zero, i.size, i.bytes)) = some (some (.int .i64 0), 1, 8) := by kernel_rfl
theorem own_none {w : World} {base : Nat} {e : TypeId} {size n : Nat} {v : Value} {xs : List Value} (h : w.ownsRow base e size v n xs) (hv : v.ownBlock = none) : v = .slice none 0 0 ∧ n = 0 := by
  rcases h.2 with hn | ⟨g, cap, cur, rfl, _⟩
  · exact hn
  · cases hv

/-- What read keeps: two boxes, an iterator, three rows of its own, all apart. -/
structure Rd (w wr : World) (k : Nat) (s : ByteArray) (pos : Nat) (vl va vv : Value) (st : RS) : Prop where
  x : Ext w wr
  b0 : Blk wr w.heap.size 42 [.string ByteArray.empty, .slice none 0 0]
  b1 : Blk wr (w.heap.size + 1) 45 [.string ByteArray.empty, .slice none 0 0]
  k0 : w.heap.size + 2 ≤ k
  it : wr.heap[k]? = some (.stringIter s pos)
  l : wr.ownsRow (w.heap.size + 2) 5 1 vl st.L.length (bv st.L)
  a : wr.ownsRow (w.heap.size + 2) 3 1 va st.A.length (st.A.map (.int .i64))
  v : wr.ownsRow (w.heap.size + 2) 3 1 vv (st.V.length + 1) ((st.V ++ [st.v]).map (.int .i64))
  la : ∀ g, vl.ownBlock = some g → g ≠ k ∧ va.ownBlock ≠ some g ∧ vv.ownBlock ≠ some g
  av : ∀ g, va.ownBlock = some g → g ≠ k ∧ vv.ownBlock ≠ some g
  vk : ∀ g, vv.ownBlock = some g → g ≠ k
theorem Rd.hk {w wr : World} {k : Nat} {s : ByteArray} {pos : Nat} {vl va vv : Value} {st : RS} (h : Rd w wr k s pos vl va vv st) : k < wr.heap.size := (Array.getElem?_eq_some_iff.1 h.it).1
theorem Rd.next {w wr : World} {k : Nat} {s : ByteArray} {pos : Nat} {vl va vv : Value} {st : RS} (h : Rd w wr k s pos vl va vv st) (pos' : Nat) : Rd w (wr.iterAt k s pos') k s pos' vl va vv st := by
  have K := Kp.iter wr k s pos'
  have hk := h.k0
  exact ⟨ext_iter h.x (by omega) s pos', K.blk h.b0 (by simp; omega), K.blk h.b1 (by simp; omega), hk, Lib.iterAt_heap wr k s pos pos' h.it,
    K.row h.l (fun g e => by have := (h.la g e).1; simpa using this), K.row h.a (fun g e => by have := (h.av g e).1; simpa using this), K.row h.v (fun g e => by have := h.vk g e; simpa using this), h.la, h.av, h.vk⟩
theorem Rd.kept {w wr w' : World} {k : Nat} {s : ByteArray} {pos : Nat} {vl va vv : Value} {st : RS} (h : Rd w wr k s pos vl va vv st) (x : Ext wr w') : Rd w w' k s pos vl va vv st := by
  have K : Kp none wr w' := Kp.of_ext x
  exact ⟨h.x.trans x, K.blk h.b0 (by simp), K.blk h.b1 (by simp), h.k0, K.it h.it (by simp), K.row h.l (by simp), K.row h.a (by simp), K.row h.v (by simp), h.la, h.av, h.vk⟩
theorem Rd.count {w wr : World} {k : Nat} {s : ByteArray} {pos : Nat} {vl va vv : Value} {st : RS} (h : Rd w wr k s pos vl va vv st) (m : Nat) : Rd w wr k s pos vl va vv { st with n := m } :=
  ⟨h.x, h.b0, h.b1, h.k0, h.it, h.l, h.a, h.v, h.la, h.av, h.vk⟩
/-- A row that grows, what stays. -/
theorem grown_apart {w : World} {v v' u : Value} {base : Nat} {e : TypeId} {size n : Nat} {xs : List Value} (hu : w.ownsRow base e size u n xs) (hat : v'.ownBlock = v.ownBlock ∨ v'.ownBlock = some w.heap.size) (h : ∀ g, v.ownBlock = some g → u.ownBlock ≠ some g) :
    ∀ g, v'.ownBlock = some g → u.ownBlock ≠ some g := fun g hg hu' => by
  rcases hat with h1 | h1
  · exact h g (by rw [← h1]; exact hg) hu'
  · rw [h1] at hg
    cases hg
    have := (hu.lt _ hu').2
    omega
theorem grown_k {w : World} {v v' : Value} {k : Nat} (hk : k < w.heap.size) (hat : v'.ownBlock = v.ownBlock ∨ v'.ownBlock = some w.heap.size) (h : ∀ g, v.ownBlock = some g → g ≠ k) : ∀ g, v'.ownBlock = some g → g ≠ k := fun g hg => by
  rcases hat with h1 | h1
  · exact h g (by rw [← h1]; exact hg)
  · rw [h1] at hg
    cases hg
    omega
theorem ext_grown {w wr w' : World} {v : Value} {base : Nat} {e : TypeId} {size n : Nat} {xs : List Value} (x : Ext w wr) (hv : wr.ownsRow base e size v n xs) (hb : w.heap.size ≤ base) (hg : wr.grownBy w' v.ownBlock) : Ext w w' :=
  Below.grown x hg x.size (fun n e => Nat.le_trans hb (hv.lt n e).1)

theorem Rd.putL {w wr : World} {k : Nat} {s : ByteArray} {pos : Nat} {vl va vv : Value} {st : RS} (h : Rd w wr k s pos vl va vv st) (ad : Addr) (b : UInt8) (hc : wr.cell? ad = some (.int .u8 b.toNat)) (hn : st.L.length ≤ 900000) (ty : TypeId) :
    ∃ vl' w', (Builtin.append_ #[22, 22] ty #[vl, .slice (some ad) 1 1]).run Tryd.prog wr = .ok vl' w' ∧ Rd w w' k s pos vl' va vv { st with L := st.L ++ [b] } := by
  obtain ⟨i, hi, hz0, hsz, hby⟩ := info_parts byte_info
  obtain ⟨vl', w', hr, ho, hg, _, hat⟩ := run_append_own_at (P := Tryd.prog) wr (w.heap.size + 2) 22 ty 5 i (.int .u8 0) 1 1 Tryd.underlying22 hi hz0 hsz hby rfl (by omega) vl st.L.length (bv st.L) h.l ad 1 1 [.int .u8 (b.toNat : Int)] rfl
    (fun j u hu => by
      cases j with
      | zero => simp at hu; subst hu; simpa [Addr.add] using hc
      | succ j => simp at hu) (by simp [Value.oneCell']) (by unfold maxLen; omega) (by omega) (by have := h.hk; have := h.k0; omega)
  have K := Kp.of_grown hg
  have hb0 := h.k0
  refine ⟨vl', w', hr, ext_grown h.x h.l (by omega) hg, K.blk h.b0 (fun e => by have := (h.l.lt _ e.symm).1; omega), K.blk h.b1 (fun e => by have := (h.l.lt _ e.symm).1; omega), h.k0, K.it h.it (fun e => (h.la _ e.symm).1 rfl), ?_,
    K.row h.a (fun g e e' => (h.la g e'.symm).2.1 e), K.row h.v (fun g e e' => (h.la g e'.symm).2.2 e), ?_, h.av, h.vk⟩
  · simp only [List.length_append, List.length_cons, List.length_nil, bv_append]
    exact ho
  · exact fun g hg' => ⟨grown_k h.hk hat (fun g e => (h.la g e).1) g hg', grown_apart h.a hat (fun g e => (h.la g e).2.1) g hg', grown_apart h.v hat (fun g e => (h.la g e).2.2) g hg'⟩
theorem Rd.putA {w wr : World} {k : Nat} {s : ByteArray} {pos : Nat} {vl va vv : Value} {st : RS} (h : Rd w wr k s pos vl va vv st) (ad : Addr) (n : Int) (hc : wr.cell? ad = some (.int .i64 n)) (hn : st.A.length ≤ 900000) (ty : TypeId) :
    ∃ va' w', (Builtin.append_ #[40, 40] ty #[va, .slice (some ad) 1 1]).run Tryd.prog wr = .ok va' w' ∧ Rd w w' k s pos vl va' vv { st with A := st.A ++ [n] } := by
  obtain ⟨i, hi, hz0, hsz, hby⟩ := info_parts int_info
  obtain ⟨va', w', hr, ho, hg, _, hat⟩ := run_append_own_at (P := Tryd.prog) wr (w.heap.size + 2) 40 ty 3 i (.int .i64 0) 1 8 Tryd.underlying40 hi hz0 hsz hby rfl (by omega) va st.A.length (st.A.map (.int .i64)) h.a ad 1 1 [.int .i64 n] rfl
    (fun j u hu => by
      cases j with
      | zero => simp at hu; subst hu; simpa [Addr.add] using hc
      | succ j => simp at hu) (by simp [Value.oneCell']) (by unfold maxLen; omega) (by omega) (by have := h.hk; have := h.k0; omega)
  have K := Kp.of_grown hg
  have hb0 := h.k0
  refine ⟨va', w', hr, ext_grown h.x h.a (by omega) hg, K.blk h.b0 (fun e => by have := (h.a.lt _ e.symm).1; omega), K.blk h.b1 (fun e => by have := (h.a.lt _ e.symm).1; omega), h.k0, K.it h.it (fun e => (h.av _ e.symm).1 rfl),
    K.row h.l (fun g e e' => (h.la g e).2.1 e'.symm), ?_, K.row h.v (fun g e e' => (h.av g e'.symm).2 e), fun g e => ?_, ?_, h.vk⟩
  · simp only [List.length_append, List.length_cons, List.length_nil, List.map_append, List.map_cons, List.map_nil]
    exact ho
  · have h3 := grown_apart h.l hat (fun g e' e => (h.la g e).2.1 e')
    exact ⟨(h.la g e).1, fun e' => h3 g e' e, (h.la g e).2.2⟩
  · exact fun g hg' => ⟨grown_k h.hk hat (fun g e => (h.av g e).1) g hg', grown_apart h.v hat (fun g e => (h.av g e).2) g hg'⟩
theorem Rd.putV {w wr : World} {k : Nat} {s : ByteArray} {pos : Nat} {vl va vv : Value} {st : RS} (h : Rd w wr k s pos vl va vv st) (ad : Addr) (hc : wr.cell? ad = some (.int .i64 0)) (hn : st.V.length ≤ 900000) (ty : TypeId) :
    ∃ vv' w', (Builtin.append_ #[40, 40] ty #[vv, .slice (some ad) 1 1]).run Tryd.prog wr = .ok vv' w' ∧ Rd w w' k s pos vl va vv' { st with V := st.V ++ [st.v], v := 0 } := by
  obtain ⟨i, hi, hz0, hsz, hby⟩ := info_parts int_info
  obtain ⟨vv', w', hr, ho, hg, _, hat⟩ := run_append_own_at (P := Tryd.prog) wr (w.heap.size + 2) 40 ty 3 i (.int .i64 0) 1 8 Tryd.underlying40 hi hz0 hsz hby rfl (by omega) vv (st.V.length + 1) ((st.V ++ [st.v]).map (.int .i64)) h.v ad 1 1 [.int .i64 0] rfl
    (fun j u hu => by
      cases j with
      | zero => simp at hu; subst hu; simpa [Addr.add] using hc
      | succ j => simp at hu) (by simp [Value.oneCell']) (by unfold maxLen; omega) (by omega) (by have := h.hk; have := h.k0; omega)
  have K := Kp.of_grown hg
  have hb0 := h.k0
  refine ⟨vv', w', hr, ext_grown h.x h.v (by omega) hg, K.blk h.b0 (fun e => by have := (h.v.lt _ e.symm).1; omega), K.blk h.b1 (fun e => by have := (h.v.lt _ e.symm).1; omega), h.k0, K.it h.it (fun e => h.vk _ e.symm rfl),
    K.row h.l (fun g e e' => (h.la g e).2.2 e'.symm), K.row h.a (fun g e e' => (h.av g e).2 e'.symm), ?_, fun g e => ?_, fun g e => ?_, grown_k h.hk hat h.vk⟩
  · simp only [List.length_append, List.length_cons, List.length_nil, List.map_append, List.map_cons, List.map_nil] at ho ⊢
    exact ho
  · have h3 := grown_apart h.l hat (fun g e' e => (h.la g e).2.2 e')
    exact ⟨(h.la g e).1, (h.la g e).2.1, fun e' => h3 g e' e⟩
  · have h3 := grown_apart h.a hat (fun g e' e => (h.av g e).2 e')
    exact ⟨(h.av g e).1, fun e' => h3 g e' e⟩
theorem Rd.setV {w wr : World} {k : Nat} {s : ByteArray} {pos : Nat} {vl va : Value} {g cap : Nat} {st : RS} (h : Rd w wr k s pos vl va (.slice (some ⟨g, 0, none⟩) (st.V.length + 1) cap) st) (z : Int) :
    Rd w (wr.setCell ⟨g, st.V.length, none⟩ (.int .i64 z)) k s pos vl va (.slice (some ⟨g, 0, none⟩) (st.V.length + 1) cap) { st with v := z } := by
  have hg := h.v.lt g rfl
  have K := Kp.set wr ⟨g, st.V.length, none⟩ (.int .i64 z)
  refine ⟨h.x.setCell (by show _ ≤ g; omega) _, K.blk h.b0 (by simp; omega), K.blk h.b1 (by simp; omega), h.k0, K.it h.it (by have := h.vk g rfl; simp; omega),
    K.row h.l (fun g' e e' => (h.la g' e).2.2 e'.symm), K.row h.a (fun g' e e' => (h.av g' e).2 e'.symm), ?_, h.la, h.av, h.vk⟩
  have := row_set h.v st.V.length (.int .i64 z)
  rw [List.map_append, List.set_append_right _ _ (by simp)] at this
  simp only [List.length_map, Nat.sub_self, List.map_cons, List.map_nil, List.set_cons_zero] at this
  rw [List.map_append]
  exact this
theorem Rd.row {w wr : World} {k : Nat} {s : ByteArray} {pos : Nat} {vl va vv : Value} {st : RS} (h : Rd w wr k s pos vl va vv st) : ∃ g cap, vv = .slice (some ⟨g, 0, none⟩) (st.V.length + 1) cap ∧ wr.cell? ⟨g, st.V.length, none⟩ = some (.int .i64 st.v) ∧ wr.frozen? ⟨g, st.V.length, none⟩ = false := by
  have hv := h.v
  rcases h.v.2 with ⟨_, h0⟩ | ⟨g, cap, cur, rfl, _⟩
  · omega
  · have := row_cell hv (i := st.V.length) (by omega)
    refine ⟨g, cap, rfl, ?_, this.2⟩
    rw [this.1]
    simp
end L10
end Go.Proofs.YtijhabhnhglhgaaDoor

