/- The landed Read of layer 7: structs put behind, in a loop over a function. -/
import Derived.Test.YtggedodfkjdegaaTakenA07
namespace Go.Proofs.Ytggedodfkjdegaa
open Go.RowKit Go.Deep
namespace L07
open L06

/-- What is no cells may turn. -/
theorem Chg.kept {T : Addr → Prop} {N : Nat} {a b c : World} {row : Option Nat} (h : Chg T N a b) (hg : b.grownBy c row) (hr : ∀ r, row = some r → N ≤ r ∧ ∃ o : Obj, b.heap[r]? = some o ∧ o.isCells = false) : Chg T N a c := by
  have hr2 : ∀ r, row = some r → ∃ o : Obj, b.heap[r]? = some o ∧ o.isCells = false := fun r e => (hr r e).2
  refine ⟨Nat.le_trans h.size hg.size, fun p v hp hc => cell_kept (h.cell p v hp hc) hg hr2, fun p v hp hc hf => (frozen_kept (h.cell p v hp hc) hg hr2).trans (h.fz p v hp hc hf), fun n cs t f hb hc => ?_, fun w0 l y => ?_⟩
  · have hb' := h.blk n cs t f hb hc
    refine (hg.block n (Array.getElem?_eq_some_iff.1 hb').1 fun e => ?_).trans hb'
    obtain ⟨o, ho, hn⟩ := hr2 n e.symm
    rw [hb'] at ho
    cases ho
    simp [Obj.isCells] at hn
  · exact Below.grown (h.old w0 l y) hg (h.old w0 l y).size fun k hk => Nat.le_trans l (hr k hk).1
theorem grown_put (W : World) (D : Nat) (o : Obj) : W.grownBy (W.putObj D o) (some D) := grownBy_putObj' W D o

/-- What has been put, of structs; and that all else is as it was. -/
def LoopI (N : Nat) (t : Addr) (E : TypeId) (size : Nat) (Ds : List Nat) {α : Type} (rows : α → List Value) (w0 : World) (pre : List α) (W : World) : Prop :=
  ((∃ A c, W.cell? t = some (.slice A pre.length c) ∧ W.frozen? t = false ∧ W.ownsRow w0.heap.size E size (.slice A pre.length c) pre.length (pre.flatMap rows)) ∧ Chg (fun p => p = t) N w0 W) ∧ ∀ D ∈ Ds, W.heap[D]? = some (.deferred (some []))
theorem loopI_own {N : Nat} {t : Addr} {E : TypeId} {size : Nat} {Ds : List Nat} {α : Type} {rows : α → List Value} {w0 : World} {B : Nat} (hN : N ≤ B) (hD : ∀ D ∈ Ds, D < B) : OwnFrom B (LoopI N t E size Ds rows w0) := by
  rintro s W W' row ⟨⟨⟨A, c, q, f, o⟩, ch⟩, hd⟩ hg hr
  have hr2 : ∀ r, row = some r → ∃ o : Obj, W.heap[r]? = some o ∧ o.isCells = false := fun r e => (hr r e).2
  refine ⟨⟨⟨A, c, cell_kept q hg hr2, (frozen_kept q hg hr2).trans f, o.kept hg ?_⟩, Chg.kept ch hg fun r e => ⟨Nat.le_trans hN (hr r e).1, (hr r e).2⟩⟩, fun D hDD => ?_⟩
  · rcases o.2 with ⟨e, _⟩ | ⟨g, cap, cur, e, _, hgg, _⟩
    · rw [e]; exact .inl rfl
    · rw [e]
      refine .inr fun e' => ?_
      obtain ⟨o', ho, hn⟩ := hr2 g e'.symm
      rw [hgg] at ho
      cases ho
      simp [Obj.isCells] at hn
  · have h1 := hd D hDD
    refine (hg.block D (Array.getElem?_eq_some_iff.1 h1).1 fun e => ?_).trans h1
    have := (hr D e.symm).1
    have := hD D hDD
    omega

/-- One struct is put behind. -/
theorem put_struct {N : Nat} {wk w2 : World} {t : Addr} {A : Option Addr} {i c : Nat} {xs ys : List Value} (T E : TypeId) (z : Value) (size bytes : Nat) (hT : Try.prog.underlying T = some (.slice E)) (hz : (Try.prog.info? E).map (fun i => (i.zero, i.size, i.bytes)) = some (some z, size, bytes))
    (hzs : z.cells.size = size) (hsz : 0 < size) (hb : bytes ≤ 1000) (q : w2.cell? t = some (.slice A i c)) (fz : w2.frozen? t = false)
    (ow : w2.ownsRow wk.heap.size E size (.slice A i c) i xs) (hys : ys.length = 1 * size) (h1 : ∀ u ∈ ys, u.oneCell' = true) (ht : t.block < wk.heap.size) (hN : N ≤ t.block) (ch : Chg (fun p => p = t) N wk w2) (hi : i ≤ 200000) (hsp : t.spot = none) :
    ∃ A' c' w3, (Builtin.append_ #[T, T] T #[.slice A i c, .slice (some ⟨w2.heap.size, 0, none⟩) 1 1]).run Try.prog (w2.drew.alloc (.cells ys.toArray E)) = .ok (.slice A' (i + 1) c') w3 ∧
      w3.cell? t = some (.slice A i c) ∧ w3.frozen? t = false ∧ (∀ p v, p.block < wk.heap.size → w2.cell? p = some v → w3.cell? p = some v) ∧ (∀ b, b < wk.heap.size → w3.heap[b]? = w2.heap[b]?) ∧
      ((w3.setCell t (.slice A' (i + 1) c')).cell? t = some (.slice A' (i + 1) c') ∧ (w3.setCell t (.slice A' (i + 1) c')).frozen? t = false ∧
        (w3.setCell t (.slice A' (i + 1) c')).ownsRow wk.heap.size E size (.slice A' (i + 1) c') (i + 1) (xs ++ ys)) ∧
      Chg (fun p => p = t) N wk (w3.setCell t (.slice A' (i + 1) c')) ∧ KeepsOthers w2 (w3.setCell t (.slice A' (i + 1) c')) := by
  have x1 : Ext w2 (w2.drew.alloc (.cells ys.toArray E)) := ((Ext.refl w2).drew).alloc _
  have o1 : (w2.drew.alloc (.cells ys.toArray E)).ownsRow wk.heap.size E size (.slice A i c) i xs := OwnsRow.ext ow x1
  obtain ⟨A', c', w3, hr, ho, hg⟩ := run_putV (P := Try.prog) T T E z size bytes hT hz hzs hsz hb o1 ⟨w2.heap.size, 0, none⟩ 1 1 ys hys
    (fun j u hu => by
      have k := Blk.lit w2.drew w2.heap.size E ys.toArray rfl
      have := k.cell j
      rw [add_zero_addr]
      exact this.trans (by simpa using hu)) h1 (by omega) (by simp; have := ch.size; omega)
  have hrow : ∀ k, (Value.slice A i c).ownBlock = some k → wk.heap.size ≤ k := fun k hk => (ow.lt k hk).1
  have hblk : ∀ b, b < wk.heap.size → w3.heap[b]? = w2.heap[b]? := fun b hlt => by
    have h2 : b < w2.heap.size := Nat.lt_of_lt_of_le hlt ch.size
    exact (hg.block b (by simp; omega) fun e => by have := hrow _ e.symm; omega).trans (x1.block b h2)
  have cb : ∀ p : Addr, p.block < wk.heap.size → w3.cell? p = w2.cell? p ∧ w3.frozen? p = w2.frozen? p := fun p hp => cell_of_block (hblk p.block hp)
  obtain ⟨e1, e2⟩ := cb t ht
  have q3 : w3.cell? t = some (.slice A i c) := e1.trans q
  have f3 : w3.frozen? t = false := e2.trans fz
  obtain ⟨tb, to, ts⟩ := t
  simp only at hsp ht hN
  subst hsp
  have C3 : Chg (fun p => p = ⟨tb, to, none⟩) N wk w3 := (ch.trans (Chg.of_ext x1)).grown hg hrow (Nat.le_trans hN (Nat.le_of_lt ht))
  refine ⟨A', c', w3, hr, q3, f3, fun p v hp hv => (cb p hp).1.trans hv, hblk, ⟨World.cell?_setCell_same _ _ _ q3, by rw [World.frozen?_setCell]; exact f3, ?_⟩, C3.trans (Chg.set w3 tb to _ rfl hN), ?_⟩
  · refine ho.kept (row := some tb) ⟨rfl, rfl, rfl, (by simp [World.setCell]), fun k _ hk => Below.heap_setCell _ _ _ k (fun e => hk (by rw [e]))⟩ (.inr fun e => ?_)
    have := (ho.lt tb e).1
    omega
  · refine (((KeepsOthers.drew w2).trans (KeepsOthers.alloc _ _)).trans (KeepsOthers.of_grownBy hg fun j o ej hj => ?_)).trans (KeepsOthers.setCell _ _ _)
    rcases o1.2 with ⟨e, _⟩ | ⟨g, cap, cur, e, _, hgb, _⟩
    · rw [e] at ej; simp [Value.ownBlock] at ej
    · rw [e] at ej
      obtain rfl : g = j := by simpa [Value.ownBlock] using ej
      rw [hgb] at hj
      cases hj
      rfl

theorem chunk_stops (n b N c M : Nat) (A : Option Addr) (ad : Addr) (w : World) (hM : M = 4 * N) (hA : 0 < N → A = some ad) (hc : M ≤ c) (hcm : c ≤ 9223372036854775807) (hMm : M ≤ 1000000000) (hs : w.heap[b]? = some (.cells #[.slice A M c] 25 (0, 0))) (h4 : w.heap[b + 1]? = some (.cells #[.int .i64 4] 3 (0, 0))) :
    SeqStopsK Fence.wide n Try.prog 43 #[.pointer (some ⟨b, 0, none⟩), .pointer (some ⟨b + 1, 0, none⟩)] (fun x : Fin N => #[.slice (some (ad.add (4 * x.val))) 4 4]) (KpC b) (fun ys => ys = List.finRange N) (fun _ => True) N w :=
  fun l J Jx W hW hJ _ hY h0 => by
    refine chunk1_in n l b N c A ad M (Lib.hid hM) hA hc hcm hMm J Jx (fun pre W2 h => hJ pre W2 W2.drew none h ⟨rfl, rfl, rfl, Nat.le_refl _, fun _ _ _ => rfl⟩ (fun r e => by cases e)) hY W ?_ ?_ h0
    · exact (hW.block b (Array.getElem?_eq_some_iff.1 hs).1).trans hs
    · exact (hW.block (b + 1) (Array.getElem?_eq_some_iff.1 h4).1).trans h4
theorem kpC_put {b l : Nat} {W : World} {o' : Obj} (h : b + 1 < l) : KpC b W (W.putObj l o') := ⟨World.putObj_heap_other (by omega), World.putObj_heap_other (by omega)⟩

theorem char_info : (Try.prog.info? 35).map (fun i => (i.zero, i.size, i.bytes)) = some (some (.agg #[.int .i64 0, .int .i64 0, .int .i64 0, .int .i64 0, .int .i64 0, .int .i64 0]), 6, 48) := by kernel_rfl
theorem step_info : (Try.prog.info? 45).map (fun i => (i.zero, i.size, i.bytes)) = some (some (.agg #[.int .i64 0, .int .i64 0, .int .i64 0, .int .i64 0]), 4, 32) := by kernel_rfl

/-- A row of structs of one's own reads as a function of two places. -/
theorem own_rowN {w : World} {base k : Nat} {e : TypeId} {v : Value} {n N : Nat} {f : Nat → Nat → Int} (_hk : 0 < k) (hn : n = N) (h : w.ownsRow base e k v n ((List.finRange N).flatMap fun i => (List.range k).map fun j => .int .i64 (f i.val j))) :
    ∃ A c, v = .slice A n c ∧ n ≤ c ∧ c ≤ maxLen ∧ ∀ i, i < n → ∀ j, j < k → ∃ r, A = some ⟨r, 0, none⟩ ∧ base ≤ r ∧ r < w.heap.size ∧ w.cell? ⟨r, i * k + j, none⟩ = some (.int .i64 (f i j)) := by
  subst hn
  obtain ⟨hl, ⟨rfl, rfl⟩ | ⟨g, cap, cur, rfl, hb, hg, hc, hm, hs, ht⟩⟩ := h
  · exact ⟨none, 0, rfl, Nat.le_refl _, by simp [maxLen], fun i hi => by omega⟩
  · refine ⟨_, cap, rfl, hc, hm, fun i hi j hj => ⟨g, rfl, hb, (Array.getElem?_eq_some_iff.1 hg).1, ?_⟩⟩
    have hlt : i * k + j < n * k := by
      have : (i + 1) * k ≤ n * k := Nat.mul_le_mul hi (Nat.le_refl _)
      rw [Nat.succ_mul] at this; omega
    have e1 : w.cell? ⟨g, i * k + j, none⟩ = cur[i * k + j]? := by simp [World.cell?, hg]
    rw [e1]
    have e2 : cur[i * k + j]? = (cur.toList.take (n * k))[i * k + j]? := by rw [List.getElem?_take_of_lt hlt]; simp
    rw [e2, ht]
    clear e1 e2 ht hs hg hb hc hm cur hl
    have G : ∀ (m : Nat) (F : Fin m → List Value), (∀ x, (F x).length = k) → ∀ (i : Nat) (hi : i < m) (j : Nat), j < k → ((List.finRange m).flatMap F)[i * k + j]? = (F ⟨i, hi⟩)[j]? := by
      intro m
      induction m with
      | zero => intro F _ i hi; omega
      | succ m ih =>
        intro F hF i hi j hj
        rw [List.finRange_succ, List.flatMap_cons]
        match i with
        | 0 => rw [List.getElem?_append_left (by rw [hF]; omega)]; simp
        | i + 1 =>
          rw [List.getElem?_append_right (by rw [hF, Nat.succ_mul]; omega), hF, List.flatMap_map]
          have := ih (fun x => F x.succ) (fun x => hF _) i (by omega) j hj
          rw [show (i + 1) * k + j - k = i * k + j by rw [Nat.succ_mul]; omega]
          exact this
    rw [G n _ (fun x => by simp) i hi j hj]
    simp [hj]

/-- A font's rows, as they are put. -/
def chrRow (l : List UInt8) {N : Nat} (x : Fin N) : List Value := (List.range 6).map fun j => .int .i64 ((decD (fun n => n) l).chr x.val j)
def stpRow (l : List UInt8) {N : Nat} (x : Fin N) : List Value := (List.range 4).map fun j => .int .i64 ((decD (fun n => n) l).stp x.val j)
theorem chrRow_is (l : List UInt8) {N : Nat} (x : Fin N) : chrRow l x = [.int .i64 (byteA l (8 + x.val) 0), .int .i64 (byteA l (8 + x.val) 1 / 16), .int .i64 (byteA l (8 + x.val) 1 % 16), .int .i64 (byteA l (8 + x.val) 2 / 4), .int .i64 (byteA l (8 + x.val) 2 % 4), .int .i64 (byteA l (8 + x.val) 3)] := rfl
theorem stpRow_is (l : List UInt8) {N : Nat} (x : Fin N) : stpRow l x = [.int .i64 (byteA l (wordOf l 6 + x.val) 0), .int .i64 (byteA l (wordOf l 6 + x.val) 1), .int .i64 (byteA l (wordOf l 6 + x.val) 2), .int .i64 (byteA l (wordOf l 6 + x.val) 3)] := rfl
theorem dec_ok (l : List UInt8) (P : FontP) (hc : (decD (fun n => n) l).nc ≤ P.zc ∧ P.zc ≤ maxLen) (hw : (decD (fun n => n) l).nw ≤ P.zw ∧ P.zw ≤ maxLen) (hh : (decD (fun n => n) l).nh ≤ P.zh ∧ P.zh ≤ maxLen) (hd : (decD (fun n => n) l).nd ≤ P.zd ∧ P.zd ≤ maxLen)
    (hi : (decD (fun n => n) l).ni ≤ P.zi ∧ P.zi ≤ maxLen) (hs : (decD (fun n => n) l).ns ≤ P.zs ∧ P.zs ≤ maxLen) (hk : (decD (fun n => n) l).nk ≤ P.zk ∧ P.zk ≤ maxLen) (hp : (decD (fun n => n) l).np ≤ P.zp ∧ P.zp ≤ maxLen) : FontOk (decD (fun n => n) l) P := by
  have fx : ∀ j, Wide (fixA l j) := fun j => by have := fix_le l j; unfold Wide; omega
  have bt : ∀ k i, Wide (byteA l k i) := fun k i => by have := byte_le l k i; unfold Wide; omega
  refine ⟨?_, ?_, ?_, fun i j _ hj => ?_, fun j => fx _, fun j => fx _, fun j => fx _, fun j => fx _, fun i j _ _ => bt _ _, fun j => fx _, fun j => fx _, hc, hw, hh, hd, hi, hs, hk, hp⟩
  · have := word_le l 6; show Wide (word4 l 6); unfold Wide; omega
  · have := word_le l 7; show Wide (word4 l 7); unfold Wide; omega
  · have := half_le l 2; show Wide (half l 2); unfold Wide; omega
  · have b0 := byte_le l (8 + i) 0; have b1 := byte_le l (8 + i) 1; have b2 := byte_le l (8 + i) 2; have b3 := byte_le l (8 + i) 3
    match j, hj with
    | 0, _ => show Wide (byteA l (8 + i) 0); unfold Wide; omega
    | 1, _ => show Wide (byteA l (8 + i) 1 / 16); unfold Wide; omega
    | 2, _ => show Wide (byteA l (8 + i) 1 % 16); unfold Wide; omega
    | 3, _ => show Wide (byteA l (8 + i) 2 / 4); unfold Wide; omega
    | 4, _ => show Wide (byteA l (8 + i) 2 % 4); unfold Wide; omega
    | 5, _ => show Wide (byteA l (8 + i) 3); unfold Wide; omega
/-- A row that was made since N reads so wherever the cells from N on stay. -/
theorem RowD.seen {N n M : Nat} {w w' : World} {A : Option Addr} {f g : Nat → Int} {T : Addr → Prop} (h : RowD N w A n f) (ch : Chg T M w w') (hT : ∀ r o, N ≤ r → ¬ T ⟨r, o, none⟩) (e : ∀ j, j < n → f j = g j) : SeenF w' A n g := fun j hj => by
  obtain ⟨r, rfl, hr, hc⟩ := h j hj
  have hc' := ch.cell _ _ (hT r j hr) hc
  have hlt : r < w'.heap.size := World.block_lt_of_cell? w' _ hc'
  exact ⟨_, rfl, hlt, by rw [add_zero_addr, ← e j hj]; exact hc'⟩
theorem rowN_seen {k n base M : Nat} {w w' : World} {A : Option Addr} {f : Nat → Nat → Int} {T : Addr → Prop} (h : ∀ i, i < n → ∀ j, j < k → ∃ r, A = some ⟨r, 0, none⟩ ∧ base ≤ r ∧ r < w.heap.size ∧ w.cell? ⟨r, i * k + j, none⟩ = some (.int .i64 (f i j))) (ch : Chg T M w w') (hT : ∀ r o, base ≤ r → ¬ T ⟨r, o, none⟩) :
    SeenN k w' A n f := fun i hi j hj => by
  obtain ⟨r, rfl, hr, _, hc⟩ := h i hi j hj
  have hc' := ch.cell _ _ (hT r _ hr) hc
  have hlt : r < w'.heap.size := World.block_lt_of_cell? w' _ hc'
  exact ⟨_, rfl, hlt, by rw [add_zero_addr]; exact hc'⟩
/-- A row of bytes, of which four are taken at once. -/
theorem rowD_four {N n m : Nat} {w : World} {A : Option Addr} {f : Nat → Int} (h : RowD N w A n f) (hn : n = 4 * m) : ∃ r, N ≤ r ∧ (0 < m → A = some ⟨r, 0, none⟩) ∧ ∀ i, i < n → w.cell? ⟨r, i, none⟩ = some (.int .i64 (f i)) := by
  rcases Nat.eq_zero_or_pos m with h0 | h0
  · exact ⟨N, Nat.le_refl _, fun hm => by omega, fun i hi => by omega⟩
  · obtain ⟨r, rfl, hr, _⟩ := h 0 (by omega)
    refine ⟨r, hr, fun _ => rfl, fun i hi => ?_⟩
    obtain ⟨r', e, _, hc⟩ := h i hi
    have e : (⟨r, 0, none⟩ : Addr) = ⟨r', 0, none⟩ := Option.some.inj e
    have e : r = r' := congrArg Addr.block e
    rw [e]; exact hc
end L07
end Go.Proofs.Ytggedodfkjdegaa

