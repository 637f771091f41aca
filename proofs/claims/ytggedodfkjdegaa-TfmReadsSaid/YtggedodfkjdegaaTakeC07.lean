/- The landed Read of layer 7: parts taken, one behind the other. -/
import Derived.Test.YtggedodfkjdegaaTakeB07
import Derived.Test.YtggedodfkjdegaaKeep
import Derived.Deep.RegionHeld3
import Derived.WalkMore
import Derived.Laws.EntriesVeiled
namespace Go.Proofs.Ytggedodfkjdegaa
open Go.RowKit Go.Deep
namespace L07
open L06

/-- An append whose run is known, in a region that draws its order. -/
theorem step_run {P : Program} {ops : Array Oper} {o : Oper} {a : Act} {w w' : World} {K : Act → World → Prop} {Q : Exit → Act → World → Prop} {E : Prop} {t : TypeId} {v : Value} (s x : Operand)
    (ho : o.op = .call { callee := .builtin .append, args := #[s, x], argTypes := #[t, t] }) (hw : Region.wanted o (yielded ops a.tmps) = true) (hrun : (Builtin.append_ #[t, t] o.type #[a.eval s, a.eval x]).run P w = .ok v w')
    (h : K (a.put o.dst v) w') : if Region.wanted o (yielded ops a.tmps) = true then Oper.wp P o a w K Q else E := by
  rw [if_pos hw]
  unfold Oper.wp execOp
  simp only [ho, resolve, invoke, builtin, Sem.run_bind, Sem.run_pure, Result.andThen_ok, List.map_toArray, List.map_cons, List.map_nil, hrun]
  exact h

/-- A part: how many, which method, where they go. -/
structure Part where
  n : Int
  k : Nat
  b : Nat
  o : Nat
def remP (ps : Nat → Part) (l : List UInt8) : Nat → List UInt8
  | 0 => l
  | j + 1 => (remP ps l j).drop (szF (ps j).k * (ps j).n.toNat)
def rowP (ps : Nat → Part) (l : List UInt8) (j i : Nat) : Int := rdF (ps j).k ((remP ps l j).drop (szF (ps j).k * i))
def fitsP (ps : Nat → Part) (l : List UInt8) (m : Nat) : Prop := ∀ j, j < m → szF (ps j).k * (ps j).n.toNat ≤ (remP ps l j).length
theorem remP_le (ps : Nat → Part) (l : List UInt8) : ∀ j, (remP ps l j).length ≤ l.length
  | 0 => Nat.le_refl _
  | j + 1 => by rw [remP, List.length_drop]; have := remP_le ps l j; omega
/-- Where a part goes. -/
def Part.at (p : Part) : Addr := ⟨p.b, p.o, none⟩
/-- A row that was made since N. -/
def RowD (N : Nat) (w : World) (A : Option Addr) (n : Nat) (f : Nat → Int) : Prop := ∀ i, i < n → ∃ r, A = some ⟨r, 0, none⟩ ∧ N ≤ r ∧ w.cell? ⟨r, i, none⟩ = some (.int .i64 (f i))
def DoneP (N : Nat) (w : World) (p : Part) (f : Nat → Int) : Prop := ∃ A c, w.cell? p.at = some (.slice A p.n.toNat c) ∧ p.n.toNat ≤ c ∧ c ≤ maxLen ∧ RowD N w A p.n.toNat f
def OnP (g : Nat) (ps : Nat → Part) (m : Nat) (p : Addr) : Prop := p = ⟨g, 0, none⟩ ∨ ∃ j, j < m ∧ p = (ps j).at
/-- What is laid for the call. -/
structure Laid (w0 w1 : World) (g pb m : Nat) (ps : Nat → Part) : Prop where
  g0 : w0.heap.size ≤ g
  g1 : g < w1.heap.size
  p1 : pb < w1.heap.size
  gp : g ≠ pb
  lo : ∀ j, j < m → w0.heap.size ≤ (ps j).b
  hi : ∀ j, j < m → (ps j).b < w1.heap.size
  np : ∀ j, j < m → (ps j).b ≠ pb
  ng : ∀ j, j < m → (ps j).b ≠ g
  ne : ∀ i j, i < m → j < m → i ≠ j → (ps i).at ≠ (ps j).at
  kd : ∀ j, j < m → kindB (ps j).k
  nn : ∀ j, j < m → -1000000 ≤ (ps j).n ∧ (ps j).n ≤ 1000000
  c0 : ∀ j, j < m → w1.cell? ⟨pb, j * 3, none⟩ = some (.int .i64 (ps j).n)
  c1 : ∀ j, j < m → w1.cell? ⟨pb, j * 3 + 1, none⟩ = some (.func (.func (ps j).k) #[.pointer (some ⟨g, 0, none⟩)] #[])
  c2 : ∀ j, j < m → w1.cell? ⟨pb, j * 3 + 2, none⟩ = some (.pointer (some (ps j).at))
  em : ∀ j, j < m → w1.cell? (ps j).at = some (.slice none 0 0) ∧ w1.frozen? (ps j).at = false
/-- k parts are taken. -/
structure OutI (w0 w1 wr : World) (g m : Nat) (ps : Nat → Part) (l : List UInt8) (k : Nat) : Prop where
  bx : BoxT w0 wr g (remP ps l k)
  ft : fitsP ps l k
  ch : Chg (OnP g ps m) w0.heap.size w1 wr
  dn : ∀ j, j < k → DoneP w1.heap.size wr (ps j) (rowP ps l j)
  em : ∀ j, k ≤ j → j < m → wr.cell? (ps j).at = some (.slice none 0 0) ∧ wr.frozen? (ps j).at = false
/-- i numbers of part k are taken; since wk. -/
structure InI (w0 wk wr : World) (g : Nat) (ps : Nat → Part) (l : List UInt8) (k i : Nat) : Prop where
  bx : BoxT w0 wr g ((remP ps l k).drop (szF (ps k).k * i))
  ft : szF (ps k).k * i ≤ (remP ps l k).length
  ch : Chg (fun p => p = ⟨g, 0, none⟩ ∨ p = (ps k).at) w0.heap.size wk wr
  rw : ∃ A c, wr.cell? (ps k).at = some (.slice A i c) ∧ wr.frozen? (ps k).at = false ∧ wr.ownsRow wk.heap.size 3 1 (.slice A i c) i ((List.range i).map fun j => .int .i64 (rowP ps l k j))

theorem laid_zero {w0 w1 : World} {g pb m : Nat} {ps : Nat → Part} {l : List UInt8} (L : Laid w0 w1 g pb m ps) (hb : BoxT w0 w1 g l) : OutI w0 w1 w1 g m ps l 0 :=
  ⟨hb, fun j hj => by omega, Chg.refl _ _ _, fun j hj => by omega, fun j _ hj => L.em j hj⟩
theorem in_zero {w0 w1 wr wk : World} {g pb m k : Nat} {ps : Nat → Part} {l : List UInt8} (_ : Laid w0 w1 g pb m ps) (O : OutI w0 w1 wr g m ps l k) (hk : k < m) (x : Ext wr wk) : InI w0 wk wk g ps l k 0 := by
  obtain ⟨e, f⟩ := O.em k (Nat.le_refl _) hk
  exact ⟨by rw [Nat.mul_zero, List.drop_zero]; exact O.bx.ext x, by omega, Chg.refl _ _ _, ⟨none, 0, x.at e, x.fz e f, World.ownsRow_nil _ _ _ _⟩⟩
theorem in_next {w0 w1 wr wk wi : World} {g pb m k : Nat} {ps : Nat → Part} {l : List UInt8} (L : Laid w0 w1 g pb m ps) (O : OutI w0 w1 wr g m ps l k) (hk : k < m) (x : Ext wr wk) (hlt : w1.heap.size ≤ wr.heap.size)
    (I : InI w0 wk wi g ps l k (ps k).n.toNat) : OutI w0 w1 wi g m ps l (k + 1) := by
  have hT : ∀ p, (p = ⟨g, 0, none⟩ ∨ p = (ps k).at) → OnP g ps m p := fun p h => h.imp id fun h => ⟨k, hk, h⟩
  refine ⟨I.bx, fun j hj => ?_, (O.ch.trans (Chg.of_ext x)).trans (I.ch.wide hT (Nat.le_refl _)), fun j hj => ?_, fun j hj hjm => ?_⟩
  · by_cases e : j = k
    · subst e; exact I.ft
    · exact O.ft j (by omega)
  · by_cases e : j = k
    · subst e
      obtain ⟨A, c, q, _, ow⟩ := I.rw
      obtain ⟨A', c', e', hc, hm, hr⟩ := own_rowF ow
      simp only [Value.slice.injEq, true_and] at e'
      obtain ⟨rfl, rfl⟩ := e'
      exact ⟨A, c, q, hc, hm, fun i hi => by obtain ⟨r, e, h1, _, h3⟩ := hr i hi; exact ⟨r, e, by have := x.size; omega, h3⟩⟩
    · obtain ⟨A, c, q, hc, hm, hr⟩ := O.dn j (by omega)
      refine ⟨A, c, I.ch.cell _ _ ?_ (x.at q), hc, hm, fun i hi => ?_⟩
      · rintro (h | h)
        · exact L.ng j (by omega) (congrArg Addr.block h)
        · exact L.ne j k (by omega) hk e h
      · obtain ⟨r, e', h1, h2⟩ := hr i hi
        refine ⟨r, e', h1, I.ch.cell _ _ ?_ (x.at h2)⟩
        rintro (h | h)
        · exact absurd (congrArg Addr.block h) (by show r ≠ g; have := L.g1; omega)
        · exact absurd (congrArg Addr.block h) (by show r ≠ (ps k).b; have := L.hi k hk; omega)
  · obtain ⟨e, f⟩ := O.em j (by omega) hjm
    have hn : ¬ ((ps j).at = ⟨g, 0, none⟩ ∨ (ps j).at = (ps k).at) := by
      rintro (h | h)
      · exact L.ng j hjm (congrArg Addr.block h)
      · exact L.ne j k hjm hk (by omega) h
    exact ⟨I.ch.cell _ _ hn (x.at e), I.ch.fz _ _ hn (x.at e) (x.fz e f)⟩

theorem enter_kind {k : Nat} (hk : kindB k) (args : Array Value) (w : World) : (callFunc k args).run Try.prog w = .ok (.enter k args) w := by
  rcases hk with rfl | rfl | rfl | rfl
  · simp [callFunc, go_sem, Try.func28, Try.f28]
  · simp [callFunc, go_sem, Try.func26, Try.f26]
  · simp [callFunc, go_sem, Try.func27, Try.f27]
  · simp [callFunc, go_sem, Try.func29, Try.f29]
theorem rangeI (f : Nat → Int) (i : Nat) (y : Int) (h : f i = y) : ((List.range i).map fun j => (Value.int .i64 (f j))) ++ [.int .i64 y] = (List.range (i + 1)).map fun j => .int .i64 (f j) := by
  rw [List.range_succ, List.map_append, ← h]; rfl
theorem int_info : (Try.prog.info? 3).map (fun i => (i.zero, i.size, i.bytes)) = some (some (.int .i64 0), 1, 8) := by kernel_rfl
/-- One number is put behind. -/
theorem put_next {w0 wk w2 : World} {t : Addr} {A : Option Addr} {i c : Nat} {f : Nat → Int} {g : Nat} (y : Int) (hy : f i = y) (q : w2.cell? t = some (.slice A i c)) (fz : w2.frozen? t = false)
    (ow : w2.ownsRow wk.heap.size 3 1 (.slice A i c) i ((List.range i).map fun j => .int .i64 (f j))) (ht : t.block < wk.heap.size) (hN : w0.heap.size ≤ t.block) (ch : Chg (fun p => p = ⟨g, 0, none⟩ ∨ p = t) w0.heap.size wk w2) (hi : i ≤ 200000)
    (hsp : t.spot = none) :
    ∃ A' c' w3, (Builtin.append_ #[25, 25] 25 #[.slice A i c, .slice (some ⟨w2.heap.size, 0, none⟩) 1 1]).run Try.prog (w2.drew.alloc (.cells #[.int .i64 y] 3)) = .ok (.slice A' (i + 1) c') w3 ∧
      w3.cell? t = some (.slice A i c) ∧ w3.frozen? t = false ∧ (∀ p v, p.block < wk.heap.size → w2.cell? p = some v → w3.cell? p = some v) ∧ (∀ p v, p.block < wk.heap.size → w2.cell? p = some v → w3.frozen? p = w2.frozen? p) ∧
      ((w3.setCell t (.slice A' (i + 1) c')).cell? t = some (.slice A' (i + 1) c') ∧ (w3.setCell t (.slice A' (i + 1) c')).frozen? t = false ∧
        (w3.setCell t (.slice A' (i + 1) c')).ownsRow wk.heap.size 3 1 (.slice A' (i + 1) c') (i + 1) ((List.range (i + 1)).map fun j => .int .i64 (f j))) ∧
      Chg (fun p => p = ⟨g, 0, none⟩ ∨ p = t) w0.heap.size wk (w3.setCell t (.slice A' (i + 1) c')) := by
  have o1 : (w2.drew.alloc (.cells #[.int .i64 y] 3)).ownsRow wk.heap.size 3 1 (.slice A i c) i ((List.range i).map fun j => .int .i64 (f j)) := OwnsRow.ext ow (((Ext.refl w2).drew).alloc _)
  obtain ⟨A', c', w3, hr, ho, hg⟩ := run_putV (P := Try.prog) 25 25 3 (.int .i64 0) 1 8 Try.underlying25 int_info rfl (by omega) (by omega) o1 ⟨w2.heap.size, 0, none⟩ 1 1 [.int .i64 y] rfl
    (fun j u hu => by
      match j, hu with
      | 0, hu =>
        simp only [List.getElem?_cons_zero, Option.some.injEq] at hu
        subst hu
        exact (Blk.lit w2.drew w2.heap.size 3 #[.int .i64 y] rfl).cell 0
      | j + 1, hu => simp at hu) (by simp [Value.oneCell']) (by omega) (by simp; have := ch.size; omega)
  have hrow : ∀ k, (Value.slice A i c).ownBlock = some k → wk.heap.size ≤ k := fun k hk => (ow.lt k hk).1
  have cb : ∀ p : Addr, p.block < wk.heap.size → ∀ v, w2.cell? p = some v → w3.cell? p = w2.cell? p ∧ w3.frozen? p = w2.frozen? p := fun p hp v hv => by
    have hlt := World.block_lt_of_cell? w2 _ hv
    have e1 := cell_of_block (w := w2.drew.alloc (.cells #[.int .i64 y] 3)) (w' := w3) (p := p) (hg.block p.block (by simp; omega) fun e => by have := hrow _ e.symm; omega)
    have x : Ext w2 (w2.drew.alloc (.cells #[.int .i64 y] 3)) := ((Ext.refl w2).drew).alloc _
    exact ⟨e1.1.trans (x.cell hlt), e1.2.trans (x.frozen hlt)⟩
  obtain ⟨e1, e2⟩ := cb t ht _ q
  have q3 : w3.cell? t = some (.slice A i c) := e1.trans q
  have f3 : w3.frozen? t = false := e2.trans fz
  rw [rangeI f i y hy] at ho
  obtain ⟨tb, to, ts⟩ := t
  simp only at hsp ht hN
  subst hsp
  have C3 : Chg (fun p => p = ⟨g, 0, none⟩ ∨ p = ⟨tb, to, none⟩) w0.heap.size wk w3 := (ch.trans (Chg.of_ext (((Ext.refl w2).drew).alloc _))).grown hg hrow (Nat.le_trans hN (Nat.le_of_lt ht))
  refine ⟨A', c', w3, hr, q3, f3, fun p v hp hv => (cb p hp v hv).1.trans hv, fun p v hp hv => (cb p hp v hv).2, ⟨World.cell?_setCell_same _ _ _ q3, by rw [World.frozen?_setCell]; exact f3, ?_⟩, C3.trans (Chg.set w3 tb to _ (.inr rfl) hN)⟩
  refine ho.kept (row := some tb) ⟨rfl, rfl, rfl, (by simp [World.setCell]), fun k _ hk => Below.heap_setCell _ _ _ k (fun e => hk (by rw [e]))⟩ (.inr fun e => ?_)
  have := (ho.lt tb e).1
  omega

set_option maxRecDepth 100000 in
set_option maxHeartbeats 8000000 in
theorem ttake_any (w0 w1 : World) (g pb m : Nat) (ps : Nat → Part) (l : List UInt8) (L : Laid w0 w1 g pb m ps) (hb : BoxT w0 w1 g l) (hx : Ext w0 w1) (hl : l.length ≤ 100000) (hm : m ≤ 100) :
    Calls Try.prog 25 #[.slice (some ⟨pb, 0, none⟩) m m] w1 (fun e w' => Chg (OnP g ps m) w0.heap.size w1 w' ∧
      ((e = .returned (.int .i64 0) ∧ fitsP ps l m ∧ BoxT w0 w' g (remP ps l m) ∧ ∀ j, j < m → DoneP w1.heap.size w' (ps j) (rowP ps l j)) ∨ (e = .returned (.int .i64 60) ∧ ¬ fitsP ps l m))) := by
  have LL := Lib.hid L
  have L0 := Lib.hid (laid_zero L hb)
  have HX := Lib.hid hx
  clear L hb hx
  go_enter Try.func25, Try.ntmps25
  go_wp2_with fail
  go_step3
  go_wp2_with fail
  go_step3
  go_wp2_with fail
  go_loopw [3, 9] (fun e i wr => e = .int .i64 0 ∧ ∃ k : Nat, k ≤ m ∧ i = .int .i64 k ∧ Hid (OutI w0 w1 wr g m ps l k)) (fun _ i _ => m - (intOf i).toNat)
  case atStart => exact ⟨rfl, 0, by omega, rfl, L0⟩
  case round =>
    clear L0
    obtain ⟨rfl, k, hk, rfl, O⟩ := hrel
    by_cases hlt : k < m
    · have c0 := O.out.ch.cell _ _ (by rintro (h | ⟨j, hj, h⟩); exact LL.out.gp (congrArg Addr.block h).symm; exact LL.out.np j hj (congrArg Addr.block h).symm) (LL.out.c0 k hlt)
      have c1 := O.out.ch.cell _ _ (by rintro (h | ⟨j, hj, h⟩); exact LL.out.gp (congrArg Addr.block h).symm; exact LL.out.np j hj (congrArg Addr.block h).symm) (LL.out.c1 k hlt)
      have c2 := O.out.ch.cell _ _ (by rintro (h | ⟨j, hj, h⟩); exact LL.out.gp (congrArg Addr.block h).symm; exact LL.out.np j hj (congrArg Addr.block h).symm) (LL.out.c2 k hlt)
      have hnn := LL.out.nn k hlt
      obtain ⟨n0, n1⟩ := hnn
      have hkd := Lib.hid (LL.out.kd k hlt)
      have I0 := Lib.hid (in_zero (wk := wr.alloc (.cells #[.int .i64 (ps k).n, .func (.func (ps k).k) #[.pointer (some ⟨g, 0, none⟩)] #[], .pointer (some (ps k).at)] 62)) LL.out O.out hlt ((Ext.refl _).alloc _))
      have NX := Lib.hid (fun wi I => in_next (wk := wr.alloc (.cells #[.int .i64 (ps k).n, .func (.func (ps k).k) #[.pointer (some ⟨g, 0, none⟩)] #[], .pointer (some (ps k).at)] 62)) (wi := wi) LL.out O.out hlt ((Ext.refl _).alloc _) O.out.ch.size I)
      have CH := Lib.hid (fun wi (I : Chg (fun p => p = ⟨g, 0, none⟩ ∨ p = (ps k).at) w0.heap.size (wr.alloc (.cells #[.int .i64 (ps k).n, .func (.func (ps k).k) #[.pointer (some ⟨g, 0, none⟩)] #[], .pointer (some (ps k).at)] 62)) wi) => (O.out.ch.trans (Chg.of_ext ((Ext.refl _).alloc _))).trans (I.wide (U := OnP g ps m) (fun p h => h.imp id fun h => ⟨k, hlt, h⟩) (Nat.le_refl _)))
      have p0 := (Blk.lit wr wr.heap.size 62 #[.int .i64 (ps k).n, .func (.func (ps k).k) #[.pointer (some ⟨g, 0, none⟩)] #[], .pointer (some (ps k).at)] rfl)
      have hwk : wr.heap.size < (wr.alloc (.cells #[.int .i64 (ps k).n, .func (.func (ps k).k) #[.pointer (some ⟨g, 0, none⟩)] #[], .pointer (some (ps k).at)] 62)).heap.size := by simp
      have hx : Ext w0 (wr.alloc (.cells #[.int .i64 (ps k).n, .func (.func (ps k).k) #[.pointer (some ⟨g, 0, none⟩)] #[], .pointer (some (ps k).at)] 62)) := (O.out.ch.old w0 (Nat.le_refl _) HX.out).alloc _
      have hgP : g < wr.heap.size := Nat.lt_of_lt_of_le LL.out.g1 O.out.ch.size
      have htP : (ps k).b < wr.heap.size := Nat.lt_of_lt_of_le (LL.out.hi k hlt) O.out.ch.size
      have hlo := LL.out.lo k hlt
      have hg0 := LL.out.g0
      have REM := remP_le ps l k
      have P0 := p0.cell 0
      have P1 := p0.cell 1
      have P2 := p0.cell 2
      simp only [List.getElem?_cons_zero, List.getElem?_cons_succ] at P0 P1 P2
      clear p0 O
      generalize hpk : ps k = pk at *
      obtain ⟨n, kk, b, o⟩ := pk
      simp only [Part.at] at *
      go_wp2_with fail

      generalize hWK : (wr.alloc (.cells #[.int .i64 n, .func (.func kk) #[.pointer (some ⟨g, 0, none⟩)] #[], .pointer (some ⟨b, o, none⟩)] 62)) = WK at *
      generalize wr.heap.size = PB at *
      go_loopw [3, 15] (fun e i wi => e = .int .i64 0 ∧ ∃ q : Nat, q ≤ n.toNat ∧ i = .int .i64 q ∧ Hid (InI w0 WK wi g ps l k q)) (fun _ i _ => n.toNat - (intOf i).toNat)
      case atStart => exact ⟨rfl, 0, by omega, rfl, I0⟩
      case round =>
        clear I0
        obtain ⟨rfl, q, hq, rfl, I⟩ := hrel
        by_cases hlt' : q < n.toNat
        · obtain ⟨A, c, qc, qf, ow⟩ := I.out.rw
          have ch := I.out.ch
          have bx := I.out.bx
          have ft := I.out.ft
          rw [hpk] at qc qf bx ch ft
          simp only [Part.at] at qc qf ch ft bx
          have ne0 : ∀ j, ¬ ((⟨PB, j, none⟩ : Addr) = ⟨g, 0, none⟩ ∨ (⟨PB, j, none⟩ : Addr) = ⟨b, o, none⟩) := by
            rintro j (h | h)
            · exact absurd (congrArg Addr.block h) (by show PB ≠ g; omega)
            · exact absurd (congrArg Addr.block h) (by show PB ≠ b; omega)
          have P1 := ch.cell _ _ (ne0 1) P1
          have P2 := ch.cell _ _ (ne0 2) P2
          have M := Lib.hid (meth_any kk hkd.out w0 wr g _ bx hg0 (ch.old w0 (Nat.le_refl _) hx) (by rw [List.length_drop]; omega))
          have hql : q ≤ 100000 := by have := (szF_in hkd.out).1; have : 1 * q ≤ szF kk * q := Nat.mul_le_mul this (Nat.le_refl _); omega
          have FT := Lib.hid ft
          have BB := Lib.hid (And.intro qc (And.intro qf (And.intro ow ch)))
          clear bx I ft qc qf ow ch
          have EK := enter_kind hkd.out #[.pointer (some ⟨g, 0, none⟩)] wr
          go_wp2_with fail
          refine M.out.mono ?_
          rintro e w2 ⟨(⟨hz, rfl⟩ | ⟨hz, rfl⟩), b2, k2⟩
          · obtain ⟨qc, qf, ow, ch⟩ := BB.out
            rw [List.drop_drop] at b2
            rw [List.length_drop] at hz
            have tT : ¬ OnT g (⟨b, o, none⟩ : Addr) := fun h => absurd (congrArg Addr.block h) (by show b ≠ g; have := LL.out.ng k hlt; rw [hpk] at this; exact this)
            have ow2 : w2.ownsRow WK.heap.size 3 1 (.slice A q c) q ((List.range q).map fun j => .int .i64 (rowP ps l k j)) :=
              k2.owns ow fun r o hr h => absurd (congrArg Addr.block h) (by show r ≠ g; omega)
            have C2 := ch.trans (k2.wide (U := fun p => p = ⟨g, 0, none⟩ ∨ p = ⟨b, o, none⟩) (fun p h => .inl h) (Nat.le_refl _))
            have P2b := k2.cell _ _ (fun h => absurd (congrArg Addr.block h) (by show PB ≠ g; omega)) P2
            obtain ⟨A', c', w3, r3, t3, f3, keep3, keepf, fin3, C3⟩ := put_next (w0 := w0) (wk := WK) (t := ⟨b, o, none⟩) (g := g) (rdF kk ((remP ps l k).drop (szF kk * q))) (by rw [rowP, hpk]) (k2.cell _ _ tT qc) (k2.fz _ _ tT qc qf) ow2 (by show b < WK.heap.size; omega) (by show w0.heap.size ≤ b; exact hlo) C2 (by omega) rfl
            have P3 := keep3 _ _ (by show PB < WK.heap.size; omega) P2b
            have hin := rdF_in kk ((remP ps l k).drop (szF kk * q))
            generalize rdF kk ((remP ps l k).drop (szF kk * q)) = y at *
            have Q0 : (w2.drew).cell? ⟨b, o, none⟩ = some (.slice A q c) := k2.cell _ _ tT qc
            have Q1 : (w2.drew.alloc (.cells #[.int .i64 y] 3)).cell? ⟨b, o, none⟩ = some (.slice A q c) := ((Ext.refl _).alloc _).at Q0
            have Q2 : (w2.alloc (.cells #[.int .i64 y] 3)).cell? ⟨b, o, none⟩ = some (.slice A q c) := ((Ext.refl w2).alloc _).at (k2.cell _ _ tT qc)
            have R0 : (w2.drew).cell? ⟨PB, 2, none⟩ = some (.pointer (some ⟨b, o, none⟩)) := P2b
            have R1 : (w2.drew.alloc (.cells #[.int .i64 y] 3)).cell? ⟨PB, 2, none⟩ = some (.pointer (some ⟨b, o, none⟩)) := ((Ext.refl _).alloc _).at R0
            have b3 : ∀ v, BoxT w0 (w3.setCell ⟨b, o, none⟩ v) g ((remP ps l k).drop (szF kk * q + szF kk)) := fun v => by
              obtain ⟨Ab, cb, e1, e2, e3, e4⟩ := b2
              exact ⟨Ab, cb, (World.cell?_setCell_other _ _ _ _ (fun e => tT e)).trans (keep3 _ _ (by show g < WK.heap.size; omega) e1), by rw [World.frozen?_setCell]; exact (keepf _ _ (by show g < WK.heap.size; omega) e1).trans e2, e3, e4⟩
            have FIN := Lib.hid (And.intro fin3 (And.intro C3 (And.intro b3 hz)))
            clear fin3 C3 b2 b3 hz BB qc qf ow ow2 ch C2 M k2 keep3 keepf EK
            go_wp2_with fail
            refine wp_region_noPanic ?_
            refine wp_region_held_drew (S := (fun w' => w'.cell? ⟨PB, 2, none⟩ = some (.pointer (some ⟨b, o, none⟩)))) (by kernel_rfl) R0 (fun h0 => ?_)
            refine wpAnyH_take (i := 0) (oi := ?_) (v := ?_) ?_ (by kernel_rfl) (by kernel_rfl) (by kernel_rfl) ?_ ?_ h0 ?_
            rotate_left 2
            · simp only [List.getElem?_toArray, List.getElem?_cons_zero]; rfl
            · exact fun _ _ _ h => h
            · refine Or.inl ⟨by rfl, ?_⟩
              intro w hSw
              (try dsimp only at hSw)
              go_simp
              (try with_reducible rfl)
            (try simp only [Act.put, List.setIfInBounds_toArray, List.set_cons_zero, List.set_cons_succ])
            refine wpAnyH_take (i := 1) (oi := ?_) (v := ?_) ?_ (by kernel_rfl) (by kernel_rfl) (by kernel_rfl) ?_ ?_ h0 ?_
            rotate_left 2
            · simp only [List.getElem?_toArray, List.getElem?_cons_zero, List.getElem?_cons_succ]; rfl
            · exact fun _ _ _ h => h
            · refine Or.inl ⟨by rfl, ?_⟩
              intro w hSw
              (try dsimp only at hSw)
              go_simp
              (try with_reducible rfl)
            (try simp only [Act.put, List.setIfInBounds_toArray, List.set_cons_zero, List.set_cons_succ])
            refine wpAnyH_take (i := 2) (oi := ?_) (v := ?_) ?_ (by kernel_rfl) (by kernel_rfl) (by kernel_rfl) ?_ ?_ h0 ?_
            rotate_left 2
            · simp only [List.getElem?_toArray, List.getElem?_cons_zero, List.getElem?_cons_succ]; rfl
            · exact fun _ _ _ h => h
            · refine Or.inl ⟨by rfl, ?_⟩
              intro w hSw
              (try dsimp only at hSw)
              go_simp
              (try with_reducible rfl)
            (try simp only [Act.put, List.setIfInBounds_toArray, List.set_cons_zero, List.set_cons_succ])
            refine wpAnyH_take (i := 3) (oi := ?_) (v := ?_) ?_ (by kernel_rfl) (by kernel_rfl) (by kernel_rfl) ?_ ?_ h0 ?_
            rotate_left 2
            · simp only [List.getElem?_toArray, List.getElem?_cons_zero, List.getElem?_cons_succ]; rfl
            · exact fun _ _ _ h => h
            · refine Or.inl ⟨by rfl, ?_⟩
              intro w hSw
              (try dsimp only at hSw)
              go_simp
              (try with_reducible rfl)
            (try simp only [Act.put, List.setIfInBounds_toArray, List.set_cons_zero, List.set_cons_succ])
            refine wpAnyH_take (i := 4) (oi := ?_) (v := ?_) ?_ (by kernel_rfl) (by kernel_rfl) (by kernel_rfl) ?_ ?_ h0 ?_
            rotate_left 2
            · simp only [List.getElem?_toArray, List.getElem?_cons_zero, List.getElem?_cons_succ]; rfl
            · exact fun _ _ _ h => h
            · refine Or.inl ⟨by rfl, ?_⟩
              intro w hSw
              (try dsimp only at hSw)
              go_simp
              (try with_reducible rfl)
            (try simp only [Act.put, List.setIfInBounds_toArray, List.set_cons_zero, List.set_cons_succ])
            refine wpAnyH_take (i := 6) (oi := ?_) (v := ?_) ?_ (by kernel_rfl) (by kernel_rfl) (by kernel_rfl) ?_ ?_ h0 ?_
            rotate_left 2
            · simp only [List.getElem?_toArray, List.getElem?_cons_zero, List.getElem?_cons_succ]; rfl
            · exact fun _ _ _ h => h
            · refine Or.inl ⟨by rfl, ?_⟩
              intro w hSw
              (try dsimp only at hSw)
              go_simp
              (try with_reducible rfl)
            (try simp only [Act.put, List.setIfInBounds_toArray, List.set_cons_zero, List.set_cons_succ])
            refine wpAnyH_ready (rs := [5, 7]) (by kernel_rfl) (by simp) ?_
            refine AllReadyH.cons (o := ?_) ?_ (fun K hK => ?_) ?_
            rotate_left
            · simp only [List.getElem?_toArray, List.getElem?_cons_zero, List.getElem?_cons_succ]; rfl
            · go_simp
              refine hK.out _ _ R0 (fun h1 => ?_)
              clear hK K
              (try simp only [Act.put, List.setIfInBounds_toArray, List.set_cons_zero, List.set_cons_succ])
              refine wpAnyH_ready (rs := [7]) (by kernel_rfl) (by simp) ?_
              refine AllReadyH.cons (o := ?_) ?_ (fun K hK => ?_) AllReadyH.nil
              rotate_left
              · simp only [List.getElem?_toArray, List.getElem?_cons_zero, List.getElem?_cons_succ]; rfl
              go_simp
              refine hK.out _ _ R1 (fun h5 => ?_)
              clear hK K
              (try simp only [Act.put, List.setIfInBounds_toArray, List.set_cons_zero, List.set_cons_succ])
              refine wpAnyH_ready (rs := [8]) (by kernel_rfl) (by simp) ?_
              refine AllReadyH.cons (o := ?_) ?_ (fun K hK => ?_) AllReadyH.nil
              rotate_left
              · simp only [List.getElem?_toArray, List.getElem?_cons_zero, List.getElem?_cons_succ]; rfl
              refine step_run (.tmp 30) (.tmp 32) rfl (by kernel_rfl) r3 ?_
              refine hK.out _ _ P3 (fun h2 => ?_)
              clear hK K
              (try simp only [Act.put, List.setIfInBounds_toArray, List.set_cons_zero, List.set_cons_succ])
              refine wpAnyH_take (i := 9) (oi := ?_) (v := ?_) ?_ (by kernel_rfl) (by kernel_rfl) (by kernel_rfl) ?_ ?_ h2 ?_
              rotate_left 2
              · simp only [List.getElem?_toArray, List.getElem?_cons_zero, List.getElem?_cons_succ]; rfl
              · exact fun _ _ _ h => h
              · refine Or.inl ⟨by rfl, ?_⟩
                intro w hSw
                (try dsimp only at hSw)
                go_simp
                (try with_reducible rfl)
              (try simp only [Act.put, List.setIfInBounds_toArray, List.set_cons_zero, List.set_cons_succ])
              refine wpAnyH_ready (rs := [10]) (by kernel_rfl) (by simp) ?_
              refine AllReadyH.cons (o := ?_) ?_ (fun K hK => ?_) AllReadyH.nil
              rotate_left
              · simp only [List.getElem?_toArray, List.getElem?_cons_zero, List.getElem?_cons_succ]; rfl
              go_simp
              refine hK.out _ _ ?_ (fun h4 => ?_)
              · rw [World.cell?_setCell_far _ _ _ _ (by show b ≠ PB; omega)]
                exact P3
              clear hK K
              (try simp only [Act.put, List.setIfInBounds_toArray, List.set_cons_zero, List.set_cons_succ])
              refine wpAnyH_done (by kernel_rfl) ?_ _
              refine NoPanic.normal ?_
              clear h2 h4 r3
              go_wp2_with fail
              go_roundw
              case rel =>
                obtain ⟨fin3, C3, b3, hz⟩ := FIN.out
                refine ⟨rfl, q + 1, by omega, by go_num, Lib.hid ⟨?_, ?_, ?_, ?_⟩⟩
                · rw [hpk, Nat.mul_succ]; exact b3 _
                · rw [hpk, Nat.mul_succ]; have := FT.out; show szF kk * q + szF kk ≤ _; omega
                · rw [hpk]; exact C3
                · rw [hpk]; exact ⟨A', c', fin3⟩
              case measure => simp [intOf]; omega
            · refine AllReadyH.cons (o := ?_) ?_ (fun K hK => ?_) AllReadyH.nil
              rotate_left
              · simp only [List.getElem?_toArray, List.getElem?_cons_zero, List.getElem?_cons_succ]; rfl
              go_simp
              refine hK.out _ _ R1 (fun h1 => ?_)
              clear hK K
              (try simp only [Act.put, List.setIfInBounds_toArray, List.set_cons_zero, List.set_cons_succ])
              refine wpAnyH_ready (rs := [5]) (by kernel_rfl) (by simp) ?_
              refine AllReadyH.cons (o := ?_) ?_ (fun K hK => ?_) AllReadyH.nil
              rotate_left
              · simp only [List.getElem?_toArray, List.getElem?_cons_zero, List.getElem?_cons_succ]; rfl
              go_simp
              refine hK.out _ _ R1 (fun h5 => ?_)
              clear hK K
              (try simp only [Act.put, List.setIfInBounds_toArray, List.set_cons_zero, List.set_cons_succ])
              refine wpAnyH_ready (rs := [8]) (by kernel_rfl) (by simp) ?_
              refine AllReadyH.cons (o := ?_) ?_ (fun K hK => ?_) AllReadyH.nil
              rotate_left
              · simp only [List.getElem?_toArray, List.getElem?_cons_zero, List.getElem?_cons_succ]; rfl
              refine step_run (.tmp 30) (.tmp 32) rfl (by kernel_rfl) r3 ?_
              refine hK.out _ _ P3 (fun h2 => ?_)
              clear hK K
              (try simp only [Act.put, List.setIfInBounds_toArray, List.set_cons_zero, List.set_cons_succ])
              refine wpAnyH_take (i := 9) (oi := ?_) (v := ?_) ?_ (by kernel_rfl) (by kernel_rfl) (by kernel_rfl) ?_ ?_ h2 ?_
              rotate_left 2
              · simp only [List.getElem?_toArray, List.getElem?_cons_zero, List.getElem?_cons_succ]; rfl
              · exact fun _ _ _ h => h
              · refine Or.inl ⟨by rfl, ?_⟩
                intro w hSw
                (try dsimp only at hSw)
                go_simp
                (try with_reducible rfl)
              (try simp only [Act.put, List.setIfInBounds_toArray, List.set_cons_zero, List.set_cons_succ])
              refine wpAnyH_ready (rs := [10]) (by kernel_rfl) (by simp) ?_
              refine AllReadyH.cons (o := ?_) ?_ (fun K hK => ?_) AllReadyH.nil
              rotate_left
              · simp only [List.getElem?_toArray, List.getElem?_cons_zero, List.getElem?_cons_succ]; rfl
              go_simp
              refine hK.out _ _ ?_ (fun h4 => ?_)
              · rw [World.cell?_setCell_far _ _ _ _ (by show b ≠ PB; omega)]
                exact P3
              clear hK K
              (try simp only [Act.put, List.setIfInBounds_toArray, List.set_cons_zero, List.set_cons_succ])
              refine wpAnyH_done (by kernel_rfl) ?_ _
              refine NoPanic.normal ?_
              clear h2 h4 r3
              go_wp2_with fail
              go_roundw
              case rel =>
                obtain ⟨fin3, C3, b3, hz⟩ := FIN.out
                refine ⟨rfl, q + 1, by omega, by go_num, Lib.hid ⟨?_, ?_, ?_, ?_⟩⟩
                · rw [hpk, Nat.mul_succ]; exact b3 _
                · rw [hpk, Nat.mul_succ]; have := FT.out; show szF kk * q + szF kk ≤ _; omega
                · rw [hpk]; exact C3
                · rw [hpk]; exact ⟨A', c', fin3⟩
              case measure => simp [intOf]; omega
          · obtain ⟨qc, qf, ow, ch⟩ := BB.out
            have C2 := CH.out _ (ch.trans (k2.wide (U := fun p => p = ⟨g, 0, none⟩ ∨ p = ⟨b, o, none⟩) (fun p h => .inl h) (Nat.le_refl _)))
            have NF : ¬ fitsP ps l m := fun h => by
              have h1 := h k hlt
              rw [hpk] at h1
              simp only at h1
              rw [List.length_drop] at hz
              have h2 : szF kk * (q + 1) ≤ szF kk * n.toNat := Nat.mul_le_mul (Nat.le_refl _) (by omega)
              rw [Nat.mul_succ] at h2
              omega
            clear BB qc qf ow ch b2 k2 hz M EK
            go_wp2_with fail
            rw [Exit.noGoto_ret]
            go_ret
            exact ⟨C2, .inr ⟨rfl, NF⟩⟩
        · have ek : q = n.toNat := by omega
          subst ek
          have N := Lib.hid (NX.out _ I.out)
          clear I
          go_wp2_with fail
          go_roundw
          case rel => exact ⟨rfl, k + 1, by omega, by go_num, N⟩
          case measure => simp [intOf]; omega
    · have ek : k = m := by omega
      subst ek
      go_wp2_with fail
      rw [Exit.noGoto_ret]
      go_ret
      exact ⟨O.out.ch, .inl ⟨rfl, O.out.ft, O.out.bx, O.out.dn⟩⟩
end L07
end Go.Proofs.Ytggedodfkjdegaa

