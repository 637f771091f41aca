/- sort.order2_func, median_func, medianAdjacent_func, by a function that makes memory of its own. Any program. -/
import Derived.Test.YtmmgmcfhlhghoaaGreatDoorSrtA16
import Derived.Shelf.GgSortFunc.LotD
import Derived.Sort.LotD4
import Derived.Sort.WalkD1
namespace Go.Proofs.YtmmgmcfhlhghoaaGreatDoor
open Go.Shelf Go.RowKit
open Go.Sort hiding Below
open Go.Lib hiding intOf
namespace Srt16
variable {P : Program} {ρ : Ren} {α : Type} [Inhabited α] {g sf size blk base : Nat} {V : Value} {sb : Array Value} {lt : α → α → Bool} {S : Array α → World → Prop}

/-- How a call ends that only compares, and counts in the block cb: the count is t. -/
def Cnt (S : Array α → World → Prop) (d : Array α) (cb : Nat) (w : World) (t : Nat) (w' : World) : Prop :=
  S d w' ∧ But (Only cb) w w' ∧ w'.cell? ⟨cb, 0, none⟩ = some (.int .i64 t) ∧ w'.frozen? ⟨cb, 0, none⟩ = false

set_option maxHeartbeats 2000000 in
set_option maxRecDepth 100000 in
theorem order_any (L : LaysGg.n39 P ρ) (K : Srt P g sf V sb lt size blk base S) {d : Array α} {w : World} (h : S d w) (a b : Nat) (ha : a < size) (hb : b < size) (cb s : Nat) (hc : base ≤ cb) (hn : cb ≠ blk) (hs : s < 4611686018427387904)
    (cs : w.cell? ⟨cb, 0, none⟩ = some (.int .i64 s)) (fs : w.frozen? ⟨cb, 0, none⟩ = false) :
    Calls P (ρ.f 39) #[.agg #[.func (.func g) #[V] #[], .func (.func sf) #[] sb], .int .i64 a, .int .i64 b, .pointer (some ⟨cb, 0, none⟩)] w fun e w' => e = .returned (.tuple #[.int .i64 (order2 lt d a b s).1, .int .i64 (order2 lt d a b s).2.1]) ∧ Cnt S d cb w (order2 lt d a b s).2.2 w' := by
  have mixed := L.mixed; have t0 := L.t0; have a0 := L.a0; have z0 := L.z0; have v0 := L.v0; have t3 := L.t3; have a3 := L.a3; have z3 := L.z3; have v3 := L.v3; have t4 := L.t4; have a4 := L.a4; have z4 := L.z4; have v4 := L.v4; have t26 := L.t26; have a26 := L.a26; have z26 := L.z26; have v26 := L.v26; have t37 := L.t37; have a37 := L.a37; have z37 := L.z37; have v37 := L.v37; have t44 := L.t44; have a44 := L.a44; have z44 := L.z44; have v44 := L.v44; have t64 := L.t64; have a64 := L.a64; have z64 := L.z64; have v64 := L.v64
  have u44 := run_underlying L.t44
  have eg := K.enter
  have x0 : Ext w (w.alloc (.cells #[.func (.func g) #[V] #[], .func (.func sf) #[] sb] (ρ.t 44))) := (Ext.refl w).alloc _
  have hl := K.less (K.ext h x0) b a hb ha
  have X0 := Lib.hid x0
  have HS := Lib.hid h
  have HK := Lib.hid K
  have CS := Lib.hid cs
  have FS := Lib.hid fs
  clear K h x0 cs fs
  cases hlv : lt d[b]! d[a]! with
  | true =>
    rw [hlv] at hl
    rw [show order2 lt d a b s = (b, a, s + 1) by simp [order2, hlv]]
    go_enter L.f39, BodyGg.n39_ntmps ρ
    go_wp2_with (go_at_fn g; refine hl.mono ?_; rintro e w1 ⟨rfl, x1⟩; have X1 := Lib.hid (X0.out.trans x1); clear x1; have c1 := X1.out.at CS.out; have f1 := X1.out.fz CS.out FS.out)
    go_ret2
    have k : But (Only cb) w (w1.setCell ⟨cb, 0, none⟩ (.int .i64 ((s : Int) + 1))) := (But.of_ext X1.out).trans (But.set (S := Only cb) w1 ⟨cb, 0, none⟩ _ rfl) fun _ => Or.inl
    refine ⟨rfl, HK.out.keep HS.out (k.mono fun i _ e => by rw [show i = cb from e]; exact ⟨hc, hn⟩), k, ?_, by simpa using f1⟩
    rw [World.cell?_setCell_same _ _ _ c1]
    simp
  | false =>
    rw [hlv] at hl
    rw [show order2 lt d a b s = (a, b, s) by simp [order2, hlv]]
    go_enter L.f39, BodyGg.n39_ntmps ρ
    go_wp2_with (go_at_fn g; refine hl.mono ?_; rintro e w1 ⟨rfl, x1⟩; have X1 := Lib.hid (X0.out.trans x1); clear x1)
    go_ret2
    exact ⟨rfl, HK.out.ext HS.out X1.out, But.of_ext X1.out, X1.out.at CS.out, X1.out.fz CS.out FS.out⟩

/-- Within a call that only compares: its data lie in a block B of its own, the count stands in block cb. -/
structure Ct (g sf : Nat) (V : Value) (sb : Array Value) (S : Array α → World → Prop) (B cb : Nat) (w0 : World) (d : Array α) (t : Nat) (w : World) : Prop where
  s : S d w
  c0 : w.cell? ⟨B, 0, none⟩ = some (.func (.func g) #[V] #[])
  c1 : w.cell? ⟨B, 1, none⟩ = some (.func (.func sf) #[] sb)
  cc : w.cell? ⟨cb, 0, none⟩ = some (.int .i64 t)
  cf : w.frozen? ⟨cb, 0, none⟩ = false
  ne : B ≠ cb
  x : But (Only cb) w0 w
omit [Inhabited α] in
theorem Ct.call {B cb : Nat} {w0 w w' : World} {d : Array α} {s t : Nat} (h : Ct g sf V sb S B cb w0 d s w) (k : Cnt S d cb w t w') : Ct g sf V sb S B cb w0 d t w' :=
  ⟨k.1, k.2.1.at h.c0 h.ne, k.2.1.at h.c1 h.ne, k.2.2.1, k.2.2.2, h.ne, h.x.trans k.2.1 fun _ => Or.inl⟩

set_option maxHeartbeats 2000000 in
set_option maxRecDepth 100000 in
theorem median_any (L : LaysGg.n38 P ρ) (K : Srt P g sf V sb lt size blk base S) {d : Array α} {w : World} (h : S d w) (a b c : Nat) (ha : a < size) (hb : b < size) (hc : c < size) (cb s : Nat) (hcb : base ≤ cb) (hn : cb ≠ blk) (hs : s + 3 < 4611686018427387904)
    (cs : w.cell? ⟨cb, 0, none⟩ = some (.int .i64 s)) (fs : w.frozen? ⟨cb, 0, none⟩ = false) :
    Calls P (ρ.f 38) #[.agg #[.func (.func g) #[V] #[], .func (.func sf) #[] sb], .int .i64 a, .int .i64 b, .int .i64 c, .pointer (some ⟨cb, 0, none⟩)] w fun e w' => e = .returned (.int .i64 (median lt d a b c s).1) ∧ Cnt S d cb w (median lt d a b c s).2 w' := by
  have mixed := L.mixed; have t0 := L.t0; have a0 := L.a0; have z0 := L.z0; have v0 := L.v0; have t3 := L.t3; have a3 := L.a3; have z3 := L.z3; have v3 := L.v3; have t4 := L.t4; have a4 := L.a4; have z4 := L.z4; have v4 := L.v4; have t26 := L.t26; have a26 := L.a26; have z26 := L.z26; have v26 := L.v26; have t37 := L.t37; have a37 := L.a37; have z37 := L.z37; have v37 := L.v37; have t44 := L.t44; have a44 := L.a44; have z44 := L.z44; have v44 := L.v44; have t64 := L.t64; have a64 := L.a64; have z64 := L.z64; have v64 := L.v64; have t67 := L.t67; have a67 := L.a67; have z67 := L.z67; have v67 := L.v67
  have u44 := run_underlying L.t44
  have e39 : ∀ args w, (callFunc (ρ.f 39) args).run P w = .ok (.enter (ρ.f 39) args) w := enters_of L.f39 (by kernel_rfl) rfl
  have hsz := K.long h
  have step : ∀ (w1 : World) (t a' b' : Nat), Ct g sf V sb S w.heap.size cb w d t w1 → a' < size → b' < size → t < 4611686018427387904 → ∀ (p q r : Nat), order2 lt d a' b' t = (p, q, r) →
      Calls P (ρ.f 39) #[.agg #[.func (.func g) #[V] #[], .func (.func sf) #[] sb], .int .i64 a', .int .i64 b', .pointer (some ⟨cb, 0, none⟩)] w1 fun e w' => e = .returned (.tuple #[.int .i64 p, .int .i64 q]) ∧ Ct g sf V sb S w.heap.size cb w d r w' := fun w1 t a' b' k h1 h2 h3 p q r e => by
    have z := order_any (P := P) (ρ := ρ) { L with } K k.s a' b' h1 h2 cb t hcb hn h3 k.cc k.cf
    rw [e] at z
    exact z.mono fun _ _ ⟨x, y⟩ => ⟨x, k.call y⟩
  have hlt := World.block_lt_of_cell? w _ cs
  have H0 : Hid (Ct g sf V sb S w.heap.size cb w d s (w.alloc (.cells #[.func (.func g) #[V] #[], .func (.func sf) #[] sb] (ρ.t 44)))) :=
    ⟨K.ext h ((Ext.refl w).alloc _), by simp, by simp, ((Ext.refl w).alloc _).at cs, ((Ext.refl w).alloc _).fz cs fs, by have : cb < w.heap.size := hlt; omega, But.alloc w _⟩
  clear cs fs hlt
  have l1 := order2_lt' lt d s ha hb
  have s1 := order2_count lt d a b s
  obtain ⟨p1, q1, r1, g1⟩ : ∃ p q r, order2 lt d a b s = (p, q, r) := ⟨_, _, _, rfl⟩
  rw [g1] at l1 s1
  simp only [] at l1 s1
  have l2 := order2_lt' lt d r1 l1.2 hc
  have s2 := order2_count lt d q1 c r1
  obtain ⟨p2, q2, r2, g2⟩ : ∃ p q r, order2 lt d q1 c r1 = (p, q, r) := ⟨_, _, _, rfl⟩
  rw [g2] at l2 s2
  simp only [] at l2 s2
  obtain ⟨p3, q3, r3, g3⟩ : ∃ p q r, order2 lt d p1 p2 r2 = (p, q, r) := ⟨_, _, _, rfl⟩
  rw [show median lt d a b c s = (q3, r3) by simp only [median, g1, g2, g3]]
  have d1 := step _ s a b H0.out ha hb (by omega) p1 q1 r1 g1
  have ST := Lib.hid step
  have G2 := Lib.hid g2
  have G3 := Lib.hid g3
  clear step K h g1 g2 g3
  go_enter L.f38, BodyGg.n38_ntmps ρ
  go_wp2_with (first
    | (go_at_fn_of (ρ.f 39) (Value.int .i64 (b : Int)); refine d1.mono ?_; rintro e w1 ⟨rfl, k1⟩; have K1 := Lib.hid k1; clear k1; have c0 := K1.out.c0; have c1 := K1.out.c1; have d2 := ST.out w1 r1 q1 c K1.out (by omega) hc (by omega) p2 q2 r2 G2.out; clear d1)
    | (go_at_fn_of (ρ.f 39) (Value.int .i64 (c : Int)); refine d2.mono ?_; rintro e w2 ⟨rfl, k2⟩; have K2 := Lib.hid k2; clear k2; have e0 := K2.out.c0; have e1 := K2.out.c1; have d3 := ST.out w2 r2 p1 p2 K2.out (by omega) (by omega) (by omega) p3 q3 r3 G3.out; clear d2)
    | (go_at_fn (ρ.f 39); refine d3.mono ?_; rintro e w3 ⟨rfl, k3⟩; have K3 := Lib.hid k3; clear k3))
  go_ret
  exact ⟨rfl, K3.out.s, K3.out.x, K3.out.cc, K3.out.cf⟩

set_option maxHeartbeats 2000000 in
set_option maxRecDepth 100000 in
theorem adjacent_any (L : LaysGg.n37 P ρ) (K : Srt P g sf V sb lt size blk base S) {d : Array α} {w : World} (h : S d w) (a : Nat) (ha1 : 1 ≤ a) (ha2 : a + 1 < size) (cb s : Nat) (hcb : base ≤ cb) (hn : cb ≠ blk) (hs : s + 3 < 4611686018427387904)
    (cs : w.cell? ⟨cb, 0, none⟩ = some (.int .i64 s)) (fs : w.frozen? ⟨cb, 0, none⟩ = false) :
    Calls P (ρ.f 37) #[.agg #[.func (.func g) #[V] #[], .func (.func sf) #[] sb], .int .i64 a, .pointer (some ⟨cb, 0, none⟩)] w fun e w' => e = .returned (.int .i64 (medianAdjacent lt d a s).1) ∧ Cnt S d cb w (medianAdjacent lt d a s).2 w' := by
  have mixed := L.mixed; have t0 := L.t0; have a0 := L.a0; have z0 := L.z0; have v0 := L.v0; have t3 := L.t3; have a3 := L.a3; have z3 := L.z3; have v3 := L.v3; have t4 := L.t4; have a4 := L.a4; have z4 := L.z4; have v4 := L.v4; have t26 := L.t26; have a26 := L.a26; have z26 := L.z26; have v26 := L.v26; have t37 := L.t37; have a37 := L.a37; have z37 := L.z37; have v37 := L.v37; have t44 := L.t44; have a44 := L.a44; have z44 := L.z44; have v44 := L.v44; have t64 := L.t64; have a64 := L.a64; have z64 := L.z64; have v64 := L.v64; have t67 := L.t67; have a67 := L.a67; have z67 := L.z67; have v67 := L.v67
  have u44 := run_underlying L.t44
  have e38 : ∀ args w, (callFunc (ρ.f 38) args).run P w = .ok (.enter (ρ.f 38) args) w := enters_of L.f38 (by kernel_rfl) rfl
  have hz := K.small
  have x0 : Ext w (w.alloc (.cells #[.func (.func g) #[V] #[], .func (.func sf) #[] sb] (ρ.t 44))) := (Ext.refl w).alloc _
  have hm := median_any (P := P) (ρ := ρ) { L with } K (K.ext h x0) (a - 1) a (a + 1) (by omega) (by omega) ha2 cb s hcb hn hs (x0.at cs) (x0.fz cs fs)
  rw [show ((a - 1 : Nat) : Int) = (a : Int) - 1 by omega, show ((a + 1 : Nat) : Int) = (a : Int) + 1 by omega] at hm
  have X0 := Lib.hid x0
  clear x0 K h cs fs
  go_enter L.f37, BodyGg.n37_ntmps ρ
  go_wp2_with (go_at_fn (ρ.f 38); refine hm.mono ?_; rintro e w1 ⟨rfl, k1, k2, k3, k4⟩; have K1 := Lib.hid k1; have K2 := Lib.hid k2; have K3 := Lib.hid k3; have K4 := Lib.hid k4; clear k1 k2 k3 k4)
  go_ret
  exact ⟨rfl, K1.out, (But.of_ext (S := Only cb) X0.out).trans K2.out fun _ => Or.inl, K3.out, K4.out⟩
end Srt16
end Go.Proofs.YtmmgmcfhlhghoaaGreatDoor

