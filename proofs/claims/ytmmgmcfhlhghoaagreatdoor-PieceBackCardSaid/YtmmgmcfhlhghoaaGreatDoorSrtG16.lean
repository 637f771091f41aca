/- sort.choosePivot_func, by a function that makes memory of its own. Any program. -/
import Derived.Test.YtmmgmcfhlhghoaaGreatDoorSrtF16
import Derived.Sort.LotD1
import Derived.Sort.Walk11
namespace Go.Proofs.YtmmgmcfhlhghoaaGreatDoor
open Go.Shelf Go.RowKit
open Go.Sort hiding Below
open Go.Lib hiding intOf
namespace Srt16
variable {P : Program} {ρ : Ren} {α : Type} [Inhabited α] {g sf size blk base : Nat} {V : Value} {sb : Array Value} {lt : α → α → Bool} {S : Array α → World → Prop}

set_option maxHeartbeats 4000000 in
set_option maxRecDepth 100000 in
theorem pivot_any (L : LaysGg.n29 P ρ) (K : Srt P g sf V sb lt size blk base S) {d : Array α} {w : World} (h : S d w) (a b : Nat) (hab : a < b) (hb : b ≤ size) :
    Calls P (ρ.f 29) #[.agg #[.func (.func g) #[V] #[], .func (.func sf) #[] sb], .int .i64 a, .int .i64 b] w fun e w' => e = .returned (.tuple #[.int .i64 (choosePivot lt d a b).1, .int .i64 (hintCode (choosePivot lt d a b).2)]) ∧ S d w' ∧ Ext w w' := by
  have mixed := L.mixed; have t0 := L.t0; have a0 := L.a0; have z0 := L.z0; have v0 := L.v0; have t3 := L.t3; have a3 := L.a3; have z3 := L.z3; have v3 := L.v3; have t4 := L.t4; have a4 := L.a4; have z4 := L.z4; have v4 := L.v4; have t26 := L.t26; have a26 := L.a26; have z26 := L.z26; have v26 := L.v26; have t37 := L.t37; have a37 := L.a37; have z37 := L.z37; have v37 := L.v37; have t44 := L.t44; have a44 := L.a44; have z44 := L.z44; have v44 := L.v44; have t53 := L.t53; have a53 := L.a53; have z53 := L.z53; have v53 := L.v53; have t64 := L.t64; have a64 := L.a64; have z64 := L.z64; have v64 := L.v64; have t67 := L.t67; have a67 := L.a67; have z67 := L.z67; have v67 := L.v67
  have u44 := run_underlying L.t44
  have e37 : ∀ args w, (callFunc (ρ.f 37) args).run P w = .ok (.enter (ρ.f 37) args) w := enters_of L.f37 (by kernel_rfl) rfl
  have e38 : ∀ args w, (callFunc (ρ.f 38) args).run P w = .ok (.enter (ρ.f 38) args) w := enters_of L.f38 (by kernel_rfl) rfl
  have hz := K.small
  have hr := K.room h
  have MA : ∀ (w1 : World) (t x : Nat), Ct g sf V sb S w.heap.size (w.heap.size + 1) w d t w1 → 1 ≤ x → x + 1 < size → t + 3 < 4611686018427387904 → ∀ p r, medianAdjacent lt d x t = (p, r) →
      Calls P (ρ.f 37) #[.agg #[.func (.func g) #[V] #[], .func (.func sf) #[] sb], .int .i64 x, .pointer (some ⟨w.heap.size + 1, 0, none⟩)] w1 fun e w' => e = .returned (.int .i64 p) ∧ Ct g sf V sb S w.heap.size (w.heap.size + 1) w d r w' := fun w1 t x k h1 h2 h3 p r e => by
    have z := adjacent_any (P := P) (ρ := ρ) { L with } K k.s x h1 h2 (w.heap.size + 1) t (by omega) (by omega) h3 k.cc k.cf
    rw [e] at z
    exact z.mono fun _ _ ⟨x, y⟩ => ⟨x, k.call y⟩
  have MD : ∀ (w1 : World) (t x y z : Nat), Ct g sf V sb S w.heap.size (w.heap.size + 1) w d t w1 → x < size → y < size → z < size → t + 3 < 4611686018427387904 → ∀ p r, median lt d x y z t = (p, r) →
      Calls P (ρ.f 38) #[.agg #[.func (.func g) #[V] #[], .func (.func sf) #[] sb], .int .i64 x, .int .i64 y, .int .i64 z, .pointer (some ⟨w.heap.size + 1, 0, none⟩)] w1 fun e w' => e = .returned (.int .i64 p) ∧ Ct g sf V sb S w.heap.size (w.heap.size + 1) w d r w' := fun w1 t x y z k h1 h2 h3 h4 p r e => by
    have z := median_any (P := P) (ρ := ρ) { L with } K k.s x y z h1 h2 h3 (w.heap.size + 1) t (by omega) (by omega) h4 k.cc k.cf
    rw [e] at z
    exact z.mono fun _ _ ⟨x, y⟩ => ⟨x, k.call y⟩
  have H0 : Hid (Ct g sf V sb S w.heap.size (w.heap.size + 1) w d 0 ((w.alloc (.cells #[.func (.func g) #[V] #[], .func (.func sf) #[] sb] (ρ.t 44))).alloc (.cells #[.int .i64 0] (ρ.t 3)))) :=
    ⟨K.ext h (((Ext.refl w).alloc _).alloc _), by rw [World.cell?_alloc_past _ _ _ (by simp)]; simp, by rw [World.cell?_alloc_past _ _ _ (by simp)]; simp, by rw [World.cell?_alloc_at _ _ _ _ (by simp)]; rfl, World.frozen?_alloc_at _ _ _ _ (by simp), by omega, But.of_ext (((Ext.refl w).alloc _).alloc _)⟩
  clear K h hr
  rw [choosePivot_eq]
  obtain ⟨I, hI⟩ : ∃ I : Nat, I = a + (b - a) / 4 * 1 := ⟨_, rfl⟩
  obtain ⟨J, hJ⟩ : ∃ J : Nat, J = a + (b - a) / 4 * 2 := ⟨_, rfl⟩
  obtain ⟨K, hK⟩ : ∃ K : Nat, K = a + (b - a) / 4 * 3 := ⟨_, rfl⟩
  have eI : ((a : Int) + ((b : Int) - (a : Int)) / 4) = (I : Int) := by omega
  have eJ : ((a : Int) + ((b : Int) - (a : Int)) / 4 * 2) = (J : Int) := by omega
  have eK : ((a : Int) + ((b : Int) - (a : Int)) / 4 * 3) = (K : Int) := by omega
  by_cases h8 : b - a ≥ 8
  · by_cases h50 : b - a ≥ 50
    · obtain ⟨i1, s1, h1⟩ : ∃ i1 s1, medianAdjacent lt d I 0 = (i1, s1) := ⟨_, _, rfl⟩
      obtain ⟨j1, s2, h2⟩ : ∃ j1 s2, medianAdjacent lt d J s1 = (j1, s2) := ⟨_, _, rfl⟩
      obtain ⟨k1, s3, h3⟩ : ∃ k1 s3, medianAdjacent lt d K s2 = (k1, s3) := ⟨_, _, rfl⟩
      obtain ⟨p, s, h4⟩ : ∃ p s, median lt d i1 j1 k1 s3 = (p, s) := ⟨_, _, rfl⟩
      have hraw : rawPivot lt d a b = (p, s) := by simp only [rawPivot, if_pos h8, if_pos h50, ← hI, ← hJ, ← hK, h1, h2, h3, h4]
      have m1 := medianAdjacent_mem lt d I 0; rw [h1] at m1
      have m2 := medianAdjacent_mem lt d J s1; rw [h2] at m2
      have m3 := medianAdjacent_mem lt d K s2; rw [h3] at m3
      have n1 := medianAdjacent_count lt d I 0; rw [h1] at n1
      have n2 := medianAdjacent_count lt d J s1; rw [h2] at n2
      have n3 := medianAdjacent_count lt d K s2; rw [h3] at n3
      simp only [] at m1 m2 m3 n1 n2 n3
      have c1 := MA _ 0 I H0.out (by omega) (by omega) (by omega) i1 s1 h1
      have C2 : Hid (∀ w1, Ct g sf V sb S w.heap.size (w.heap.size + 1) w d s1 w1 → Calls P (ρ.f 37) #[.agg #[.func (.func g) #[V] #[], .func (.func sf) #[] sb], .int .i64 J, .pointer (some ⟨w.heap.size + 1, 0, none⟩)] w1 fun e w' => e = .returned (.int .i64 j1) ∧ Ct g sf V sb S w.heap.size (w.heap.size + 1) w d s2 w') := fun w1 k => MA w1 s1 J k (by omega) (by omega) (by omega) j1 s2 h2
      have C3 : Hid (∀ w1, Ct g sf V sb S w.heap.size (w.heap.size + 1) w d s2 w1 → Calls P (ρ.f 37) #[.agg #[.func (.func g) #[V] #[], .func (.func sf) #[] sb], .int .i64 K, .pointer (some ⟨w.heap.size + 1, 0, none⟩)] w1 fun e w' => e = .returned (.int .i64 k1) ∧ Ct g sf V sb S w.heap.size (w.heap.size + 1) w d s3 w') := fun w1 k => MA w1 s2 K k (by omega) (by omega) (by omega) k1 s3 h3
      have C4 : Hid (∀ w1, Ct g sf V sb S w.heap.size (w.heap.size + 1) w d s3 w1 → Calls P (ρ.f 38) #[.agg #[.func (.func g) #[V] #[], .func (.func sf) #[] sb], .int .i64 i1, .int .i64 j1, .int .i64 k1, .pointer (some ⟨w.heap.size + 1, 0, none⟩)] w1 fun e w' => e = .returned (.int .i64 p) ∧ Ct g sf V sb S w.heap.size (w.heap.size + 1) w d s w') := fun w1 k => MD w1 s3 i1 j1 k1 k (by omega) (by omega) (by omega) (by omega) p s h4
      rw [hraw]
      obtain ⟨Hc, hHc⟩ : ∃ Hc : Int, Hc = hintCode (hintOf s) := ⟨_, rfl⟩
      have hh0 : s = 0 → Hc = 1 := fun h => by rw [hHc, h]; rfl
      have hh12 : s = 12 → Hc = 2 := fun h => by rw [hHc, h]; rfl
      have hhx : s ≠ 0 → s ≠ 12 → Hc = 0 := fun h1 h2 => by rw [hHc]; unfold hintOf; rw [if_neg h1, if_neg h2]; rfl
      show Calls P (ρ.f 29) _ w fun e w' => e = .returned (.tuple #[.int .i64 (p : Int), .int .i64 (hintCode (hintOf s))]) ∧ S d w' ∧ Ext w w'
      rw [← hHc]
      clear hHc hraw
      clear h1 h2 h3 h4 MA MD hI hJ hK m1 m2 m3
      go_enter L.f29, BodyGg.n29_ntmps ρ
      go_wp2_with (first
        | (go_at_fn_of (ρ.f 37) (Value.int .i64 (I : Int)); refine c1.mono ?_; rintro e w1 ⟨rfl, k1⟩; have QN := Lib.hid k1; clear k1; have p0 := QN.out.c0; have p1 := QN.out.c1; have p2 := QN.out.cc; have c2 := C2.out w1 QN.out)
        | (go_at_fn_of (ρ.f 37) (Value.int .i64 (J : Int)); refine c2.mono ?_; rintro e w2 ⟨rfl, k2⟩; have QN := Lib.hid k2; clear k2; have p0 := QN.out.c0; have p1 := QN.out.c1; have p2 := QN.out.cc; have c3 := C3.out w2 QN.out)
        | (go_at_fn_of (ρ.f 37) (Value.int .i64 (K : Int)); refine c3.mono ?_; rintro e w3 ⟨rfl, k3⟩; have QN := Lib.hid k3; clear k3; have p0 := QN.out.c0; have p1 := QN.out.c1; have p2 := QN.out.cc; have c4 := C4.out w3 QN.out)
        | (go_at_fn (ρ.f 38); refine c4.mono ?_; rintro e w4 ⟨rfl, k4⟩; have QN := Lib.hid k4; clear k4; have p0 := QN.out.c0; have p1 := QN.out.c1; have p2 := QN.out.cc))
      all_goals
        go_ret2
        refine ⟨?_, QN.out.s, QN.out.x.ext_all fun k e => by rw [show k = w.heap.size + 1 from e]; omega⟩
        first
          | (have e0 : (s : Int) = 0 := of_beq_int (by assumption)
             rw [hh0 (by omega)]; rfl)
          | (have e1 : (s : Int) = 12 := of_beq_int (by assumption)
             rw [hh12 (by omega)]; rfl)
          | (have e0 : (s : Int) ≠ 0 := of_bne_int (by assumption)
             have e1 : (s : Int) ≠ 12 := of_bne_int (by assumption)
             rw [hhx (by omega) (by omega)]; rfl)
          | (rw [hh0 (by omega)]; rfl)
    · obtain ⟨p, s, h4⟩ : ∃ p s, median lt d I J K 0 = (p, s) := ⟨_, _, rfl⟩
      have hraw : rawPivot lt d a b = (p, s) := by simp only [rawPivot, if_pos h8, if_neg h50, ← hI, ← hJ, ← hK, h4]
      have c4 := MD _ 0 I J K H0.out (by omega) (by omega) (by omega) (by omega) p s h4
      rw [hraw]
      obtain ⟨Hc, hHc⟩ : ∃ Hc : Int, Hc = hintCode (hintOf s) := ⟨_, rfl⟩
      have hh0 : s = 0 → Hc = 1 := fun h => by rw [hHc, h]; rfl
      have hh12 : s = 12 → Hc = 2 := fun h => by rw [hHc, h]; rfl
      have hhx : s ≠ 0 → s ≠ 12 → Hc = 0 := fun h1 h2 => by rw [hHc]; unfold hintOf; rw [if_neg h1, if_neg h2]; rfl
      show Calls P (ρ.f 29) _ w fun e w' => e = .returned (.tuple #[.int .i64 (p : Int), .int .i64 (hintCode (hintOf s))]) ∧ S d w' ∧ Ext w w'
      rw [← hHc]
      clear hHc hraw
      clear h4 MA MD hI hJ hK
      go_enter L.f29, BodyGg.n29_ntmps ρ
      go_wp2_with (go_at_fn (ρ.f 38); refine c4.mono ?_; rintro e w4 ⟨rfl, k4⟩; have QN := Lib.hid k4; clear k4; have p0 := QN.out.c0; have p1 := QN.out.c1; have p2 := QN.out.cc)
      all_goals
        go_ret2
        refine ⟨?_, QN.out.s, QN.out.x.ext_all fun k e => by rw [show k = w.heap.size + 1 from e]; omega⟩
        first
          | (have e0 : (s : Int) = 0 := of_beq_int (by assumption)
             rw [hh0 (by omega)]; rfl)
          | (have e1 : (s : Int) = 12 := of_beq_int (by assumption)
             rw [hh12 (by omega)]; rfl)
          | (have e0 : (s : Int) ≠ 0 := of_bne_int (by assumption)
             have e1 : (s : Int) ≠ 12 := of_bne_int (by assumption)
             rw [hhx (by omega) (by omega)]; rfl)
          | (rw [hh0 (by omega)]; rfl)
  · obtain ⟨p, hp⟩ : ∃ p : Nat, p = J := ⟨_, rfl⟩
    obtain ⟨s, hs⟩ : ∃ s : Nat, s = 0 := ⟨_, rfl⟩
    have hraw : rawPivot lt d a b = (p, s) := by simp only [rawPivot, if_neg h8, ← hJ, hp, hs]
    rw [hraw]
    obtain ⟨Hc, hHc⟩ : ∃ Hc : Int, Hc = hintCode (hintOf s) := ⟨_, rfl⟩
    have hh0 : s = 0 → Hc = 1 := fun h => by rw [hHc, h]; rfl
    have hh12 : s = 12 → Hc = 2 := fun h => by rw [hHc, h]; rfl
    have hhx : s ≠ 0 → s ≠ 12 → Hc = 0 := fun h1 h2 => by rw [hHc]; unfold hintOf; rw [if_neg h1, if_neg h2]; rfl
    show Calls P (ρ.f 29) _ w fun e w' => e = .returned (.tuple #[.int .i64 (p : Int), .int .i64 (hintCode (hintOf s))]) ∧ S d w' ∧ Ext w w'
    rw [← hHc]
    clear hHc hraw
    subst hp
    have QN := H0
    clear MA MD hI hJ hK H0
    go_enter L.f29, BodyGg.n29_ntmps ρ
    go_wp2_with fail
    all_goals
      go_ret2
      refine ⟨?_, QN.out.s, QN.out.x.ext_all fun k e => by rw [show k = w.heap.size + 1 from e]; omega⟩
      first
        | (have e0 : (s : Int) = 0 := of_beq_int (by assumption)
           rw [hh0 (by omega)]; rfl)
        | (have e1 : (s : Int) = 12 := of_beq_int (by assumption)
           rw [hh12 (by omega)]; rfl)
        | (have e0 : (s : Int) ≠ 0 := of_bne_int (by assumption)
           have e1 : (s : Int) ≠ 12 := of_bne_int (by assumption)
           rw [hhx (by omega) (by omega)]; rfl)
        | (rw [hh0 (by omega)]; rfl)
end Srt16
end Go.Proofs.YtmmgmcfhlhghoaaGreatDoor

