/- The document's steps of a character. -/
import Derived.Test.YtijhabhnhglhgaaTellMath08
import Derived.Test.YtijhabhnhglhgaaSet08
namespace Go.Proofs.Ytijhabhnhglhgaa
open Go.RowKit Go.Lib
namespace L08
open L07

/-- What the document's steps answers. -/
def StepsQ (_D : FontD) (l : List (Option Nat)) (w : World) (e : Ending) (w' : World) : Prop :=
  Ext w w' ∧ ∃ (b : Bool) (A : Option Addr) (c : Nat), e = .returned (.tuple #[.slice A (placesO l).length c, .bool b]) ∧ SeenF w' A (placesO l).length (fun j => ((placesO l).getD j 0 : Int)) ∧ (b = true ↔ ∀ x ∈ l, x ≠ none) ∧ ∀ a, A = some a → w.heap.size ≤ a.block
theorem placesO_append : ∀ (a b : List (Option Nat)), placesO (a ++ b) = placesO a ++ placesO b
  | [], _ => rfl
  | none :: r, b => placesO_append r b
  | some k :: r, b => by simp [placesO, placesO_append r b]
theorem nat_row {w : World} {A : Option Addr} {ks : List Nat} (h : Seen w.heap.size w A (ks.map fun n : Nat => Value.int .i64 (n : Int))) : SeenF w A ks.length (fun j => (ks.getD j 0 : Int)) := fun j hj => by
  obtain ⟨ad, e, hb, hc⟩ := Seen.get h (k := j) (by simpa using hj)
  refine ⟨ad, e, hb, ?_⟩
  rw [hc]
  simp [List.getD, hj]

set_option maxRecDepth 100000 in
set_option maxHeartbeats 8000000 in
theorem rsteps_any (D : FontD) (P : FontP) (c0 c1 c2 c3 t r : Int) (w : World) (sn : SeenFont w D P) (hD : checkB D = true) (ht : (t = 0 ∧ r = 0) ∨ (t = 1 ∧ 0 ≤ r ∧ r < D.ns)) :
    Calls Try.prog 38 #[fontV D P, charV c0 c1 c2 c3 t r] w (StepsQ D (seqO D t r) w) := by
  have hns := (check_in hD).ns
  have hs := Lib.hid (fun k hk => ((check_in hD).stp k hk).1)
  unfold fontV charV
  rcases ht with ⟨rfl, rfl⟩ | ⟨rfl, r0, r1⟩
  · go_enter Try.func38, Try.ntmps38
    go_wp2_with fail
    go_ret2
    exact ⟨((Ext.refl _).alloc _).alloc _, true, none, 0, rfl, SeenF.none, by simp [seqO, seqS], fun a h => by cases h⟩
  · obtain ⟨k0, rfl⟩ := Int.eq_ofNat_of_zero_le r0
    have hseq := Lib.hid (show seqO D 1 (k0 : Int) = ([] : List Nat).map some ++ (walkS D (D.ns + 1 + 1) k0).map (·.1) by rw [seqO, seqS, if_neg (by decide)]; rfl)
    generalize hq : seqO D 1 (k0 : Int) = sq at *
    clear hq
    go_enter Try.func38, Try.ntmps38
    go_wp2_with fail
    obtain ⟨V, hV⟩ : ∃ V, V = (w.alloc (.cells #[.int .i64 D.sum, .int .i64 D.design, .int .i64 D.first, .slice P.xc D.nc P.zc, .slice P.xw D.nw P.zw, .slice P.xh D.nh P.zh, .slice P.xd D.nd P.zd, .slice P.xi D.ni P.zi, .slice P.xs D.ns P.zs, .slice P.xk D.nk P.zk, .slice P.xp D.np P.zp] 28)).alloc (.cells #[.int .i64 c0, .int .i64 c1, .int .i64 c2, .int .i64 c3, .int .i64 1, .int .i64 k0] 44) := ⟨_, rfl⟩
    rw [← hV]
    have kF : Blk V w.heap.size 28 [.int .i64 D.sum, .int .i64 D.design, .int .i64 D.first, .slice P.xc D.nc P.zc, .slice P.xw D.nw P.zw, .slice P.xh D.nh P.zh, .slice P.xd D.nd P.zd, .slice P.xi D.ni P.zi, .slice P.xs D.ns P.zs, .slice P.xk D.nk P.zk, .slice P.xp D.np P.zp] := by rw [hV]; exact (Blk.lit _ _ _ _ rfl).ext ((Ext.refl _).alloc _)
    have XV : Ext w V := by rw [hV]; exact ((Ext.refl _).alloc _).alloc _
    clear hV
    have sn := sn.ext XV
    generalize hb0 : w.heap.size = b0 at *
    have hns64 : (D.ns : Int) ≤ 256 := by omega
    go_loopw [6, 7] (fun v i wr => ∃ (vv : Value) (ks : List Nat) (f k : Nat), vv = v ∧ k ≤ 600 ∧ i = .int .i64 k ∧ Hid (sq = ks.map some ++ (walkS D (f + 1) k).map (·.1)) ∧ D.ns < k + f + 1 ∧ ks.length ≤ k ∧ wr.ownsRow V.heap.size 3 1 vv ks.length (ks.map fun n : Nat => Value.int .i64 (n : Int)) ∧ Ext V wr) (fun _ i _ => 1000 - (intOf i).toNat)
    case atStart => exact ⟨_, [], D.ns + 1, k0, rfl, by omega, rfl, hseq, by omega, Nat.zero_le _, World.ownsRow_nil _ _ _ _, Ext.refl _⟩
    case round =>
      obtain ⟨vv, ks, f, k, hvv, hk, rfl, hp, hf, hkl, ho, X⟩ := hrel
      subst hvv
      have kF := kF.ext X
      have q8 : wr.cell? ⟨b0, 8, none⟩ = some (.slice P.xs D.ns P.zs) := kF.cell 8
      have lb := kF.lt
      have HX := Lib.hid X
      by_cases hlt : k < D.ns
      · obtain ⟨ad, hA, e0, _, _, _⟩ := row4 (sn.ext X).os hlt
        obtain ⟨s0, s1⟩ := hs.out k hlt
        have hp := hp.out
        rw [walkS_yes hlt, List.map_cons] at hp
        have HP := Lib.hid hp
        rw [hA] at q8
        obtain ⟨sk, hsk⟩ := Int.eq_ofNat_of_zero_le s0
        have HSK := Lib.hid hsk
        rw [hsk] at e0 s0 s1
        have hlt64 : ¬ (D.ns : Int) ≤ (k : Int) := by omega
        obtain ⟨v', w', hr, ho', hx', hkp, _⟩ := run_put1 (ho.alloc (.cells #[.int .i64 (k : Int)] 3)) (X.alloc _) ⟨wr.heap.size, 0, none⟩ (k : Int) ((Blk.lit wr wr.heap.size 3 #[.int .i64 (k : Int)] rfl).cell 0) (by omega) 25
        have HO := Lib.hid ho'
        have kF2 : Blk w' b0 28 [.int .i64 D.sum, .int .i64 D.design, .int .i64 D.first, .slice P.xc D.nc P.zc, .slice P.xw D.nw P.zw, .slice P.xh D.nh P.zh, .slice P.xd D.nd P.zd, .slice P.xi D.ni P.zi, .slice P.xs D.ns P.zs, .slice P.xk D.nk P.zk, .slice P.xp D.np P.zp] := (hx'.block b0 (by have := (show Blk V b0 _ _ from by assumption).lt; omega)).trans (by assumption)
        have q8' : w'.cell? ⟨b0, 8, none⟩ = some (.slice (some ad) D.ns P.zs) := by rw [← hA]; exact kF2.cell 8
        have e0' : w'.cell? (ad.add (k * 4)) = some (.int .i64 sk) := by
          obtain ⟨ad2, hA2, e02, _, _, _⟩ := row4 (sn.ext hx').os hlt
          rw [hA] at hA2
          cases hA2
          rw [HSK.out] at e02
          exact e02
        clear hp hsk hA ho X kF ho' kF2 hkp
        by_cases h128 : (128 : Int) ≤ sk
        · go_wp2_with (at_builtin; refine wpList_ran rfl _ _ rfl hr ?_)
          have ho2 := HO.out
          rw [show ks.map (fun n : Nat => Value.int .i64 (n : Int)) ++ [.int .i64 (k : Int)] = (ks ++ [k]).map (fun n : Nat => Value.int .i64 (n : Int)) by simp, show ks.length + 1 = (ks ++ [k]).length by simp] at ho2
          have hob := ho2
          obtain ⟨A', c', rfl, _, _, h3⟩ := own_slice ho2
          have e : sq = (ks ++ [k]).map some := by rw [HP.out, HSK.out, if_pos h128]; simp
          go_ret2
          refine ⟨XV.trans hx', true, A', c', ?_, ?_, ?_, fun a h => by subst h; have := (hob.lt a.block rfl).1; have := XV.size; omega⟩
          · rw [e, placesO_some]; simp
          · rw [e, placesO_some]; exact nat_row h3
          · rw [e]
            exact ⟨fun _ x hx => by obtain ⟨n, _, rfl⟩ := List.mem_map.1 hx; simp, fun _ => rfl⟩
        · go_wp2_with (at_builtin; refine wpList_ran rfl _ _ rfl hr ?_)
          go_roundw
          case rel => exact ⟨_, ks ++ [k], f - 1, k + sk + 1, rfl, by omega, by go_num, Lib.hid (by rw [HP.out, HSK.out, if_neg (show ¬ (128 : Int) ≤ (sk : Int) by omega), show f - 1 + 1 = f by omega]; simp), by omega, by simp; omega, by simpa using HO.out, hx'⟩
          case measure => simp [intOf]; omega
      · have hp := hp.out
        rw [walkS_no hlt, List.map_cons, List.map_nil] at hp
        have hob := ho
        obtain ⟨A', c', rfl, _, _, h3⟩ := own_slice ho
        have HF := Lib.hid (show StepsQ D sq w (.returned (.tuple #[.slice A' ks.length c', .bool false])) wr from by
          refine ⟨XV.trans X, false, A', c', ?_, ?_, ?_, fun a h => by subst h; have := (hob.lt a.block rfl).1; have := XV.size; omega⟩
          · rw [hp, placesO_append, placesO_some]; simp [placesO]
          · rw [hp, placesO_append, placesO_some]; simp only [placesO, List.append_nil]; exact nat_row h3
          · rw [hp]; simp)
        have hlt64 : (D.ns : Int) ≤ (k : Int) := by omega
        clear hp h3 ho hob X
        generalize ks.length = kl at *
        go_wp2_with fail
        go_ret2
        exact HF.out
end L08
end Go.Proofs.Ytijhabhnhglhgaa

