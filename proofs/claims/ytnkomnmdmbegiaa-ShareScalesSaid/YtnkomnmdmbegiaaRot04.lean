/- The library's stable sort: the exchange of two runs of any lengths, and the insertion into a sorted run. -/
import Derived.Test.YtnkomnmdmbegiaaStabMath04
namespace Go.Proofs.Ytnkomnmdmbegiaa
open Go.RowKit Go.Sort Go.Lib Go.Shelf
namespace L04
variable {P : Program} {α : Type} [Inhabited α]

set_option maxHeartbeats 4000000 in
set_option maxRecDepth 1000000 in
theorem rotate_any (k : Nat) (L : Stable P k) (enc : α → List Value) (g : Nat) (cb : Array Value) (blk off cap a m b : Nat) (d0 d : Array α) (w0 w : World)
    (R : RowK enc k w0 blk off d0) (hs : d0.size = d.size) (S : SWK enc k w0 blk off d w) (ha : a < m) (hm : m < b) (hb : b ≤ d.size) (hsz : d.size < 4611686018427387904) :
    Calls P 36 #[.slice (some ⟨blk, off, none⟩) d.size cap, .int .i64 a, .int .i64 m, .int .i64 b, .func (.func g) #[] cb] w fun e w' => e = .returned (.tuple #[]) ∧ SWK enc k w0 blk off (rot d a m b) w' := by
  have mixed := L.mixed; have t0 := L.t0; have a0 := L.a0; have z0 := L.z0; have v0 := L.v0; have t3 := L.t3; have a3 := L.a3; have z3 := L.z3; have v3 := L.v3; have t4 := L.t4; have a4 := L.a4; have z4 := L.z4; have v4 := L.v4
  have ts := L.ts; have asl := L.asl; have zs := L.zs; have vs := L.vs; have tc := L.tc; have ac := L.ac; have zc := L.zc; have vc := L.vc; have aE := L.aE; have zE := L.zE
  have FG := L.fRot
  have eS : ∀ args w, (callFunc 38 args).run P w = .ok (.enter 38 args) w := enters_of L.fSwap (by kernel_rfl) rfl
  have S0 : Aside (SWK enc k w0 blk off d w) := S
  have LL : Hid _ := L
  clear S L
  go_enter FG, Try.ntmps36
  go_wp2
  go_loopg [10, 11] (b - a) (fun kx s10 s11 wr => ∃ (i j s : Nat) (dk : Array α), s10 = .int .i64 i ∧ s11 = .int .i64 j ∧ 1 ≤ i ∧ 1 ≤ j ∧ i + j ≤ kx ∧ s + i = m ∧ a ≤ s ∧ m + j ≤ b ∧ dk.size = d.size ∧ Aside (SWK enc k w0 blk off dk wr) ∧ Hid (rot dk s m (m + j) = rot d a m b))
  case atStart => exact ⟨m - a, b - m, a, d, by go_num, by go_num, by omega, by omega, by omega, by omega, by omega, by omega, rfl, S0, by show _ = _; rw [show m + (b - m) = b by omega]⟩
  case round =>
    clear S0
    obtain ⟨i, j, s, dk, rfl, rfl, hi1, hj1, hkx, hsm, has, hmb, hds, S1, heq⟩ := hrel
    have esub : (m : Int) - (i : Int) = (s : Int) := by omega
    rcases Nat.lt_trichotomy i j with h | h | h
    · have hne : ¬ (i : Int) = (j : Int) := by omega
      have hgt : ¬ (j : Int) < (i : Int) := by omega
      have eadd : (m : Int) + (j : Int) - (i : Int) = ((s + j : Nat) : Int) := by omega
      have hc := swapRange_any k LL.out enc g cb blk off cap s (s + j) i d0 dk w0 wr R (by omega) S1.out (by omega) (by omega) (by omega)
      rw [hds] at hc
      go_wp2_with (go_at_fn 38; refine hc.mono ?_; rintro e w1 ⟨rfl, hw1⟩)
      go_roundg (i + (j - i))
      case measure => omega
      case rel =>
        exact ⟨i, j - i, s, swaps s (s + j) i dk, rfl, by go_num, hi1, by omega, Nat.le_refl _, hsm, has, by omega, by rw [size_swaps]; exact hds, hw1, by
          show _ = _
          rw [← heq.out, ← hsm, show s + i + (j - i) = s + j by omega]
          exact rot_lt dk s i j h (by omega)⟩
    · subst h
      have hc := swapRange_any k LL.out enc g cb blk off cap s m i d0 dk w0 wr R (by omega) S1.out (by omega) (by omega) (by omega)
      rw [hds] at hc
      go_wp2_with (go_at_fn 38; refine hc.mono ?_; rintro e w1 ⟨rfl, hw1⟩)
      go_end0
      refine ⟨rfl, ?_⟩
      rw [← heq.out, ← hsm, ← rot_eq dk s i (by omega), hsm]
      exact hw1
    · have hne : ¬ (i : Int) = (j : Int) := by omega
      have hgt : (j : Int) < (i : Int) := by omega
      have hc := swapRange_any k LL.out enc g cb blk off cap s m j d0 dk w0 wr R (by omega) S1.out (by omega) (by omega) (by omega)
      rw [hds] at hc
      go_wp2_with (go_at_fn 38; refine hc.mono ?_; rintro e w1 ⟨rfl, hw1⟩)
      go_roundg (i - j + j)
      case measure => omega
      case rel =>
        exact ⟨i - j, j, s + j, swaps s m j dk, by go_num, rfl, by omega, hj1, Nat.le_refl _, by omega, by omega, hmb, by rw [size_swaps]; exact hds, hw1, by
          show _ = _
          rw [← heq.out, ← hsm]
          exact rot_gt dk s i j h (by omega)⟩

set_option maxHeartbeats 4000000 in
set_option maxRecDepth 1000000 in
theorem insertion_any (k : Nat) (L : Stable P k) (enc : α → List Value) (cf : α → α → Int) (g : Nat) (cb : Array Value) (blk off cap a b : Nat) (d0 d : Array α) (w0 w : World)
    (eg : ∀ args w, (callFunc g args).run P w = .ok (.enter g args) w) (hcmp : CmpLays P g cb enc k cf blk off d0.size w0) (R : RowK enc k w0 blk off d0) (hs : d0.size = d.size) (S : SWK enc k w0 blk off d w) (hab : a ≤ b) (hb : b ≤ d.size) (hsz : d.size < 4611686018427387904) :
    Calls P 30 #[.slice (some ⟨blk, off, none⟩) d.size cap, .int .i64 a, .int .i64 b, .func (.func g) #[] cb] w fun e w' => e = .returned (.tuple #[]) ∧ SWK enc k w0 blk off (Sort.insertionSort (ltOf cf) d a b) w' := by
  have mixed := L.mixed; have t0 := L.t0; have a0 := L.a0; have z0 := L.z0; have v0 := L.v0; have t3 := L.t3; have a3 := L.a3; have z3 := L.z3; have v3 := L.v3; have t4 := L.t4; have a4 := L.a4; have z4 := L.z4; have v4 := L.v4
  have ts := L.ts; have asl := L.asl; have zs := L.zs; have vs := L.vs; have tc := L.tc; have ac := L.ac; have zc := L.zc; have vc := L.vc; have aE := L.aE; have zE := L.zE
  have FG := L.fIns
  have HC : Aside _ := hcmp
  have S0 : Aside (SWK enc k w0 blk off d w) := S
  clear hcmp S L
  go_enter FG, Try.ntmps30
  go_wp2
  go_loopg [8] (b - a) (fun g1 vi wr => ∃ (i : Nat) (dk : Array α), vi = .int .i64 i ∧ a < i ∧ i ≤ b + 1 ∧ b + 1 - i ≤ g1 + 1 ∧ dk.size = d.size ∧ Aside (SWK enc k w0 blk off dk wr) ∧ Hid (insOuter (ltOf cf) a b i dk = insOuter (ltOf cf) a b (a + 1) d))
  case atStart => exact ⟨a + 1, d, by go_num, by omega, by omega, by omega, rfl, S0, rfl⟩
  case round =>
    clear S0
    obtain ⟨i, dk, rfl, hai, hib, hg1, hsk, S1, HO⟩ := hrel
    by_cases hlt : i < b
    · have hltz : (i : Int) < (b : Int) := by omega
      go_wp2
      go_loopg [9] i (fun g2 vj wr => ∃ (j : Nat) (dj : Array α), vj = .int .i64 j ∧ a ≤ j ∧ j ≤ i ∧ j ≤ g2 ∧ dj.size = d.size ∧ Aside (SWK enc k w0 blk off dj wr) ∧ Hid (insInner (ltOf cf) a j dj = insInner (ltOf cf) a i dk))
      case atStart => exact ⟨i, dk, rfl, by omega, Nat.le_refl _, Nat.le_refl _, hsk, S1, rfl⟩
      case round =>
        clear S1
        obtain ⟨j, dj, rfl, haj, hji, hg2, hsj, S1, HI⟩ := hrel
        have OUT : Aside ((j ≤ a ∨ ltOf cf dj[j]! dj[j - 1]! = false) → Hid (insOuter (ltOf cf) a b (i + 1) dj = insOuter (ltOf cf) a b (a + 1) d)) := fun hs => by
          show _ = _
          rw [← HO.out, insOuter_go _ _ _ _ _ hlt, ← HI.out, insInner_stop _ _ _ _ hs]
        by_cases hja : a < j
        · have hjaz : (a : Int) < (j : Int) := by omega
          obtain ⟨jp, rfl⟩ : ∃ jp, j = jp + 1 := ⟨j - 1, by omega⟩
          have hwp : IntKind.i64.wrap (jp : Int) = (jp : Int) := by rw [IntKind.wrap_i64]; omega
          have jz : (jp : Int) + 1 < (d.size : Int) := by omega
          have jz1 : (jp : Int) < (d.size : Int) := by omega
          have hjaz' : (a : Int) < (jp : Int) + 1 := by omega
          have p0 : (0 : Int) ≤ (jp : Int) + 1 := by omega
          have e0 : ((jp : Int) + 1).toNat = jp + 1 := by omega
          obtain ⟨xj, hxj⟩ : ∃ x, x = dj[jp + 1]! := ⟨_, rfl⟩
          obtain ⟨xp, hxp⟩ : ∃ x, x = dj[jp]! := ⟨_, rfl⟩
          have lj := S1.out.ld R (by omega) P (jp + 1) (by omega)
          have lp := S1.out.ld R (by omega) P jp (by omega)
          rw [← hxj] at lj
          rw [← hxp] at lp
          have hcg := S1.out.cmp HC.out (by omega) xj xp
          by_cases hlv : cf xj xp < 0
          · have HL : Hid (ltOf cf dj[jp + 1]! dj[jp]! = true) := by show _ = _; rw [← hxj, ← hxp]; exact decide_eq_true hlv
            clear hxj hxp
            go_wp2_with fail
            go_quiet_grown (first | (go_at_fn g; refine Calls.grown_of (hcg _ _)))
            have S2 : Aside (SWK enc k w0 blk off dj (grow (wr.drewN nq) osq)) := S1.out.grown nq osq
            clear lj lp hcg S1
            generalize grow (wr.drewN nq) osq = w2 at S2 ⊢
            clear nq osq
            go_wp2_with fail
            have S3 : Aside (SWK enc k w0 blk off (swp dj (jp + 1) jp) ((w2.drew.setCells blk (off + (jp + 1) * k) (enc dj[jp]!)).setCells blk (off + jp * k) (enc dj[jp + 1]!))) := S2.out.swapped R (jp + 1) jp (by omega) (by omega)
            have l44a := S2.out.ld1 R (by omega) P (jp + 1) (by omega)
            have l44b := S2.out.ld1 R (by omega) P jp (by omega)
            have s44a := S2.out.st1 R (by omega) P (jp + 1) (by omega) dj[jp]!
            have s44b := S2.out.st2 R (by omega) P (jp + 1) jp (by omega) (by omega) dj[jp]! dj[jp + 1]!
            have n44a : (enc dj[jp + 1]!).length = k := R.hk _
            have n44b : (enc dj[jp]!).length = k := R.hk _
            generalize enc dj[jp + 1]! = cI44 at S3 l44a s44b n44a
            generalize enc dj[jp]! = cJ44 at S3 l44b s44a s44b n44b
            clear S2
            go_wp2_with fail
            go_big_region_o
            clear l44a l44b s44a s44b
            generalize (w2.drew.setCells blk (off + (jp + 1) * k) cJ44).setCells blk (off + jp * k) cI44 = w3 at S3 ⊢
            go_wp2
            go_roundg jp
            case measure => omega
            case rel =>
              refine ⟨jp, swp dj (jp + 1) jp, by first | rfl | go_num, by omega, by omega, Nat.le_refl _, by rw [size_swp]; exact hsj, S3, (show Hid _ from ?_)⟩
              show _ = _
              have := insInner_go (ltOf cf) a (jp + 1) dj hja (by simp only [Nat.add_sub_cancel]; exact HL.out)
              simp only [Nat.add_sub_cancel] at this
              rw [← HI.out, this]
          · have HL : Hid (ltOf cf dj[jp + 1]! dj[jp]! = false) := by show _ = _; rw [← hxj, ← hxp]; exact decide_eq_false hlv
            clear hxj hxp
            go_wp2_with fail
            go_quiet_grown (first | (go_at_fn g; refine Calls.grown_of (hcg _ _)))
            have S2 : Aside (SWK enc k w0 blk off dj (grow (wr.drewN nq) osq)) := S1.out.grown nq osq
            go_wp2
            go_roundg (b - (i + 1))
            case measure => omega
            case rel => exact ⟨i + 1, dj, by go_num, by omega, by omega, by omega, hsj, S2, OUT.out (Or.inr (by simp only [Nat.add_sub_cancel]; exact HL.out))⟩
        · have hjaz : decide ((j : Int) > (a : Int)) = false := decide_eq_false (by omega)
          have hjaz' : ¬ (a : Int) < (j : Int) := by omega
          have S2 : Aside (SWK enc k w0 blk off dj wr.drew) := S1.out.drew
          clear S1
          go_wp2_with fail
          go_big_region_o
          all_goals go_wp2
          go_roundg (b - (i + 1))
          case measure => omega
          case rel => exact ⟨i + 1, dj, by go_num, by omega, by omega, by omega, hsj, S2, OUT.out (Or.inl (by omega))⟩
    · have hltz : ¬ (i : Int) < (b : Int) := by omega
      go_wp2
      go_end0
      exact ⟨rfl, by unfold Sort.insertionSort; rw [← HO.out, insOuter_stop _ _ _ _ _ hlt]; exact S1.out⟩
end L04
end Go.Proofs.Ytnkomnmdmbegiaa

