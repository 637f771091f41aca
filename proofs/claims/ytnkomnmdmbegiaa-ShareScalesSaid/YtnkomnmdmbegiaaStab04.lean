/- The library's stable sort, whole: what it holds is sorted by an order that says of two which it does not part which of them stood first. -/
import Derived.Test.YtnkomnmdmbegiaaSym04
import Derived.Test.YtnkomnmdmbegiaaStabB04
namespace Go.Proofs.Ytnkomnmdmbegiaa
open Go.RowKit Go.Sort Go.Lib Go.Shelf
namespace L04
variable {P : Program} {α : Type} [Inhabited α]

/-- What is known ahead of a round: some of the blocks of a size are sorted. -/
structure Blocks (lx : α → α → Bool) (ah : α → α → Prop) (B e n : Nat) (d dk : Array α) : Prop where
  perm : PermIn 0 n d dk
  sorted : SortedBy lx B e dk
  ordered : OrderedBy ah B n dk

theorem Blocks.step {lx : α → α → Bool} {ah : α → α → Prop} {B a b n : Nat} {d dk dk' : Array α} (hB : 0 < B) (h : Blocks lx ah B a n d dk) (ha : ∃ c, a = B * c) (hab : a ≤ b) (hb : b ≤ a + B) (hbn : b ≤ n) (hn : n ≤ d.size) (p : PermIn a b dk dk') (q : SortedIn lx a b dk') : Blocks lx ah B b n d dk' := by
  obtain ⟨c, rfl⟩ := ha
  have hs := h.perm.1
  exact ⟨permIn_trans _ _ _ _ _ h.perm (permIn_mono _ _ (B * c) b 0 n (Nat.zero_le _) hbn (by omega) p), sortedBy_step hB h.sorted hb p q, ordered_perm hB h.ordered hb hbn (by omega) p⟩

set_option maxHeartbeats 16000000 in
set_option maxRecDepth 1000000 in
theorem stable_any (k : Nat) (L : Stable P k) (enc : α → List Value) (cf : α → α → Int) (lx : α → α → Bool) (ah : α → α → Prop) (hS : SWO lx) (hx : ∀ x y, ah x y → ltOf cf y x = lx y x) (g : Nat) (cb : Array Value) (blk off cap : Nat) (d0 d : Array α) (w0 w : World)
    (eg : ∀ args w, (callFunc g args).run P w = .ok (.enter g args) w) (hcmp : CmpLays P g cb enc k cf blk off d0.size w0) (R : RowK enc k w0 blk off d0) (hs : d0.size = d.size) (S : SWK enc k w0 blk off d w) (hsz : d.size < 1073741824)
    (h0 : ∀ i j, i < j → j < d.size → ah d[i]! d[j]!) :
    Calls P 25 #[.slice (some ⟨blk, off, none⟩) d.size cap, .int .i64 d.size, .func (.func g) #[] cb] w fun e w' => e = .returned (.tuple #[]) ∧ ∃ d', PermIn 0 d.size d d' ∧ SortedIn lx 0 d.size d' ∧ SWK enc k w0 blk off d' w' := by
  have mixed := L.mixed; have t0 := L.t0; have a0 := L.a0; have z0 := L.z0; have v0 := L.v0; have t3 := L.t3; have a3 := L.a3; have z3 := L.z3; have v3 := L.v3; have t4 := L.t4; have a4 := L.a4; have z4 := L.z4; have v4 := L.v4
  have ts := L.ts; have asl := L.asl; have zs := L.zs; have vs := L.vs; have tc := L.tc; have ac := L.ac; have zc := L.zc; have vc := L.vc; have aE := L.aE; have zE := L.zE
  have FG := L.fSta
  have eI : ∀ args w, (callFunc 30 args).run P w = .ok (.enter 30 args) w := enters_of L.fIns (by kernel_rfl) rfl
  have eY : ∀ args w, (callFunc 31 args).run P w = .ok (.enter 31 args) w := enters_of L.fSym (by kernel_rfl) rfl
  have INSC : Aside (∀ (a b : Nat) (dk : Array α) (wr : World), dk.size = d.size → SWK enc k w0 blk off dk wr → a ≤ b → b ≤ d.size →
      Calls P 30 #[.slice (some ⟨blk, off, none⟩) d.size cap, .int .i64 a, .int .i64 b, .func (.func g) #[] cb] wr fun e w' => e = .returned (.tuple #[]) ∧ SWK enc k w0 blk off (Sort.insertionSort (ltOf cf) dk a b) w') := fun a b dk wr h1 h2 h3 h4 => by
    have := insertion_any k L enc cf g cb blk off cap a b d0 dk w0 wr eg hcmp R (by omega) h2 h3 (by omega) (by omega)
    rwa [h1] at this
  have SYMC : Aside (∀ (a m b : Nat) (dk : Array α) (wr : World), dk.size = d.size → SWK enc k w0 blk off dk wr → a < m → m < b → b ≤ d.size → Runs lx ah a m b dk →
      Calls P 31 #[.slice (some ⟨blk, off, none⟩) d.size cap, .int .i64 a, .int .i64 m, .int .i64 b, .func (.func g) #[] cb] wr fun e w' => e = .returned (.tuple #[]) ∧ ∃ d', PermIn a b dk d' ∧ SortedIn lx a b d' ∧ SWK enc k w0 blk off d' w') := fun a m b dk wr h1 h2 h3 h4 h5 h6 => by
    have := symMerge_any k L enc cf lx ah hS hx g cb blk off cap d0 w0 eg hcmp R (b - a) a m b dk wr (Nat.le_refl _) (by omega) h2 h3 h4 (by omega) (by omega) h6
    rwa [h1] at this
  have HX : Aside _ := hx
  have S0 : Aside (SWK enc k w0 blk off d w) := S
  have H0 : Aside _ := h0
  clear hcmp L hx S h0
  go_enter FG, Try.ntmps25
  go_wp2
  go_loopg [7, 8] d.size (fun kx s7 s8 wr => ∃ (a : Nat) (dk : Array α), s7 = .int .i64 a ∧ s8 = .int .i64 ((a : Int) + 20) ∧ Hid (∃ c, a = 20 * c) ∧ a ≤ d.size ∧ d.size - a ≤ kx ∧ dk.size = d.size ∧ Aside (SWK enc k w0 blk off dk wr) ∧
    Aside (Blocks lx ah 20 a d.size d dk) ∧ Hid (∀ i, a ≤ i → dk[i]! = d[i]!))
  case atStart =>
    have hB0 : Blocks lx ah 20 0 d.size d d := ⟨permIn_refl _ _ _, fun i j h1 h2 => by omega, fun i j h1 h2 h3 => H0.out i j (by
      rcases Nat.lt_or_ge i j with h | h
      · exact h
      · have := Nat.div_le_div_right (c := 20) h; omega) h2⟩
    exact ⟨0, d, rfl, by go_num, (⟨0, rfl⟩ : ∃ c, 0 = 20 * c), by omega, by omega, rfl, S0, hB0, fun i _ => rfl⟩
  case round => as_aux_lemma =>
    clear S0
    obtain ⟨a, dk, rfl, rfl, hac, han, hkx, hds, S1, BL, AL⟩ := hrel
    have ord : ∀ b, b ≤ d.size → ∀ p q, a ≤ p → p < q → q < b → ah dk[p]! dk[q]! := fun b hb p q h1 h2 h3 => by
      rw [AL.out p h1, AL.out q (by omega)]; exact H0.out p q h2 (by omega)
    by_cases hlt : a + 20 ≤ d.size
    · have hltz : (a : Int) + 20 ≤ (d.size : Int) := by omega
      have hc := INSC.out a (a + 20) dk wr hds S1.out (by omega) hlt
      have hP := insertion_stable hS HX.out a (a + 20) dk (by omega) (by omega) (ord _ hlt)
      have HP : Aside _ := hP
      clear ord hP
      go_wp2_with (go_at_fn 30; refine hc.mono ?_; rintro e w1 ⟨rfl, hw1⟩)
      go_roundg (d.size - (a + 20))
      case measure => omega
      case rel =>
        refine ⟨a + 20, Sort.insertionSort (ltOf cf) dk a (a + 20), by go_num, by go_num, (show Hid _ from ?_), hlt, Nat.le_refl _, by rw [HP.out.1.1]; exact hds, hw1, (show Aside _ from ?_), (show Hid _ from ?_)⟩
        · obtain ⟨c, hc⟩ := hac.out; exact ⟨c + 1, by omega⟩
        · exact BL.out.step (by omega) hac.out (by omega) (Nat.le_refl _) hlt (Nat.le_refl _) HP.out.1 HP.out.2
        · intro i hi; rw [HP.out.1.2.1 i (Or.inr hi)]; exact AL.out i (by omega)
    · have hltz : ¬ (a : Int) + 20 ≤ (d.size : Int) := by omega
      have hc := INSC.out a d.size dk wr hds S1.out han (Nat.le_refl _)
      have hP := insertion_stable hS HX.out a d.size dk han (by omega) (ord _ (Nat.le_refl _))
      have hB1 : Blocks lx ah 20 d.size d.size d (Sort.insertionSort (ltOf cf) dk a d.size) := BL.out.step (by omega) hac.out han (by omega) (Nat.le_refl _) (Nat.le_refl _) hP.1 hP.2
      have hs1 : (Sort.insertionSort (ltOf cf) dk a d.size).size = d.size := by rw [hP.1.1]; exact hds
      generalize Sort.insertionSort (ltOf cf) dk a d.size = d1 at hc hB1 hs1
      have B1 : Aside _ := hB1
      clear ord hP hB1 BL AL S1 INSC
      go_wp2_with (go_at_fn 30; refine hc.mono ?_; rintro e w1 ⟨rfl, hw1⟩)
      have S1 : Aside _ := hw1
      clear hw1 hc
      go_loopg [6] d.size (fun kx s6 wr => ∃ (bs : Nat) (dk : Array α), s6 = .int .i64 bs ∧ 20 ≤ bs ∧ bs ≤ 2 * d.size + 20 ∧ d.size - bs ≤ kx ∧ dk.size = d.size ∧ Aside (SWK enc k w0 blk off dk wr) ∧ Aside (Blocks lx ah bs d.size d.size d dk))
      case atStart => exact ⟨20, d1, rfl, by omega, by omega, by omega, hs1, S1, B1⟩
      case round => as_aux_lemma =>
        clear S1 B1
        obtain ⟨bs, dk, rfl, hbs, hbs2, hkx2, hds2, S1, BL⟩ := hrel
        by_cases hlt2 : bs < d.size
        · have hltz2 : (bs : Int) < (d.size : Int) := by omega
          go_wp2
          go_loopg [7, 8] d.size (fun kx s7 s8 wr => ∃ (a : Nat) (dj : Array α), s7 = .int .i64 a ∧ s8 = .int .i64 ((a : Int) + 2 * (bs : Int)) ∧ Hid (∃ c, a = 2 * bs * c) ∧ a ≤ d.size ∧ d.size - a ≤ kx ∧ dj.size = d.size ∧ Aside (SWK enc k w0 blk off dj wr) ∧
            Aside (Blocks lx ah (2 * bs) a d.size d dj) ∧ Hid (∀ i, a ≤ i → dj[i]! = dk[i]!))
          case atStart =>
            have hB0 : Blocks lx ah (2 * bs) 0 d.size d dk := ⟨BL.out.perm, fun i j h1 h2 => by omega, fun i j h1 h2 h3 => BL.out.ordered i j h1 h2 (by
              rcases Nat.lt_or_ge (i / bs) (j / bs) with h | h
              · exact h
              · have h4 : i / bs / 2 < j / bs / 2 := by rw [Nat.div_div_eq_div_mul, Nat.div_div_eq_div_mul, Nat.mul_comm bs 2]; exact h3
                omega)⟩
            exact ⟨0, dk, rfl, by go_num, (⟨0, rfl⟩ : ∃ c, 0 = 2 * bs * c), by omega, by omega, hds2, S1, hB0, fun i _ => rfl⟩
          case round => as_aux_lemma =>
            clear S1
            obtain ⟨a, dj, rfl, rfl, hac, han, hkx3, hds3, S1, BJ, AL⟩ := hrel
            have RN : Hid (∀ b, a + bs < b → b ≤ a + 2 * bs → b ≤ d.size → Runs lx ah a (a + bs) b dj) := fun b h1 h2 h3 => by
              obtain ⟨c, hc⟩ := hac.out
              have e : a = bs * (2 * c) := by rw [hc, Nat.mul_comm 2 bs, Nat.mul_assoc]
              have := runs_of (B := bs) (c := 2 * c) (b := b) (n := d.size) (d := dk) (dk := dj) (lx := lx) (ah := ah) (by omega) BL.out.sorted BL.out.ordered (by omega) (by omega) h3 (by rw [← e]; exact AL.out)
              rwa [← e] at this
            by_cases hlt3 : a + 2 * bs ≤ d.size
            · have hltz3 : (a : Int) + 2 * (bs : Int) ≤ (d.size : Int) := by omega
              have em : (a : Int) + (bs : Int) = ((a + bs : Nat) : Int) := by omega
              have eb : (a : Int) + 2 * (bs : Int) = ((a + 2 * bs : Nat) : Int) := by omega
              have hc := SYMC.out a (a + bs) (a + 2 * bs) dj wr hds3 S1.out (by omega) (by omega) hlt3 (RN.out _ (by omega) (Nat.le_refl _) hlt3)
              rw [← em, ← eb] at hc
              clear em eb
              go_wp2_with (go_at_fn 31; refine hc.mono ?_; rintro e w1 ⟨rfl, d2, q1, q2, hw1⟩)
              go_roundg (d.size - (a + 2 * bs))
              case measure => omega
              case rel =>
                refine ⟨a + 2 * bs, d2, by go_num, by go_num, (show Hid _ from ?_), hlt3, Nat.le_refl _, by rw [q1.1]; exact hds3, hw1, (show Aside _ from ?_), (show Hid _ from ?_)⟩
                · obtain ⟨c, hc⟩ := hac.out; exact ⟨c + 1, by rw [Nat.mul_add, Nat.mul_one, ← hc]⟩
                · exact BJ.out.step (by omega) hac.out (by omega) (Nat.le_refl _) hlt3 (Nat.le_refl _) q1 q2
                · intro i hi; rw [q1.2.1 i (Or.inr hi)]; exact AL.out i (by omega)
            · have hltz3 : ¬ (a : Int) + 2 * (bs : Int) ≤ (d.size : Int) := by omega
              by_cases hlt4 : a + bs < d.size
              · have hltz4 : (a : Int) + (bs : Int) < (d.size : Int) := by omega
                have em : (a : Int) + (bs : Int) = ((a + bs : Nat) : Int) := by omega
                have hc := SYMC.out a (a + bs) d.size dj wr hds3 S1.out (by omega) (by omega) (Nat.le_refl _) (RN.out _ (by omega) (by omega) (Nat.le_refl _))
                rw [← em] at hc
                clear em
                go_wp2_with (go_at_fn 31; refine hc.mono ?_; rintro e w1 ⟨rfl, d2, q1, q2, hw1⟩)
                go_roundg (d.size - 2 * bs)
                case measure => omega
                case rel =>
                  exact ⟨2 * bs, d2, by go_num, by omega, by omega, Nat.le_refl _, by rw [q1.1]; exact hds3, hw1, BJ.out.step (by omega) hac.out (by omega) (by omega) (Nat.le_refl _) (Nat.le_refl _) q1 q2⟩
              · have hltz4 : ¬ (a : Int) + (bs : Int) < (d.size : Int) := by omega
                have hso : SortedIn lx a d.size dj := by
                  obtain ⟨c, hc⟩ := hac.out
                  have e : a = bs * (2 * c) := by rw [hc, Nat.mul_comm 2 bs, Nat.mul_assoc]
                  intro i j h1 h2 h3
                  rw [AL.out i h1, AL.out j (by omega)]
                  exact BL.out.sorted i j h2 h3 (by rw [div_in (B := bs) (c := 2 * c) (i := i) (by omega) (by omega), div_in (B := bs) (c := 2 * c) (i := j) (by omega) (by omega)])
                have HSO : Hid _ := hso
                clear hso
                go_wp2_with fail
                go_roundg (d.size - 2 * bs)
                case measure => omega
                case rel =>
                  exact ⟨2 * bs, dj, by go_num, by omega, by omega, Nat.le_refl _, hds3, S1, BJ.out.step (by omega) hac.out (by omega) (by omega) (Nat.le_refl _) (Nat.le_refl _) (permIn_refl _ _ _) HSO.out⟩
        · have hltz2 : ¬ (bs : Int) < (d.size : Int) := by omega
          go_wp2
          go_end0
          exact ⟨rfl, dk, BL.out.perm, sorted_whole (by omega) BL.out.sorted, S1.out⟩

set_option maxHeartbeats 4000000 in
set_option maxRecDepth 1000000 in
/-- slices.SortStableFunc. -/
theorem sortStable_any (k : Nat) (L : Stable P k) (enc : α → List Value) (hk : ∀ x, (enc x).length = k) (h1 : ∀ x, ∀ v ∈ enc x, v.oneCell' = true) (cf : α → α → Int) (lx : α → α → Bool) (ah : α → α → Prop) (hS : SWO lx) (hx : ∀ x y, ah x y → ltOf cf y x = lx y x) (g : Nat) (cb : Array Value) (blk off cap : Nat) (d : Array α) (w : World)
    (eg : ∀ args w, (callFunc g args).run P w = .ok (.enter g args) w) (hcmp : CmpLays P g cb enc k cf blk off d.size w) (hH : HoldsK enc k w blk off d) (hblk : blk < w.heap.size) (hsz : d.size < 1073741824)
    (h0 : ∀ i j, i < j → j < d.size → ah d[i]! d[j]!) :
    Calls P 18 #[.slice (some ⟨blk, off, none⟩) d.size cap, .func (.func g) #[] cb] w fun e w' => e = .returned (.tuple #[]) ∧ ∃ d', PermIn 0 d.size d d' ∧ SortedIn lx 0 d.size d' ∧ SWK enc k w blk off d' w' := by
  have mixed := L.mixed; have t0 := L.t0; have a0 := L.a0; have z0 := L.z0; have v0 := L.v0; have t3 := L.t3; have a3 := L.a3; have z3 := L.z3; have v3 := L.v3; have t4 := L.t4; have a4 := L.a4; have z4 := L.z4; have v4 := L.v4
  have ts := L.ts; have asl := L.asl; have zs := L.zs; have vs := L.vs; have tc := L.tc; have ac := L.ac; have zc := L.zc; have vc := L.vc; have aE := L.aE; have zE := L.zE
  have FG := L.fTop
  have eT : ∀ args w, (callFunc 25 args).run P w = .ok (.enter 25 args) w := enters_of L.fSta (by kernel_rfl) rfl
  have us := run_underlying L.ts
  have hc := stable_any k L enc cf lx ah hS hx g cb blk off cap d d w w eg hcmp ⟨hk, h1, hH, hblk⟩ rfl (SWK.start hH) hsz h0
  clear hcmp hx h0 hH L hk h1
  go_enter FG, Try.ntmps18
  go_wp2_with (go_at_fn 25; refine hc.mono ?_; rintro e w1 ⟨rfl, h⟩)
  go_end0
  exact ⟨rfl, h⟩
end L04
end Go.Proofs.Ytnkomnmdmbegiaa

