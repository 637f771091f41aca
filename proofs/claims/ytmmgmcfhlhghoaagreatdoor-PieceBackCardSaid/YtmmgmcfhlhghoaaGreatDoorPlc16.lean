/- The landed places of a word, sorted: out of the map of their kinds. -/
import Derived.Test.YtmmgmcfhlhghoaaGreatDoorKnd16
import Derived.Test.YtmmgmcfhlhghoaaGreatDoorSrtK16
namespace Go.Proofs.YtmmgmcfhlhghoaaGreatDoor
open Go.RowKit
namespace L16
open L10 (TN tn)
open L12 (pointsL)
open L13 (TW tw checkB)
open L14 (LayD LayOk layC mayL)

/-- append(own, b), at the type that has a name; which block may have been written. -/
theorem OwnK.putL {w0 w : World} {v : Value} {l : List Brk} (h : OwnK w0 w v l) (b : Brk) (hm : l.length + 1 ≤ 1000000) (ty : TypeId) :
    ∃ v' w', (Builtin.append_ #[104, 104] ty #[v, .slice (some ⟨w.heap.size, 0, none⟩) 1 1]).run Tryz.prog (w.alloc (.cells #[.int .i64 b.1, .int .i64 b.2.1, .int .i64 b.2.2] 43)) = .ok v' w' ∧ OwnK w0 w' v' (l ++ [b]) ∧
      (w.alloc (.cells #[.int .i64 b.1, .int .i64 b.2.1, .int .i64 b.2.2] 43)).grownBy w' v.ownBlock := by
  obtain ⟨i, hi, hz0, hsz, hby⟩ := info_parts brk_info16
  have h1 := h.over ((Ext.refl w).alloc (.cells #[.int .i64 b.1, .int .i64 b.2.1, .int .i64 b.2.2] 43))
  have hs := seenK_new w b
  obtain ⟨v', w', hr, ho, hg, _, _⟩ := run_append_own_at (P := Tryz.prog) _ w0.heap.size 104 ty 43 i (.agg #[.int .i64 0, .int .i64 0, .int .i64 0]) 3 24 Tryz.underlying104 hi hz0 hsz hby rfl (by omega) v l.length (flatK l) h1.1 ⟨w.heap.size, 0, none⟩ 1 1 (flatK [b]) (flatK_length [b])
    (fun j u hu => by
      obtain ⟨ad', e, _, hc⟩ := hs j u hu
      cases e
      exact hc) (flatK_one [b]) (by unfold maxLen; omega) (by omega) h1.2.size
  refine ⟨v', w', hr, ⟨?_, Below.grown h1.2 hg h1.2.size (fun k hk => (h1.1.lt k hk).1)⟩, hg⟩
  rw [List.length_append, flatK_append]
  exact ho
/-- The range over the map goes on beside all that is made, and one's own. -/
theorem ranges_row {H : Type} {P : Program} {k : TypeId} {R : Value → Option (DataW H × List MemPlace)} {w w' : World} {b r n : Nat} {D : DataW H} {left : Lit → Bool} {cnt base : Nat} {e : TypeId} {size : Nat} {v : Value} {m : Nat} {xs : List Value}
    (hr : w.ranges P k R b r n D left cnt) (h : w.ownsRow base e size v m xs) (hg : w.grownBy w' v.ownBlock) : w'.ranges P k R b r n D left cnt := by
  refine hr.kept hg ?_ ?_
  · obtain ⟨_, _, _, _, _, hb, _⟩ := hr
    rcases h.2 with ⟨rfl, _⟩ | ⟨g, cap, cur, rfl, _, hc, _⟩
    · simp [Value.ownBlock]
    · intro e1
      have : b = g := by simpa [Value.ownBlock] using e1
      rw [this, hc] at hb
      cases hb
  · obtain ⟨_, _, _, _, _, _, _, _, _, hit, _⟩ := hr
    rcases h.2 with ⟨rfl, _⟩ | ⟨g, cap, cur, rfl, _, hc, _⟩
    · simp [Value.ownBlock]
    · intro e1
      have : r = g := by simpa [Value.ownBlock] using e1
      rw [this, hc] at hit
      cases hit
theorem own_step {H : Type} {P : Program} {k : TypeId} {R : Value → Option (DataW H × List MemPlace)} {w0 w w' : World} {b r n : Nat} {D : DataW H} {left : Lit → Bool} {cnt : Nat} {v : Value} {l : List Brk} (h : OwnK w0 w v l) (hr : w.ranges P k R b r n D left cnt) (hr0 : w0.heap.size ≤ r) (hg : w.grownBy w' (some r)) : OwnK w0 w' v l := by
  refine ⟨h.1.kept hg (.inr ?_), Below.grown h.2 hg h.2.size (fun k e => by cases e; exact hr0)⟩
  obtain ⟨_, _, _, _, _, _, _, _, _, hit, _⟩ := hr
  rcases h.1.2 with ⟨rfl, _⟩ | ⟨g, cap, cur, rfl, _, hc, _⟩
  · simp [Value.ownBlock]
  · intro e1
    have : g = r := by simpa [Value.ownBlock] using e1
    rw [← this, hc] at hit
    cases hit

/-- What has been met so far. -/
structure Col (f : Int → Option Int) (q : Int) (left : Lit → Bool) (lk : List Brk) : Prop where
  met : ∀ b ∈ lk, b.2.1 = q ∧ f b.2.2 = some b.1 ∧ left (.int .i64 b.2.2) = false
  all : ∀ y k, f y = some k → left (.int .i64 y) = true ∨ (k, q, y) ∈ lk
  one : lk.Pairwise fun a b => a.2.2 ≠ b.2.2
/-- What a map reads as. -/
def Reads (f : Int → Option Int) (D : DataW Unit) : Prop := ∀ x l, keyOf Tryz.prog 3 x = some l → Maps.has D l = (mI f x).isSome ∧ ∀ d, mI f x = some d → ∀ z, D.atKey l z = d
theorem Col.start {f : Int → Option Int} {D : DataW Unit} (q : Int) (h : Reads f D) (hf : ∀ y k, f y = some k → I64 y) : Col f q (Maps.has D) [] :=
  ⟨fun b hb => by simp at hb, fun y k e => .inl (by rw [(h _ _ (key_i64 (hf y k e))).1]; simp [mI, e]), List.Pairwise.nil⟩
theorem Col.step {f : Int → Option Int} {D : DataW Unit} {q : Int} {left : Lit → Bool} {lk : List Brk} (C : Col f q left lk) (h : Reads f D) {x c : Int} (hx : I64 x) (hl : left (.int .i64 x) = true) (hat : ∀ zd, D.atKey (.int .i64 x) zd = .lit (.int .i64 c)) :
    Col f q (fun z => left z && !z.sameKey (.int .i64 x)) (lk ++ [(c, q, x)]) := by
  obtain ⟨h1, h2⟩ := h _ _ (key_i64 hx)
  have hfx : f x = some c := by
    cases e : f x with
    | none =>
      rw [show mI f (.int .i64 x) = none by simp [mI, e]] at h1
      have := hat (.lit (.int .i64 (c + 1)))
      rw [Maps.atKey_of_not_has h1] at this
      simp at this
      omega
    | some d =>
      have := h2 (.lit (.int .i64 d)) (by simp [mI, e]) (.lit (.int .i64 0))
      rw [hat] at this
      simp at this
      rw [this]
  refine ⟨fun b hb => ?_, fun y k e => ?_, ?_⟩
  · rcases List.mem_append.1 hb with hb | hb
    · obtain ⟨b1, b2, b3⟩ := C.met b hb
      exact ⟨b1, b2, by rw [b3]; rfl⟩
    · obtain rfl := List.mem_singleton.1 hb
      exact ⟨rfl, hfx, by simp [Lit.sameKey]⟩
  · by_cases exy : y = x
    · subst exy
      rw [hfx] at e
      cases e
      exact .inr (by simp)
    · rcases C.all y k e with h3 | h3
      · exact .inl (by rw [h3]; simp [Lit.sameKey, exy])
      · exact .inr (List.mem_append_left _ h3)
  · rw [List.pairwise_append]
    refine ⟨C.one, List.pairwise_singleton _ _, fun a ha b hb => ?_⟩
    obtain rfl := List.mem_singleton.1 hb
    intro e
    have := (C.met a ha).2.2
    rw [show a.2.2 = x from e, hl] at this
    cases this
theorem Col.done {f : Int → Option Int} {q : Int} {left : Lit → Bool} {lk : List Brk} (C : Col f q left lk) (hl : ∀ kl, left kl = false) (b : Brk) : b ∈ lk ↔ b.2.1 = q ∧ f b.2.2 = some b.1 := by
  constructor
  · intro hb
    exact ⟨(C.met b hb).1, (C.met b hb).2.1⟩
  · rintro ⟨e, hf⟩
    rcases C.all _ _ hf with h | h
    · rw [hl] at h; cases h
    · rw [← e] at h; exact h
theorem tgt_small {w : TW} {ps : List Int} {e : Int} (hw : w.1.length ≤ 60) {y k : Int} (h : tgtF w ps e y = some k) : I64 y := by
  unfold tgtF at h
  split at h
  · constructor <;> omega
  · split at h
    · constructor <;> omega
    · cases h

set_option maxRecDepth 100000 in
set_option maxHeartbeats 8000000 in
theorem places_any (J : Job) (O : J.Ok) (F : Nat → Prop) (w : World) (h : J.At F w) (i : Nat) (hi : i < J.wl.length) :
    Calls Tryz.prog 32 #[J.val, .int .i64 i] w fun e w' => ∃ F', J.Ask F w F' w' ∧
      ∃ A c, e = .returned (.slice A (wordL (tw J.wl[i]) (J.ps J.wl[i]) i (endK J.m i)).length c) ∧ SeenK w' A (wordL (tw J.wl[i]) (J.ps J.wl[i]) i (endK J.m i)) ∧ ∀ ad, A = some ad → w.heap.size ≤ ad.block := by
  obtain ⟨W1, hW1⟩ : ∃ W1, W1 = w.alloc (.cells #[.slice J.WA J.m J.d, J.fn] 81) := ⟨_, rfl⟩
  have x1 : Ext w W1 := by rw [hW1]; exact (Ext.refl _).alloc _
  have KI := Lib.hid (kinds_any J O F W1 (h.ext x1) i hi)
  have Q1 := Lib.hid (h.ask x1)
  have KP := Lib.hid (show Blk W1 w.heap.size 81 [.slice J.WA J.m J.d, J.fn] by rw [hW1]; exact Blk.lit _ _ _ _ rfl)
  have WP := Lib.hid (word_parts (checkB_word O.chk hi))
  generalize J.wl[i] = x at *
  obtain ⟨ps, hps⟩ : ∃ ps, ps = J.ps x := ⟨_, rfl⟩
  obtain ⟨ek, hek⟩ : ∃ ek, ek = endK J.m i := ⟨_, rfl⟩
  have he : ek = 1 ∨ ek = 5 := by rw [hek]; unfold endK; split <;> simp
  have HE := Lib.hid he
  rw [← hps, ← hek] at KI ⊢
  have HW1 := Lib.hid hW1
  obtain ⟨fn, hfn⟩ : ∃ fn, fn = J.fn := ⟨_, rfl⟩
  obtain ⟨b0, hb0⟩ : ∃ b0, w.heap.size = b0 := ⟨_, rfl⟩
  have HB0 := Lib.hid hb0
  rw [← hfn] at HW1 KP
  unfold Job.val at KI ⊢
  rw [← hfn] at KI ⊢
  rw [hb0] at KP
  clear hW1 x1 h O hfn hps hek hb0 he hi
  go_enter Tryz.func32, Tryz.ntmps32
  go_upto_region 1 with (fail)
  rw [← HW1.out]
  rw [HB0.out]
  clear HW1
  have p0 : W1.cell? ⟨b0, 0, none⟩ = some (.slice J.WA J.m J.d) := KP.out.cell 0
  have p1 : W1.cell? ⟨b0, 1, none⟩ = some fn := KP.out.cell 1
  go_wp2_with fail
  refine KI.out.mono ?_
  rintro e1 W3 ⟨F3, a3, bm, n3, rfl, hb3, _, hn3, D, own3, q3⟩
  have A3 := Lib.hid (Q1.out.trans a3)
  have RD := Lib.hid (show Reads (tgtF (tw x) ps ek) D from q3)
  have CS := Lib.hid (Col.start (f := tgtF (tw x) ps ek) i q3 fun y k e => tgt_small WP.out.2.1 e)
  have SZ := Lib.hid (show Maps.size D ≤ 1000000 from Nat.le_trans own3.size_le hn3)
  clear KI Q1 a3 q3 p0 p1 KP
  go_wp2_with (first | (at_range; refine wpList_range_own _ rfl _ 120 rfl 3 3 int_law Tryz.underlying120 _ bm n3 D rfl own3 ?_; intro W4 hrg0 hg0 hs0) | fail)
  go_frame
  have R0 := Lib.hid hrg0
  have X0 := Lib.hid (show Ext W3 W4 from ⟨hg0.os, hg0.tape, hg0.output, hg0.size, fun k hk => hg0.block k hk (by simp)⟩)
  clear hrg0 hg0 hs0 own3
  go_loopw [5] (fun s5 wr => ∃ left cnt lk, Hid (OwnK W3 wr s5 lk) ∧ Hid (wr.ranges Tryz.prog 3 (plainElem Tryz.prog 3) bm W3.heap.size n3 D left cnt) ∧ Hid (Col (tgtF (tw x) ps ek) i left lk) ∧ lk.length + cnt ≤ 1000000) (fun _ wr => wr.rangeLeft bm W3.heap.size)
  case atStart => exact ⟨_, _, [], Lib.hid (OwnK.nil X0.out), R0, CS, by simpa using SZ.out⟩
  case round =>
    clear R0 X0 CS SZ
    obtain ⟨left, cnt, lk, HO, HR, HC, hcn⟩ := hrel
    go_wp2_with (first | (at_next; refine wpList_next_ranges_ii _ rfl _ rfl 3 3 .i64 .i64 int_law Tryz.underlying3 Tryz.underlying3 bm W3.heap.size n3 _ _ _ rfl HR.out ?_ ?_) | fail)
    · intro _ hl0
      have MEM := fun b => (HC.out.done hl0 b).trans (word_mem (w := tw x) (ps := ps) (q := i) (e := ek) (b := b)).symm
      have hne : lk ≠ [] := fun e => by
        have := (MEM (ek, (i : Int), ((tw x).1.length : Int))).2 (by unfold wordL; simp)
        rw [e] at this
        simp at this
      have SO := Lib.hid (sort_any W3 wr u5 lk HO.out hne (by omega))
      have FIN := Lib.hid (fun (w5 : World) (S5 : Sorted W3 u5 lk w5) => show ∃ F', J.Ask F w F' w5 ∧ ∃ A c, Ending.returned u5 = .returned (.slice A (wordL (tw x) ps i ek).length c) ∧ SeenK w5 A (wordL (tw x) ps i ek) ∧ ∀ ad, A = some ad → w.heap.size ≤ ad.block from by
        obtain ⟨l', hp, hs, x5, A, c, e5, hseen, hfr⟩ := S5
        obtain rfl := sorted_word HE.out MEM HC.out.one hp hs
        exact ⟨F3, A3.out.ext x5, A, c, by rw [e5], hseen, fun ad e => Nat.le_trans A3.out.but.size (hfr ad e)⟩)
      clear MEM hne hl0 HO HR HC hcn
      go_wp2_with fail
      refine SO.out.mono ?_
      rintro e1 w5 ⟨rfl, S5⟩
      have F5 := Lib.hid (FIN.out w5 S5)
      clear S5 SO FIN
      go_wp2_with fail
      go_ret
      exact F5.out
    · intro y c w1 cnt1 hwx hwc hlx hat hrg1 hlt hg1 hs1 hen
      have own1 := own_step HO.out HR.out (Nat.le_refl _) hg1
      obtain ⟨v', w2, hr, own2, hg2⟩ := own1.putL (c, (i : Int), y) (by omega) 104
      have R2 := Lib.hid (ranges_row (hrg1.alloc _) (own1.over ((Ext.refl w1).alloc _)).1 hg2)
      have O2 := Lib.hid own2
      have C2 := Lib.hid (HC.out.step RD.out (wf_i64 hwx) hlx hat)
      have HL := Lib.hid hlt
      have hcn2 : lk.length + 1 + cnt1 ≤ 1000000 := by omega
      clear own1 own2 hg2 hwx hwc hlx hat hrg1 hg1 hs1 hlt HO HC
      dsimp only at hr
      go_wp2_with (first | (at_builtin; refine wpList_ran rfl _ _ rfl hr ?_) | fail)
      go_roundw
      case rel => exact ⟨_, cnt1, _, O2, R2, C2, by simpa using hcn2⟩
      case measure => rw [R2.out.left_eq, HR.out.left_eq]; exact HL.out
end L16
end Go.Proofs.YtmmgmcfhlhghoaaGreatDoor

