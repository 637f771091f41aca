/- The landed breaks of a paragraph, one after another: for every loop's body. -/
import Derived.Test.YtmmgmcfhlhghoaaGreatDoorPlc16
import Derived.Test.YtmmgmcfhlhghoaaGreatDoorOver16
import Derived.OwnWalkIn
namespace Go.Proofs.YtmmgmcfhlhghoaaGreatDoor
open Go.RowKit
namespace L16
open L10 (TN tn)
open L13 (TW tw checkB)
open L14 (LayD LayOk layC mayL)

attribute [local go_sem] Oper.semAt_some

/-- The breaks up to word k. -/
def Job.to (J : Job) (k : Nat) : List Brk := allTo J.p (J.l.map tn) (J.L.v 7) (J.L.v 8) J.parted (J.wl.map tw) k
theorem Job.to_zero (J : Job) : J.to 0 = [(0, 0, 0)] := allTo_zero _ _ _ _ _ _
theorem Job.to_succ {J : Job} (O : J.Ok) {k : Nat} (hk : k < J.wl.length) : J.to (k + 1) = J.to k ++ wordL (tw J.wl[k]) (J.ps J.wl[k]) k (endK J.m k) := by
  unfold Job.to
  rw [allTo_succ, List.append_assoc, List.length_map, ← O.hm]
  have e : (J.wl.map tw).getD k ([], []) = tw J.wl[k] := by simp [List.getD, hk]
  rw [e]
  rfl
theorem Job.to_pre {J : Job} (O : J.Ok) {k n : Nat} (h : k ≤ n) (hn : n ≤ J.wl.length) : J.to k <+: J.to n := by
  induction n with
  | zero => obtain rfl : k = 0 := by omega
            exact List.prefix_rfl
  | succ n ih =>
    by_cases e : k = n + 1
    · rw [e]; exact List.prefix_rfl
    · exact (ih (by omega) (by omega)).trans (by rw [Job.to_succ O (by omega)]; exact List.prefix_append _ _)
/-- The trie is apart from one's own blocks. -/
def Job.Free (J : Job) (own : World → Nat → Prop) (W : World) : Prop := ∃ F, J.At F W ∧ ∀ k, own W k → ¬ F k ∧ k < W.heap.size
/-- What the function does between two breaks. -/
def Job.Stp (J : Job) (own : World → Nat → Prop) (W W' : World) : Prop := But (Only J.B) W W' ∧ J.Free own W'
theorem Job.Ask.stp {J : Job} {own : World → Nat → Prop} {F F' : Nat → Prop} {W W' : World} (a : J.Ask F W F' W') (h : ∀ k, own W k → ¬ F k ∧ k < W.heap.size) (ho : ∀ k, own W' k → own W k) : J.Stp own W W' ∧ J.At F' W' ∧ ∀ k, own W' k → ¬ F' k ∧ k < W'.heap.size := by
  have q : ∀ k, own W' k → ¬ F' k ∧ k < W'.heap.size := fun k hk => by
    obtain ⟨h1, h2⟩ := h k (ho k hk)
    exact ⟨fun f => (a.far k f).elim h1 fun g => by omega, Nat.lt_of_lt_of_le h2 a.but.size⟩
  exact ⟨⟨a.but, F', a.at', q⟩, a.at', q⟩
def encB (b : Brk) : Array Value := #[brkV b]
/-- Cells that the rounds keep. -/
theorem seenK_keep {w w' : World} {A : Option Addr} {l : List Brk} (h : SeenK w A l) (hs : w.heap.size ≤ w'.heap.size) (hb : ∀ ad, A = some ad → ∀ cs t f, w.heap[ad.block]? = some (.cells cs t f) → w'.heap[ad.block]? = some (.cells cs t f)) : SeenK w' A l := by
  intro k v hv
  obtain ⟨ad, e, hl, hc⟩ := h k v hv
  refine ⟨ad, e, Nat.lt_of_lt_of_le hl hs, ?_⟩
  have hbk : (ad.add k).block = ad.block := addr_block ad k
  cases ho : w.heap[ad.block]? with
  | none => simp [World.cell?, hbk, ho] at hc
  | some o =>
    cases o with
    | cells cs t f => rw [World.cell?_of_block (w := w) (by rw [hbk, hb ad e cs t f ho, ho])]; exact hc
    | _ => simp [World.cell?, hbk, ho] at hc
theorem breaks_any (J : Job) (w : World) : Calls Tryz.prog 18 #[J.val] w (fun e w' =>
    e = .returned (.func (.func 31) #[] #[.pointer (some ⟨w.heap.size, 0, none⟩)]) ∧ Ext w w' ∧ Blk w' w.heap.size 81 J.cells ∧ w'.heap.size = w.heap.size + 1) := by
  unfold Job.val Job.cells
  generalize J.fn = fn
  obtain ⟨W1, hW1⟩ : ∃ W1, W1 = w.alloc (.cells #[.slice J.WA J.m J.d, fn] 81) := ⟨_, rfl⟩
  have X := Lib.hid (show Ext w W1 by rw [hW1]; exact (Ext.refl _).alloc _)
  have K0 := Lib.hid (show Blk W1 w.heap.size 81 [.slice J.WA J.m J.d, fn] by rw [hW1]; exact Blk.lit _ _ _ _ rfl)
  have SZ := Lib.hid (show W1.heap.size = w.heap.size + 1 by rw [hW1]; simp)
  have HW1 := Lib.hid hW1
  obtain ⟨b0, hb0⟩ : ∃ b0, w.heap.size = b0 := ⟨_, rfl⟩
  rw [hb0] at K0 SZ ⊢
  have H0 := Lib.hid hb0
  clear hW1 hb0
  go_enter Tryz.func18, Tryz.ntmps18
  go_upto_region 1 with (fail)
  rw [← HW1.out]
  rw [H0.out]
  clear HW1 H0
  go_wp2_with fail
  go_ret
  exact ⟨rfl, X.out, K0.out, SZ.out⟩

/-- Between two breaks: what the rounds keep, and the paragraph's variable. -/
structure Mid (J : Job) (own : World → Nat → Prop) (I : List Brk → World → Prop) (tb : Nat) (pre : List Brk) (W : World) : Prop where
  i : I pre W
  par : Blk W tb 81 J.cells
  far : ¬ own W tb
theorem Mid.step {J : Job} {own : World → Nat → Prop} {I : List Brk → World → Prop} {tb : Nat} {pre : List Brk} {W W' : World} (h : Mid J own I tb pre W) (hB : tb ≠ J.B) (hS : ∀ pre W1 W2, I pre W1 → J.Stp own W1 W2 → I pre W2) (s : J.Stp own W W') (ho : ∀ k, own W' k → own W k) : Mid J own I tb pre W' :=
  ⟨hS _ _ _ h.i s, s.1.blk h.par hB, fun e => h.far (ho _ e)⟩
theorem Mid.next {J : Job} {own : World → Nat → Prop} {I : List Brk → World → Prop} {Kp : World → World → Prop} {tb : Nat} {pre pre' : List Brk} {W W' : World} (h : Mid J own I tb pre W)
    (hK : ∀ W1 W2 b cs t f, Kp W1 W2 → ¬ own W1 b → W1.heap[b]? = some (.cells cs t f) → W2.heap[b]? = some (.cells cs t f)) (hKo : ∀ W1 W2 k, Kp W1 W2 → own W2 k → own W1 k ∨ W1.heap.size ≤ k)
    (i : I pre' W') (k : Kp W W') : Mid J own I tb pre' W' :=
  ⟨i, hK _ _ _ _ _ _ k h.far h.par, fun e => (hKo _ _ _ k e).elim h.far fun g => by have := h.par.lt; omega⟩

set_option maxRecDepth 100000 in
set_option maxHeartbeats 8000000 in
theorem breaks_in (n l0 tb D : Nat) (_ : 3 ≤ n) (J : Job) (O : J.Ok) (own : World → Nat → Prop) (Kp : World → World → Prop) (W : World) (I Ix : List Brk → World → Prop)
    (hI : ∀ pre W1, I pre W1 → J.Free own W1) (hS : ∀ pre W1 W2, I pre W1 → J.Stp own W1 W2 → I pre W2)
    (hOs : ∀ pre W1 W2, I pre W1 → But (Only J.B) W1 W2 → ∀ k, own W2 k → own W1 k)
    (hK : ∀ W1 W2 b cs t f, Kp W1 W2 → ¬ own W1 b → W1.heap[b]? = some (.cells cs t f) → W2.heap[b]? = some (.cells cs t f)) (hKs : ∀ W1 W2, Kp W1 W2 → W1.heap.size ≤ W2.heap.size)
    (hKo : ∀ W1 W2 k, Kp W1 W2 → own W2 k → own W1 k ∨ W1.heap.size ≤ k) (hB : tb ≠ J.B)
    (kt : Blk W tb 81 J.cells) (ho : ¬ own W tb)
    (hY : ∀ pre x W1, I pre W1 → pre.length < (J.to J.wl.length).length → YieldAt Fence.wide (n - 1) Tryz.prog l0 (encB x) W1 fun e W' => (e = .returned (.bool true) ∧ I (pre ++ [x]) W' ∧ Kp W1 W' ∧ KeepsFrom D W1 W') ∨ (e = .returned (.bool false) ∧ Ix (pre ++ [x]) W' ∧ KeepsFrom D W1 W'))
    (h0 : I [] W) :
    CallsIn Fence.wide n Tryz.prog 31 #[.func (.yield l0) #[] #[], .pointer (some ⟨tb, 0, none⟩)] W fun e W' => (∃ v, e = .returned v) ∧
      ((∃ xs, xs = J.to J.wl.length ∧ I xs W') ∨ (∃ pre, pre <+: J.to J.wl.length ∧ Ix pre W')) := by
  have L0 : 0 < (J.to J.wl.length).length := by
    have := (Job.to_pre O (Nat.zero_le J.wl.length) (Nat.le_refl _)).length_le
    rw [Job.to_zero] at this
    exact this
  have M0 := Lib.hid (show Mid J own I tb [] W from ⟨h0, kt, ho⟩)
  have hm := O.hm
  have hmd := O.md
  have hdm := O.dm
  have hm64 : (J.m : Int) ≤ 9223372036854775807 := by unfold maxLen at hdm; omega
  have HO := Lib.hid O
  have HHI := Lib.hid hI
  have HHS := Lib.hid hS
  have HHO := Lib.hid hOs
  have HHK := Lib.hid hK
  have HKS := Lib.hid hKs
  have HKO := Lib.hid hKo
  have HHB := Lib.hid hB
  have HHY := Lib.hid hY
  have HMM := Lib.hid hm
  obtain ⟨fn0, tm0, as0, bd0, hy0, hR0⟩ := hY [] (0, 0, 0) W h0 L0
  simp only [encB, brkV] at hy0
  clear kt h0 ho hdm hmd O L0 hI hS hOs hK hKs hKo hB hY hm
  refine callsIn_of_wp Tryz.func31 rfl trivial ?_ rfl
  simp only [Tryz.ntmps31, List.size_toArray, List.length_cons, List.length_nil, Nat.reduceAdd, Nat.reduceSub, Array.replicate_succ, Array.replicate_zero, List.push_toArray, List.append_toArray, List.nil_append, List.cons_append]
  gi_wp2
  refine ⟨fun h => by simp [Fence.wide] at h, hR0.mono ?_⟩
  rintro e W3 (⟨rfl, hi3, hk3, _⟩ | ⟨rfl, hx3, _⟩)
  · have M3 := Lib.hid (show Mid J own I tb (J.to 0) W3 by rw [Job.to_zero]; exact M0.out.next HHK.out HKO.out hi3 hk3)
    clear hi3 hk3 hR0 hy0 M0
    have p0 : W3.cell? ⟨tb, 0, none⟩ = some (.slice J.WA J.m J.d) := M3.out.par.cell 0
    gi_wp2
    gi_loopw [13] (fun i wr => ∃ (k : Nat), k ≤ J.m ∧ i = .int .i64 k ∧ Hid (Mid J own I tb (J.to k) wr)) (fun i _ => J.m - (intOf i).toNat)
    case atStart => exact ⟨0, Nat.zero_le _, rfl, M3⟩
    case round =>
      clear M3 p0
      obtain ⟨k, hk, rfl, HM⟩ := hrel
      obtain ⟨wo, rfl⟩ : ∃ wo : World, wo = wr := ⟨_, rfl⟩
      by_cases hlt : k < J.m
      · have hlt64 : (k : Int) < (J.m : Int) := by omega
        have hkl : k < J.wl.length := by have := HMM.out; omega
        obtain ⟨F, aF, fr⟩ := HHI.out _ _ HM.out.i
        have PL := places_any J HO.out F wo aF k hkl
        have LS := Lib.hid (Job.to_succ HO.out hkl)
        have LP := Lib.hid (Job.to_pre HO.out (show k + 1 ≤ J.wl.length by omega) (Nat.le_refl _))
        have lsl : (wordL (tw J.wl[k]) (J.ps J.wl[k]) k (endK J.m k)).length ≤ 100 := by
          have h1 := ofTo_length (tw J.wl[k]) (J.ps J.wl[k]) k (tw J.wl[k]).1.length
          have h2 := (word_parts (checkB_word HO.out.chk hkl)).2.1
          unfold wordL
          rw [List.length_append, List.length_singleton]
          omega
        generalize wordL (tw J.wl[k]) (J.ps J.wl[k]) k (endK J.m k) = ls at *
        unfold Job.val at PL
        have PL := Lib.hid PL
        have p0 : wo.cell? ⟨tb, 0, none⟩ = some (.slice J.WA J.m J.d) := HM.out.par.cell 0
        have p1 : wo.cell? ⟨tb, 1, none⟩ = some J.fn := HM.out.par.cell 1
        have FR := Lib.hid fr
        clear fr aF hkl
        generalize J.fn = fn at *
        gi_wp2
        refine ⟨trivial, fun h => by simp [Fence.wide] at h, (callsIn_wide.2 PL.out).mono ?_⟩
        rintro e w4 ⟨F4, a4, A, c, rfl, s4, n4⟩
        have OW := Lib.hid (HHO.out _ _ _ HM.out.i a4.but)
        have ST := Lib.hid (a4.stp FR.out OW.out).1
        have M4 := Lib.hid (show Mid J own I tb (J.to k ++ ls.take 0) w4 by rw [List.take_zero, List.append_nil]; exact HM.out.step HHB.out HHS.out ST.out OW.out)
        have S4 := Lib.hid s4
        have N4 := Lib.hid (show ∀ ad, A = some ad → ¬ own w4 ad.block from fun ad e g => by
          have h1 := n4 ad e
          have h2 := (FR.out _ (OW.out _ g)).2
          omega)
        clear a4 s4 n4 PL p0 p1 FR OW ST HM
        gi_wp2
        gi_loopw [20] (fun i wr => ∃ (j : Nat), j ≤ ls.length ∧ i = .int .i64 j ∧ Hid (Mid J own I tb (J.to k ++ ls.take j) wr) ∧ Hid (SeenK wr A ls) ∧ Hid (∀ ad, A = some ad → ¬ own wr ad.block)) (fun i _ => ls.length - (intOf i).toNat)
        case atStart => exact ⟨0, Nat.zero_le _, rfl, M4, S4, N4⟩
        case round =>
          clear M4 S4 N4
          obtain ⟨j, hj, rfl, HM, HS, HN⟩ := hrel
          obtain ⟨wi, rfl⟩ : ∃ wi : World, wi = wr := ⟨_, rfl⟩
          by_cases hjl : j < ls.length
          · have hj64 : (j : Int) < (ls.length : Int) := by omega
            obtain ⟨ad, rfl, c0, c1, c2⟩ := HS.out.get hjl
            have NX := Lib.hid (show J.to k ++ ls.take j ++ [ls[j]] = J.to k ++ ls.take (j + 1) by rw [List.take_succ_eq_append_getElem hjl, List.append_assoc])
            have NP := Lib.hid (show J.to k ++ ls.take (j + 1) <+: J.to J.wl.length from ((List.prefix_append_right_inj _).2 (List.take_prefix _ _)).trans (by rw [← LS.out]; exact LP.out))
            have LT := Lib.hid (show (J.to k ++ ls.take j).length < (J.to J.wl.length).length by
              have h1 := NP.out.length_le
              rw [List.length_append, List.length_take] at h1 ⊢
              omega)
            generalize ls[j] = b at *
            obtain ⟨b1, b2, b3⟩ := b
            dsimp only at c0 c1 c2
            have x5 : Ext wi (wi.alloc (.cells #[.int .i64 b1, .int .i64 b2, .int .i64 b3] 43)) := (Ext.refl wi).alloc _
            have OW := HHO.out _ _ _ HM.out.i (But.of_ext (S := Only J.B) x5)
            have M5 := Lib.hid (show Mid J own I tb (J.to k ++ ls.take j) (wi.alloc (.cells #[.int .i64 b1, .int .i64 b2, .int .i64 b3] 43)) from by
              obtain ⟨F, aF, fr⟩ := HHI.out _ _ HM.out.i
              exact HM.out.step HHB.out HHS.out ((aF.ask x5).stp fr OW).1 OW)
            have S5 := Lib.hid (HS.out.ext x5)
            have N5 := Lib.hid (show ∀ ad', some ad = some ad' → ¬ own (wi.alloc (.cells #[.int .i64 b1, .int .i64 b2, .int .i64 b3] 43)) ad'.block from fun ad' e g => HN.out ad' e (OW _ g))
            obtain ⟨fn1, tm1, as1, bd1, hy, hR⟩   := HHY.out (J.to k ++ ls.take j) (b1, b2, b3) _ M5.out.i LT.out
            simp only [encB, brkV] at hy
            clear x5 OW HM HS HN LT
            gi_wp2
            refine ⟨fun h => by simp [Fence.wide] at h, hR.mono ?_⟩
            rintro e W6 (⟨rfl, hi6, hk6, _⟩ | ⟨rfl, hx6, _⟩)
            · have M6 := Lib.hid (show Mid J own I tb (J.to k ++ ls.take (j + 1)) W6 by rw [← NX.out]; exact M5.out.next HHK.out HKO.out hi6 hk6)
              have S6 := Lib.hid (seenK_keep S5.out (HKS.out _ _ hk6) fun ad' e cs t f h => HHK.out _ _ _ _ _ _ hk6 (N5.out ad' e) h)
              have N6 := Lib.hid (show ∀ ad', some ad = some ad' → ¬ own W6 ad'.block from fun ad' e g => (HKO.out _ _ _ hk6 g).elim (N5.out ad' e) fun h => by
                obtain ⟨ad2, e2, _, hc2⟩ := S5.out.get hjl
                cases e
                cases e2
                have := World.block_lt_of_cell? _ _ hc2.1
                rw [addr_block] at this
                omega)
              clear hi6 hk6 hR hy M5 S5 N5 NX NP c0 c1 c2
              gi_wp2
              go_roundw
              case rel => exact ⟨j + 1, by omega, by go_num, M6, S6, N6⟩
              case measure => simp [intOf]; omega
            · have HX6 := Lib.hid (show ∃ pre, pre <+: J.to J.wl.length ∧ Ix pre W6 from ⟨_, NP.out, by rw [← NX.out]; exact hx6⟩)
              clear hx6 hR hy M5 S5 N5 NX NP c0 c1 c2
              gi_wp2
              refine bodyPost_ret (results_none rfl _ _ _) rfl ?_
              exact ⟨⟨_, rfl⟩, .inr HX6.out⟩
          · obtain rfl : j = ls.length := by omega
            have M7 := Lib.hid (show Mid J own I tb (J.to (k + 1)) wi by rw [LS.out]; have h := HM.out; rw [List.take_length] at h; exact h)
            clear HM HS HN LS LP
            gi_wp2
            go_roundw
            case rel => exact ⟨k + 1, by omega, by go_num, M7⟩
            case measure => simp [intOf]; omega
      · obtain rfl : k = J.m := by omega
        have FI := Lib.hid (show I (J.to J.wl.length) wo by have h := HM.out.i; rw [HMM.out] at h; exact h)
        clear HM
        gi_wp2
        go_end0
        exact ⟨⟨_, rfl⟩, .inl ⟨_, rfl, FI.out⟩⟩
  · have HX3 := Lib.hid (show ∃ pre, pre <+: J.to J.wl.length ∧ Ix pre W3 from ⟨_, by rw [List.nil_append, ← Job.to_zero]; exact Job.to_pre HO.out (Nat.zero_le _) (Nat.le_refl _), hx3⟩)
    clear hx3 hR0 hy0 M0
    gi_wp2
    refine bodyPost_ret (results_none rfl _ _ _) rfl ?_
    exact ⟨⟨_, rfl⟩, .inr HX3.out⟩
end L16
end Go.Proofs.YtmmgmcfhlhghoaaGreatDoor

