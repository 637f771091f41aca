/- The landed kinds of a word's places: a map. Written by gen16/knd.py. -/
import Derived.Test.YtmmgmcfhlhghoaaGreatDoorJob16
import Derived.Deep.CutBlock
import Derived.Deep.DeepCutAuto
namespace Go.Proofs.YtmmgmcfhlhghoaaGreatDoor
open Go.RowKit
namespace L16
open L10 (TN tn)
open L11 (seenL_but TrieAt)
open L12 (St pointsL)
open L13 (TW tw checkB)
open L14 (LayD LayOk layC mayL)

/-- Where its variables are. -/
structure KC (J : Job) (w : World) (bp bw bm : Nat) : Prop where
  w0 : J.w0.heap.size ≤ w.heap.size
  ge : w.heap.size ≤ bm
  np : bm ≠ bp
  nw : bm ≠ bw
  nB : bm ≠ J.B
  nf : J.parted = true → J.bt ≠ bm ∧ J.bb ≠ bm ∧ J.bl ≠ bm
/-- Within the call: its two variables, and its map. -/
structure InK (J : Job) (F : Nat → Prop) (w : World) (x : CW) (bp bw bm : Nat) (F' : Nat → Prop) (n : Nat) (f : Int → Option Int) (W : World) : Prop where
  ask : J.Ask F w F' W
  own : ¬ F' bm
  par : Blk W bp 81 J.cells
  word : Blk W bw 50 [.slice x.A x.cs.length x.c, .slice x.B x.ss.length x.d]
  map : MapK W bm n f
theorem InK.put {J : Job} (O : J.Ok) {F : Nat → Prop} {w W W' : World} {x : CW} {bp bw bm n n' : Nat} {F' : Nat → Prop} {f f' : Int → Option Int} (c : KC J w bp bw bm) (h : InK J F w x bp bw bm F' n f W) (m : MapK W' bm n' f') (b : But (Only bm) W W') : InK J F w x bp bw bm F' n' f' W' :=
  ⟨⟨h.ask.at'.set b (fun k e => by rw [show k = bm from e]; exact ⟨h.own, c.nB, Nat.le_trans c.w0 c.ge⟩) O (fun p => c.nf p), h.ask.but.trans b (fun k e => .inr (by rw [show k = bm from e]; exact c.ge)), h.ask.far⟩,
    h.own, b.blk h.par (fun e => c.np e.symm), b.blk h.word (fun e => c.nw e.symm), m⟩
theorem InK.congr {J : Job} {F : Nat → Prop} {w W : World} {x : CW} {bp bw bm n : Nat} {F' : Nat → Prop} {f f' : Int → Option Int} (h : InK J F w x bp bw bm F' n f W) (e : ∀ y, f' y = f y) : InK J F w x bp bw bm F' n f' W := ⟨h.ask, h.own, h.par, h.word, h.map.congr e⟩
theorem InK.to {J : Job} {F : Nat → Prop} {w W W' : World} {x : CW} {bp bw bm n : Nat} {F' F'' : Nat → Prop} {f : Int → Option Int} (c : KC J w bp bw bm) (h : InK J F w x bp bw bm F' n f W) (a : J.Ask F' W F'' W') (hp : bp ≠ J.B) (hw : bw ≠ J.B) : InK J F w x bp bw bm F'' n f W' :=
  ⟨h.ask.trans a, fun g => (a.far bm g).elim h.own fun l => by have := h.map.lt; omega, a.but.blk h.par hp, a.but.blk h.word hw, h.map.but a.but c.nB⟩
/-- One more is stored. -/
theorem InK.store {J : Job} (O : J.Ok) {F : Nat → Prop} {w W : World} {x : CW} {bp bw bm n : Nat} {F' : Nat → Prop} {f f' : Int → Option Int} (c : KC J w bp bw bm) (h : InK J F w x bp bw bm F' n f W) (hn : n ≤ 1000000) (y v : Int) (hy : I64 y) (hv : I64 v) (e : ∀ z, f' z = if z = y then some v else f z) :
    ∃ W', (Instr.mapUpdate 120 (.map (some bm)) (.int .i64 y) (.int .i64 v)).run Tryz.prog W = .ok () W' ∧ Hid (InK J F w x bp bw bm F' (n + 1) f' W') ∧ Hid (But (Only bm) W W') := by
  obtain ⟨W', h1, h2, h3⟩ := h.map.store hn y v hy hv
  exact ⟨W', h1, h.put O c (h2.congr e) h3, h3⟩
theorem eqIn_nil (d : Nat) (w : World) : (Op.equalIn (d + 1) 78 .nilFunc .nilFunc).run Tryz.prog w = .ok true w := by simp [Op.equalIn, run_underlying Tryz.underlying78]
theorem eqIn_fn (d : Nat) (w : World) (f : Fn) (a b : Array Value) : (Op.equalIn (d + 1) 78 (.func f a b) .nilFunc).run Tryz.prog w = .ok false w := by simp [Op.equalIn, run_underlying Tryz.underlying78]
theorem neq_nil (w : World) : (binOp .neq 78 .nilFunc .nilFunc).run Tryz.prog w = .ok (.bool false) w := by
  simp only [binOp]
  simp [show (Op.equal 78 .nilFunc .nilFunc).run Tryz.prog w = .ok true w from eqIn_nil 9999 w, Result.andThen]
theorem neq_fn (w : World) (f : Fn) (a b : Array Value) : (binOp .neq 78 (.func f a b) .nilFunc).run Tryz.prog w = .ok (.bool true) w := by
  simp only [binOp]
  simp [show (Op.equal 78 (.func f a b) .nilFunc).run Tryz.prog w = .ok false w from eqIn_fn 9999 w f a b, Result.andThen]
theorem checkB_word {wl : List CW} (h : checkB (wl.map tw) = true) {i : Nat} (hi : i < wl.length) : L13.wordB (tw wl[i]) = true := by
  simp only [checkB, Bool.and_eq_true, List.all_eq_true] at h
  exact h.2.1 _ (List.mem_map_of_mem (List.getElem_mem hi))

set_option maxRecDepth 100000 in
set_option maxHeartbeats 8000000 in
theorem kinds_any (J : Job) (O : J.Ok) (F : Nat → Prop) (w : World) (h : J.At F w) (i : Nat) (hi : i < J.wl.length) :
    Calls Tryz.prog 41 #[J.val, .int .i64 i] w fun e w' => ∃ F', J.Ask F w F' w' ∧
      ∃ b n, e = .returned (.map (some b)) ∧ w.heap.size ≤ b ∧ ¬ F' b ∧ n ≤ 1000000 ∧ MapK w' b n (tgtF (tw J.wl[i]) (J.ps J.wl[i]) (endK J.m i)) := by
  obtain ⟨W1, hW1⟩ : ∃ W1, W1 = w.alloc (.cells #[.slice J.WA J.m J.d, J.fn] 81) := ⟨_, rfl⟩
  have x1 : Ext w W1 := by rw [hW1]; exact (Ext.refl _).alloc _
  have KP := Lib.hid (show Blk W1 w.heap.size 81 J.cells by rw [hW1]; exact Blk.lit _ _ _ _ rfl)
  have SZ1 := Lib.hid (show W1.heap.size = w.heap.size + 1 by rw [hW1]; simp)
  have A1 := Lib.hid (h.ext x1)
  have X1 := Lib.hid x1
  have HB := Lib.hid (show J.B < w.heap.size from h.trie.lt)
  have H0 := Lib.hid (show J.w0.heap.size ≤ w.heap.size from h.but.size)
  have HN := Lib.hid (show J.parted = true → J.bt < w.heap.size ∧ J.bb < w.heap.size ∧ J.bl < w.heap.size from fun p => ⟨(h.fn p).1.lt, (h.fn p).2.1.lt, (h.fn p).2.2.lt⟩)
  have HW1 := Lib.hid hW1
  have hm := O.hm
  have hmd := O.md
  have hdm := O.dm
  have him : (i : Int) < (J.m : Int) := by omega
  have him0 : i < J.m := by omega
  have hm64 : (J.m : Int) ≤ 9223372036854775807 := by unfold maxLen at hdm; omega
  have SEEN := Lib.hid (fun (G : Nat → Prop) (W : World) (a : J.At G W) => (a.args O).words.get hi)
  have XOK := Lib.hid (O.wok J.wl[i] (List.getElem_mem hi))
  have WP := Lib.hid (word_parts (checkB_word O.chk hi))
  have HPS := Lib.hid (show J.ps J.wl[i] = if J.parted = true ∧ J.wl[i].ss = [] then pointsL J.p (J.l.map tn) J.wl[i].cs (J.L.v 7) (J.L.v 8) else [] from rfl)
  have LPS := Lib.hid (show ∀ u, (pointsL J.p (J.l.map tn) u (J.L.v 7) (J.L.v 8)).length ≤ 900100 from fun u => pts_len fun y hy => by
    obtain ⟨z, hz, rfl⟩ := List.mem_map.1 hy
    exact (O.exc z hz).2)
  have IPS := Lib.hid (fun (u : List Int) (v : Int) (hv : v ∈ pointsL J.p (J.l.map tn) u (J.L.v 7) (J.L.v 8)) => pts_in O.may hv)
  generalize J.wl[i] = x at *
  have HE := Lib.hid (show ∀ ps, ps = J.ps x → ∀ y, y = endK J.m i → y = if i + 1 = J.m then 5 else 1 from fun _ _ _ h => h)
  obtain ⟨b0, hb0⟩ : ∃ b0, w.heap.size = b0 := ⟨_, rfl⟩
  rw [hb0] at KP SZ1 HB H0 HN
  have HB0 := Lib.hid hb0
  have HO := Lib.hid O
  obtain ⟨fn, hfn⟩ : ∃ fn, fn = J.fn := ⟨_, rfl⟩
  have FN := Lib.hid hfn
  unfold Job.val
  rw [← hfn] at HW1 ⊢
  clear hW1 x1 hb0 O h hfn hm hmd hdm hi
  go_enter Tryz.func41, Tryz.ntmps41
  go_upto_region 1 with (fail)
  rw [← HW1.out]
  rw [HB0.out]
  clear HW1
  obtain ⟨⟨ad, eA, c0, c1⟩, s1, s2⟩ := SEEN.out F W1 A1.out
  have p0 : W1.cell? ⟨b0, 0, none⟩ = some (.slice J.WA J.m J.d) := KP.out.cell 0
  rw [eA] at p0
  clear s1 s2
  have hmm := @run_makeMap Tryz.prog
  obtain ⟨W2, hW2⟩ : ∃ W2, W2 = (W1.alloc (.map #[] 0)).alloc (.cells #[.slice x.A x.cs.length x.c, .slice x.B x.ss.length x.d] 50) := ⟨_, rfl⟩
  have x2 : Ext W1 W2 := by rw [hW2]; exact ((Ext.refl _).alloc _).alloc _
  have KM := Lib.hid (show MapK W2 (b0 + 1) 0 (fun _ => none) by rw [hW2, ← SZ1.out]; exact (MapK.made W1).ext ((Ext.refl _).alloc _))
  have KW := Lib.hid (show Blk W2 (b0 + 1 + 1) 50 [.slice x.A x.cs.length x.c, .slice x.B x.ss.length x.d] by rw [hW2, ← SZ1.out]; exact Blk.lit _ _ _ _ (by simp))
  have HW2 := Lib.hid hW2
  have KP2 := Lib.hid (KP.out.ext x2)
  have Q2 := Lib.hid (show J.Ask F w F W2 from ⟨A1.out.ext x2, But.of_ext (X1.out.trans x2), fun _ => Or.inl⟩)
  have OWN := Lib.hid (show ¬ F (b0 + 1) from A1.out.new (by rw [SZ1.out]; exact Nat.le_refl _))
  have CC := Lib.hid (show KC J w b0 (b0 + 1 + 1) (b0 + 1) from ⟨by rw [HB0.out]; exact H0.out, by rw [HB0.out]; omega, by omega, by omega, by have := HB.out; omega, fun p => by have := HN.out p; omega⟩)
  have NB := Lib.hid (show b0 ≠ J.B ∧ b0 + 1 + 1 ≠ J.B by have := HB.out; omega)
  have SZ := SZ1.out
  clear hW2 x2 KP A1 X1 HB H0 HN HB0 SZ1
  go_upto_region 2 with (fail)
  rw [← HW2.out]
  clear HW2 hmm c0 c1 p0 SZ eA
  have K0 := Lib.hid (show InK J F w x b0 (b0 + 1 + 1) (b0 + 1) F 0 (fun _ => none) W2 from ⟨Q2.out, OWN.out, KP2.out, KW.out, KM.out⟩)
  have HGE := Lib.hid (show w.heap.size ≤ b0 + 1 from CC.out.ge)
  clear Q2 OWN KP2 KW KM
  generalize hbw : b0 + 1 + 1 = bw at *
  clear hbw
  generalize hbm : b0 + 1 = bm at *
  clear hbm
  obtain ⟨ps, hps⟩ : ∃ ps, ps = J.ps x := ⟨_, rfl⟩
  have hpl : ps.length ≤ 900100 := by
    rw [hps, HPS.out]
    split
    · exact LPS.out _
    · simp
  have PIN := Lib.hid (show ∀ v ∈ ps, 0 ≤ v ∧ v ≤ x.cs.length from fun v hv => by
    rw [hps, HPS.out] at hv
    split at hv
    · exact IPS.out _ v hv
    · simp at hv)
  obtain ⟨bb, hbb⟩ : ∃ bb : Bool, bb = (J.parted && decide (x.ss = [])) := ⟨_, rfl⟩
  have BB := Lib.hid hbb
  have HP := Lib.hid hps
  have hl60 : x.cs.length ≤ 60 := WP.out.2.1
  have hl1 : 1 ≤ x.cs.length := WP.out.1
  have sl60 : x.ss.length ≤ 60 := WP.out.2.2.2
  have hr1 := XOK.out.room1
  have hr2 := XOK.out.most1
  generalize hxA : x.A = xA at *
  generalize hxB : x.B = xB at *
  have HXA := Lib.hid hxA
  have HXB := Lib.hid hxB
  clear hxA hxB
  have p1 : W2.cell? ⟨b0, 1, none⟩ = some fn := by rw [FN.out]; exact K0.out.par.cell 1
  have q1 : W2.cell? ⟨bw, 1, none⟩ = some (.slice xB x.ss.length x.d) := by rw [← HXB.out]; exact K0.out.word.cell 1
  clear hbb hps LPS IPS
  go_cut [27] from 19 to 27 (fun s wx => s = .bool bb ∧ wx = W2)
  case first =>
    cases hp : J.parted with
    | false =>
      have ef : fn = .nilFunc := by rw [FN.out, Job.fn, hp]; rfl
      subst ef
      have eb : bb = false := by rw [BB.out, hp]; rfl
      subst eb
      have nq := neq_nil W2
      go_wp2_with fail
      go_meet
      case rel => exact ⟨rfl, rfl⟩
    | true =>
      have ef : fn = .func (.func 29) #[] #[.pointer (some ⟨J.bt, 0, none⟩), .pointer (some ⟨J.bb, 0, none⟩), .pointer (some ⟨J.bl, 0, none⟩)] := by rw [FN.out, Job.fn, hp]; rfl
      subst ef
      have nq := neq_fn W2 (.func 29) #[] #[.pointer (some ⟨J.bt, 0, none⟩), .pointer (some ⟨J.bb, 0, none⟩), .pointer (some ⟨J.bl, 0, none⟩)]
      by_cases hs : x.ss = []
      · have eb : bb = true := by rw [BB.out, hp, hs]; rfl
        subst eb
        have l0 : x.ss.length = 0 := by rw [hs]; rfl
        have l1 : ((x.ss.length : Int) == 0) = true := by rw [l0]; rfl
        go_wp2_with fail
        go_meet
        case rel => exact ⟨rfl, rfl⟩
      · have eb : bb = false := by rw [BB.out, hp]; simp [hs]
        subst eb
        have l0 : ¬ x.ss.length = 0 := fun h => hs (List.length_eq_zero_iff.1 h)
        have l1 : ((x.ss.length : Int) == 0) = false := by simpa using l0
        go_wp2_with fail
        go_meet
        case rel => exact ⟨rfl, rfl⟩
  case rest =>
  obtain ⟨rfl, rfl⟩ := hcut
  go_upto_if 27 with fail
  go_cut [] from 7 to 43 (fun wx => ∃ F', Hid (InK J F w x b0 bw bm F' ps.length (fP ps ps.length) wx))
  case first =>
    cases bb with
    | false =>
      have ep : ps = [] := by
        rw [HP.out, HPS.out]
        refine if_neg fun h => ?_
        have := BB.out
        rw [h.1, h.2] at this
        exact absurd this (by decide)
      subst ep
      go_wp2_with fail
      go_meet
      case rel => exact ⟨F, Lib.hid (K0.out.congr fun y => fP_zero _ y)⟩
    | true =>
      have hb2 := BB.out
      simp only [Bool.true_eq, Bool.and_eq_true, decide_eq_true_eq] at hb2
      have hp : J.parted = true := hb2.1
      have hs : x.ss = [] := hb2.2
      have ep : ps = pointsL J.p (J.l.map tn) x.cs (J.L.v 7) (J.L.v 8) := by rw [HP.out, HPS.out, if_pos ⟨hp, hs⟩]
      have ef : fn = .func (.func 29) #[] #[.pointer (some ⟨J.bt, 0, none⟩), .pointer (some ⟨J.bb, 0, none⟩), .pointer (some ⟨J.bl, 0, none⟩)] := by rw [FN.out, Job.fn, hp]; rfl
      have q0 : wc.cell? ⟨bw, 0, none⟩ = some (.slice xA x.cs.length x.c) := by rw [← HXA.out]; exact K0.out.word.cell 0
      have PT := pts_any J HO.out hp F wc K0.out.ask.at' xA x.cs x.cs.length x.c (SEEN.out F wc K0.out.ask.at').2.1 rfl hr1 hr2
      rw [← ep] at PT
      have PT := Lib.hid PT
      have HBM := Lib.hid (show bm < wc.heap.size from K0.out.map.lt)
      subst ef
      clear hb2 hs ep hp
      go_wp2_with fail
      refine PT.out.mono ?_
      rintro e1 W3 ⟨F3, a3, A3, c3, rfl, s3, n3⟩
      have K3 := Lib.hid (K0.out.to CC.out a3 NB.out.1 NB.out.2)
      have S3 := Lib.hid s3
      have N3 := Lib.hid n3
      clear a3 s3 n3 PT
      go_wp2_with fail
      go_loopw [34] (fun vi wx => ∃ (k : Nat), k ≤ ps.length ∧ vi = .int .i64 k ∧ Hid (InK J F w x b0 bw bm F3 k (fP ps k) wx) ∧ Hid (SeenL wx A3 ps)) (fun vi _ => ps.length - (intOf vi).toNat)
      case atStart => exact ⟨0, Nat.zero_le _, rfl, Lib.hid (K3.out.congr fun y => fP_zero _ y), S3⟩
      case round =>
        obtain ⟨k, hk, rfl, HK, HS⟩ := hrel
        by_cases hlt : k < ps.length
        · have hlt64 : (k : Int) < (ps.length : Int) := by omega
          obtain ⟨ad3, rfl, g0⟩ := HS.out.get hlt
          have hv := PIN.out (ps.getD k 0) (by rw [getD_at hlt]; exact List.getElem_mem hlt)
          obtain ⟨W5, hst, h5, b5⟩ := HK.out.store HO.out CC.out (by omega) (ps.getD k 0) 2 ⟨by omega, by omega⟩ ⟨by decide, by decide⟩ (f' := fP ps (k + 1)) (fun z => by rw [getD_at hlt]; exact fP_succ hlt z)
          have S5 := Lib.hid (seenL_but HS.out b5.out (fun ad e => by cases e; have := N3.out ad3 rfl; have := HBM.out; omega))
          clear b5 hv
          generalize ps.getD k 0 = pv at *
          go_wp2_with fail
          go_roundw
          case rel => exact ⟨k + 1, by omega, by go_num, h5, S5⟩
          case measure => simp [intOf]; omega
        · obtain rfl : k = ps.length := by omega
          go_wp2_with fail
          go_meet
          case rel => exact ⟨F3, HK⟩
  case rest =>
  obtain ⟨F', HK⟩ := hcut
  clear p1 q1 K0 BB
  have q0 : wc.cell? ⟨bw, 0, none⟩ = some (.slice xA x.cs.length x.c) := by rw [← HXA.out]; exact HK.out.word.cell 0
  go_wp2_with fail
  go_loopw [44] (fun vi wx => ∃ (k n : Nat), k ≤ x.cs.length ∧ n ≤ ps.length + k ∧ vi = .int .i64 k ∧ Hid (InK J F w x b0 bw bm F' n (fD x.cs (fP ps ps.length) k) wx)) (fun vi _ => x.cs.length - (intOf vi).toNat)
  case atStart => exact ⟨0, ps.length, Nat.zero_le _, Nat.le_refl _, rfl, Lib.hid (HK.out.congr fun y => fD_zero _ _ y)⟩
  case round =>
    clear HK q0
    obtain ⟨k, n, hk, hn, rfl, HK⟩ := hrel
    by_cases hlt : k < x.cs.length
    · have hlt64 : (k : Int) < (x.cs.length : Int) := by omega
      obtain ⟨ad4, rfl, g0⟩ := (SEEN.out F' wr HK.out.ask.at').2.1.get hlt
      by_cases h45 : x.cs.getD k 0 = 45
      · rw [h45] at g0
        obtain ⟨W5, hst, h5, b5⟩ := HK.out.store HO.out CC.out (by omega) ((k : Int) + 1) 4 ⟨by omega, by omega⟩ ⟨by decide, by decide⟩ (f' := fD x.cs (fP ps ps.length) (k + 1)) (fun z => fD_dash hlt (by rw [← getD_at hlt]; exact h45) z)
        clear b5
        go_wp2_with fail
        go_roundw
        case rel => exact ⟨k + 1, n + 1, by omega, by omega, by go_num, h5⟩
        case measure => simp [intOf]; omega
      · have h5 := Lib.hid (HK.out.congr (f' := fD x.cs (fP ps ps.length) (k + 1)) fun z => fD_not hlt (by rw [← getD_at hlt]; exact h45) z)
        generalize x.cs.getD k 0 = pv at *
        have k45 : (pv == 45) = false := by simpa using h45
        go_wp2_with fail
        go_roundw
        case rel => exact ⟨k + 1, n, by omega, by omega, by go_num, h5⟩
        case measure => simp [intOf]; omega
    · obtain rfl : k = x.cs.length := by omega
      have q1 : wr.cell? ⟨bw, 1, none⟩ = some (.slice xB x.ss.length x.d) := by rw [← HXB.out]; exact HK.out.word.cell 1
      go_wp2_with fail
      go_loopw [58] (fun vi wx => ∃ (k n : Nat), k ≤ x.ss.length ∧ n ≤ ps.length + x.cs.length + k ∧ vi = .int .i64 k ∧ Hid (InK J F w x b0 bw bm F' n (fS x.ss (fD x.cs (fP ps ps.length) x.cs.length) k) wx)) (fun vi _ => x.ss.length - (intOf vi).toNat)
      case atStart => exact ⟨0, n, Nat.zero_le _, hn, rfl, Lib.hid (HK.out.congr fun y => fS_zero _ _ y)⟩
      case round =>
        clear HK q1 hlt hk hn
        obtain ⟨k, n, hk, hn, rfl, HK⟩ := hrel
        by_cases hlt : k < x.ss.length
        · have hlt64 : (k : Int) < (x.ss.length : Int) := by omega
          obtain ⟨ad5, rfl, g0⟩ := (SEEN.out F' wr HK.out.ask.at').2.2.get hlt
          have hv := WP.out.2.2.1 (x.ss.getD k 0) (by rw [getD_at hlt]; exact List.getElem_mem hlt)
          have hv2 : x.ss.getD k 0 < (x.cs.length : Int) := hv.2
          obtain ⟨W5, hst, h5, b5⟩ := HK.out.store HO.out CC.out (by omega) (x.ss.getD k 0) 3 ⟨by omega, by omega⟩ ⟨by decide, by decide⟩ (f' := fS x.ss (fD x.cs (fP ps ps.length) x.cs.length) (k + 1)) (fun z => by rw [getD_at hlt]; exact fS_succ hlt z)
          clear b5 hv hv2
          generalize x.ss.getD k 0 = pv at *
          go_wp2_with fail
          go_roundw
          case rel => exact ⟨k + 1, n + 1, by omega, by omega, by go_num, h5⟩
          case measure => simp [intOf]; omega
        · obtain rfl : k = x.ss.length := by omega
          obtain ⟨W5, hdel, m5, b5⟩ := HK.out.map.drop 0 ⟨by decide, by decide⟩ 0
          have K5 := Lib.hid (HK.out.put HO.out CC.out m5 b5)
          clear m5 b5
          obtain ⟨W6, hst6, K6, b6⟩ := K5.out.store HO.out CC.out (by omega) (x.cs.length : Int) 1 ⟨by omega, by omega⟩ ⟨by decide, by decide⟩ (fun z => rfl)
          have q5 : W5.cell? ⟨bw, 0, none⟩ = some (.slice xA x.cs.length x.c) := by rw [← HXA.out]; exact K5.out.word.cell 0
          have p6 : W6.cell? ⟨b0, 0, none⟩ = some (.slice J.WA J.m J.d) := K6.out.par.cell 0
          have q6 : W6.cell? ⟨bw, 0, none⟩ = some (.slice xA x.cs.length x.c) := by rw [← HXA.out]; exact K6.out.word.cell 0
          have wl1 : IntKind.i64.wrap ((J.m : Int) - 1) = (J.m : Int) - 1 := IntWalk.i64_in _ (by omega)
          clear b6
          by_cases he : i + 1 = J.m
          · obtain ⟨W7, hst7, K7, b7⟩ := K6.out.store HO.out CC.out (by omega) (x.cs.length : Int) 5 ⟨by omega, by omega⟩ ⟨by decide, by decide⟩ (fun z => rfl)
            clear b7
            have e1 : ((i : Int) == (J.m : Int) - 1) = true := by simp; omega
            have FIN := Lib.hid (show ∃ F', J.Ask F w F' W7 ∧ ∃ b n, Ending.returned (.map (some bm)) = .returned (.map (some b)) ∧ w.heap.size ≤ b ∧ ¬ F' b ∧ n ≤ 1000000 ∧ MapK W7 b n (tgtF (tw x) (J.ps x) (endK J.m i)) from
              ⟨F', K7.out.ask, bm, _, rfl, HGE.out, K7.out.own, by omega, K7.out.map.congr fun z => by
                rw [tgt_eq _ WP.out.2.2.1 (by rw [← HP.out]; exact PIN.out), ← HP.out, show endK J.m i = 5 from if_pos he, show ((tw x).1.length : Int) = (x.cs.length : Int) from rfl]
                by_cases hz : z = x.cs.length
                · rw [if_pos hz, if_pos hz]
                · rw [if_neg hz, if_neg hz, if_neg hz]; rfl⟩)
            clear K5 K6 K7 HK hlt hk hn
            go_wp2_with fail
            go_ret
            exact FIN.out
          · have e1 : ((i : Int) == (J.m : Int) - 1) = false := by simp; omega
            have FIN := Lib.hid (show ∃ F', J.Ask F w F' W6 ∧ ∃ b n, Ending.returned (.map (some bm)) = .returned (.map (some b)) ∧ w.heap.size ≤ b ∧ ¬ F' b ∧ n ≤ 1000000 ∧ MapK W6 b n (tgtF (tw x) (J.ps x) (endK J.m i)) from
              ⟨F', K6.out.ask, bm, _, rfl, HGE.out, K6.out.own, by omega, K6.out.map.congr fun z => by
                rw [tgt_eq _ WP.out.2.2.1 (by rw [← HP.out]; exact PIN.out), ← HP.out, show endK J.m i = 1 from if_neg he, show ((tw x).1.length : Int) = (x.cs.length : Int) from rfl]
                by_cases hz : z = x.cs.length
                · rw [if_pos hz, if_pos hz]
                · rw [if_neg hz, if_neg hz]; rfl⟩)
            clear K5 K6 HK hlt hk hn
            go_wp2_with fail
            go_ret
            exact FIN.out
end L16
end Go.Proofs.YtmmgmcfhlhghoaaGreatDoor

