/- The landed take: lines of a text, up to the first one that is none. Written by gen14/take.py. -/
import Derived.Test.YteflkagilhmeiaaDoorTake14
import Derived.Test.YteflkagilhmeiaaDoorResults
import Derived.Deep.CutBlock
import Derived.Deep.DeepCutAuto
import Derived.WalkMore
import Derived.ScopeJumps
namespace Go.Proofs.YteflkagilhmeiaaDoor
open Go.RowKit Go.Lib
namespace L14
open L11

/-- What take answers. -/
def TakeQ (w : World) (s : List UInt8) (e : Ending) (w' : World) : Prop := ∃ (L : LayD) (A : Option Addr) (c : Nat) (r : ByteArray), e = .returned (.tuple #[.agg (layC L A c).toArray, .string r]) ∧ LayOk L c ∧ SeenP w' A L.n L.sh ∧ (∀ ad, A = some ad → w.heap.size ≤ ad.block) ∧ Ext w w' ∧ match takeT (s.length + 1) L0 (fun _ => 0) s with
  | none => r.size ≠ 0
  | some (L1, tk) => r = ByteArray.empty ∧ L = ⟨L1.v, tk 2, L1.sh⟩ ∧ tk 2 ≤ 40

/-- How long a text is. -/
def strOf (v : Value) : Nat := match v with
  | .string r => r.size
  | _ => 0
theorem rg14 {f : FuncId} {args : Array Value} {w : World} {d : Nat} {os : Array Obj} {v : Value} (h : Calls Tryd.prog f args (Sort.grow (redrawn w d) os) (Ret (Sort.grow (redrawn w d) os) v)) :
    Calls Tryd.prog f args (Sort.grow (redrawn w d) os) fun e w'' => e = .returned v ∧ ∃ p : Regrown, w'' = Sort.grow (redrawn w p.d) p.os := Calls.regrown_of h
/-- How the loop over lines is left. -/
def OutT (tt : Option (LayD × (Nat → Nat))) (r : ByteArray) (L : LayD) (tk : Nat → Nat) : Prop := match tt with
  | none => r.size ≠ 0
  | some (L1, tk1) => r = ByteArray.empty ∧ L1 = L ∧ tk1 = tk
theorem lay_info : (Tryd.prog.info? 24).map (·.size) = some 21 := by kernel_rfl
theorem rowP_far {b g n : Nat} {d : Nat → Int × Int} (hb : b ≠ g) : ∀ (vs : List Value) (o : Nat) (w : World), RowP w g n d → RowP (w.setCells b o vs) g n d
  | [], _, _, h => h
  | v :: r, o, _, h => rowP_far hb r (o + 1) _ (h.other (p := ⟨b, o, none⟩) hb v)
theorem size_setCells (b : Nat) : ∀ (vs : List Value) (o : Nat) (w : World), (w.setCells b o vs).heap.size = w.heap.size
  | [], _, _ => rfl
  | v :: r, o, w => by
    show ((w.setCell ⟨b, o, none⟩ v).setCells b (o + 1) r).heap.size = _
    rw [size_setCells b r]; simp [World.setCell]
-- WALK
set_option maxRecDepth 100000 in
set_option maxHeartbeats 8000000 in
theorem take_any (s : ByteArray) (w : World) (hs : s.size ≤ 900000) (hH : Home w) : Calls Tryd.prog 18 #[.string s] w (TakeQ w s.data.toList) := by
  have hmm := @run_makeMap Tryd.prog
  obtain ⟨cs, mk0, row0⟩ := make_pairs Tryd.prog 22 41 40 Tryd.underlying22 line_info (by decide)
  have mk : ∀ w, (Instr.makeSlice 22 (.int .i64 40) (.int .i64 40)).run Tryd.prog w = .ok (.slice (some ⟨w.heap.size, 0, none⟩) 40 40) (w.alloc (.cells cs 41)) := mk0
  have ROW := Lib.hid row0
  have HH := Lib.hid hH
  clear row0 hH mk0
  obtain ⟨WA, hWA⟩ : ∃ WA, WA = ((w.alloc (.cells #[.int .i64 0, .int .i64 0, .int .i64 0, .int .i64 0, .slice none 0 0, .int .i64 0, .int .i64 0, .int .i64 0, .int .i64 0, .int .i64 0, .int .i64 0, .int .i64 0, .int .i64 0, .int .i64 0, .int .i64 0, .int .i64 0, .int .i64 0, .int .i64 0, .int .i64 0, .int .i64 0, .int .i64 0] 24)).alloc (.cells cs 41)).alloc (.cells #[.int .i64 0, .int .i64 0, .int .i64 0, .int .i64 0, .slice none 0 0, .int .i64 0, .int .i64 0, .int .i64 0, .int .i64 0, .int .i64 0, .int .i64 0, .int .i64 0, .int .i64 0, .int .i64 0, .int .i64 0, .int .i64 0, .int .i64 0, .int .i64 0, .int .i64 0, .int .i64 0, .int .i64 0] 24) := ⟨_, rfl⟩
  have TH : Hid (WA.there (w.heap.size + 1 + 1) 0 21) := by rw [hWA]; exact Blk.there (Blk.lit _ (w.heap.size + 1 + 1) 24 #[.int .i64 0, .int .i64 0, .int .i64 0, .int .i64 0, .slice none 0 0, .int .i64 0, .int .i64 0, .int .i64 0, .int .i64 0, .int .i64 0, .int .i64 0, .int .i64 0, .int .i64 0, .int .i64 0, .int .i64 0, .int .i64 0, .int .i64 0, .int .i64 0, .int .i64 0, .int .i64 0, .int .i64 0] (by simp))
  go_enter Tryd.func18, Tryd.ntmps18
  go_wp2_with fail
  go_step3
  go_wp2_with (refine wpList_store_mid rfl 24 _ _ rfl _ 0 _ rfl rfl ?_ ?_ ?_ ?_)
  case refine_1 => rw [← hWA]; exact TH.out
  case refine_2 => exact lay_info
  case refine_3 => exact all_oneCell_toArray (cs := layC L0 (some ⟨w.heap.size + 1, 0, none⟩) 40) (layC_one _ _ _)
  rw [← hWA]
  obtain ⟨W1, hW1⟩ : ∃ W1, W1 = WA.setCells (w.heap.size + 1 + 1) 0 [.int .i64 0, .int .i64 0, .int .i64 0, .int .i64 0, .slice (some ⟨w.heap.size + 1, 0, none⟩) 40 40, .int .i64 0, .int .i64 0, .int .i64 0, .int .i64 0, .int .i64 0, .int .i64 0, .int .i64 0, .int .i64 0, .int .i64 0, .int .i64 0, .int .i64 0, .int .i64 0, .int .i64 0, .int .i64 0, .int .i64 0, .int .i64 0] := ⟨_, rfl⟩
  have k2 : Blk W1 w.heap.size 24 [.int .i64 0, .int .i64 0, .int .i64 0, .int .i64 0, .slice none 0 0, .int .i64 0, .int .i64 0, .int .i64 0, .int .i64 0, .int .i64 0, .int .i64 0, .int .i64 0, .int .i64 0, .int .i64 0, .int .i64 0, .int .i64 0, .int .i64 0, .int .i64 0, .int .i64 0, .int .i64 0, .int .i64 0] := by
    rw [hW1]; exact blk_setFar (by omega) _ _ _ (by rw [hWA]; exact ((Blk.lit _ _ _ _ rfl).ext ((Ext.refl _).alloc _)).ext ((Ext.refl _).alloc _))
  have k4 : Blk W1 (w.heap.size + 1 + 1) 24 (layC L0 (some ⟨w.heap.size + 1, 0, none⟩) 40) := by
    rw [hW1]; exact blk_setCells (cs := [.int .i64 0, .int .i64 0, .int .i64 0, .int .i64 0, .slice none 0 0, .int .i64 0, .int .i64 0, .int .i64 0, .int .i64 0, .int .i64 0, .int .i64 0, .int .i64 0, .int .i64 0, .int .i64 0, .int .i64 0, .int .i64 0, .int .i64 0, .int .i64 0, .int .i64 0, .int .i64 0, .int .i64 0]) (by rw [hWA]; exact Blk.lit _ _ _ _ (by simp)) _ rfl
  have x1 : Ext w W1 := by rw [hW1]; exact ext_setCells (by omega) _ _ _ (by rw [hWA]; exact (((Ext.refl w).alloc _).alloc _).alloc _)
  have r1 : RowP W1 (w.heap.size + 1) 40 L0.sh := by
    rw [hW1]
    refine rowP_far (by omega) _ _ _ ?_
    rw [hWA]
    have := ROW.out (w.alloc (.cells #[.int .i64 0, .int .i64 0, .int .i64 0, .int .i64 0, .slice none 0 0, .int .i64 0, .int .i64 0, .int .i64 0, .int .i64 0, .int .i64 0, .int .i64 0, .int .i64 0, .int .i64 0, .int .i64 0, .int .i64 0, .int .i64 0, .int .i64 0, .int .i64 0, .int .i64 0, .int .i64 0, .int .i64 0] 24))
    rw [World.size_alloc] at this
    exact this.ext ((Ext.refl _).alloc _)
  have hz1 : W1.heap.size = w.heap.size + 1 + 1 + 1 := by rw [hW1, size_setCells, hWA]; simp
  rw [← hW1]
  refine (kinds_any W1).mono ?_
  rintro e w2 ⟨rfl, KA, x2⟩
  obtain ⟨W3, hW3⟩ : ∃ W3, W3 = w2.alloc (.map #[] 0) := ⟨_, rfl⟩
  have x3 : Ext w2 W3 := by rw [hW3]; exact (Ext.refl _).alloc _
  have TM : TookAt W3 w2.heap.size 0 (fun _ => 0) := by rw [hW3]; exact TookAt.made _
  have hkm := KA.map.lt
  have K2 := Lib.hid (k2.ext (x2.trans x3))
  have TK := Lib.hid (show Tk w W3 (w.heap.size + 1 + 1) (w.heap.size + 1) W1.heap.size w2.heap.size L0 (fun _ => 0) 0 from
    ⟨x1.trans (x2.trans x3), k4.ext (x2.trans x3), r1.ext (x2.trans x3), KA.ext x3, TM, rfl, ⟨fun _ => wide0, fun _ => ⟨wide0, wide0⟩⟩, fun j _ => Nat.zero_le _⟩)
  clear k2 k4 r1 x1 x2 x3 KA TM hW1 hWA TH ROW mk
  rw [hz1] at *
  generalize hkm' : w2.heap.size = tm at *
  have hw2 := Lib.hid (show w.heap.size = w.heap.size from rfl)
  generalize hbs : w.heap.size + 1 = bs at *
  generalize hb4 : bs + 1 = b4 at *
  generalize hkm2 : b4 + 1 = km at *
  generalize hg2 : w.heap.size = r2 at *
  have HT0 := Lib.hid (show ∃ tt, tt = takeT (s.data.toList.length + 1) L0 (fun _ => 0) s.data.toList from ⟨_, rfl⟩)
  obtain ⟨tt, htt⟩ := HT0.out
  have HTT := Lib.hid htt
  clear HT0 htt hw2
  go_wp2_with fail
  go_step3
  go_upto_block 0 with (fail)
  rw [← hW3]
  clear hW3
  go_cut [0] from 7 to 98 (fun tv wx => ∃ (L : LayD) (tk : Nat → Nat) (n : Nat) (r : ByteArray), tv = .string r ∧ Hid (Tk w wx b4 bs km tm L tk n) ∧ Hid (Blk wx r2 24 [.int .i64 0, .int .i64 0, .int .i64 0, .int .i64 0, .slice none 0 0, .int .i64 0, .int .i64 0, .int .i64 0, .int .i64 0, .int .i64 0, .int .i64 0, .int .i64 0, .int .i64 0, .int .i64 0, .int .i64 0, .int .i64 0, .int .i64 0, .int .i64 0, .int .i64 0, .int .i64 0, .int .i64 0]) ∧ Hid (OutT tt r L tk))
  case first =>
    go_wp2_with fail
    go_loopw [0] (fun tv wr => ∃ (L : LayD) (tk : Nat → Nat) (n f : Nat) (r : ByteArray), tv = .string r ∧ n + r.size ≤ 900000 ∧ r.size < f ∧ Hid (Tk w wr b4 bs km tm L tk n) ∧ Hid (Blk wr r2 24 [.int .i64 0, .int .i64 0, .int .i64 0, .int .i64 0, .slice none 0 0, .int .i64 0, .int .i64 0, .int .i64 0, .int .i64 0, .int .i64 0, .int .i64 0, .int .i64 0, .int .i64 0, .int .i64 0, .int .i64 0, .int .i64 0, .int .i64 0, .int .i64 0, .int .i64 0, .int .i64 0, .int .i64 0]) ∧ Hid (tt = takeT f L tk r.data.toList)) (fun tv _ => strOf tv)
    case atStart => exact ⟨L0, fun _ => 0, 0, s.data.toList.length + 1, s, rfl, by omega, by show s.data.size < s.data.toList.length + 1; simp, TK, K2, HTT⟩
    case round =>
      obtain ⟨L, tk, n, f, r, rfl, hn, hf, hT, hR, hS⟩ := hrel
      obtain ⟨f, rfl⟩ : ∃ g, f = g + 1 := ⟨f - 1, by omega⟩
      by_cases h0 : r.size = 0
      · obtain rfl : r = ByteArray.empty := by
          rcases r with ⟨a⟩
          have ha : a = #[] := Array.eq_empty_of_size_eq_zero h0
          rw [ha]; rfl
        have E := Lib.hid (show OutT tt ByteArray.empty L tk by rw [hS.out, show (ByteArray.empty : ByteArray).data.toList = [] from rfl, takeT_end]; exact ⟨rfl, rfl, rfl⟩)
        go_wp2_with fail
        go_meet
        exact ⟨L, tk, n, _, rfl, hT, hR, E⟩
      · have hr1 : r.data.toList ≠ [] := fun e => h0 (by show r.data.size = 0; have := congrArg List.length e; simpa using this)
        obtain ⟨mm, hmm0⟩ := (HH.out.ext hT.out.old).most
        have C1 := Lib.hid (Tryd.strings_Cut r ⟨#[10]⟩ mm wr (by omega) hmm0)
        rw [show (⟨#[10]⟩ : ByteArray).data.toList = [10] from rfl] at C1
        have hln := cut_first r.data.toList 10
        have hbl := @cut_len r.data.toList 10
        generalize hwhole : (Lib.cut r.data.toList [10]).2.2 = wo at C1 hbl
        generalize hline : (Lib.cut r.data.toList [10]).1 = ln at C1 hln hbl
        generalize hbeh : (Lib.cut r.data.toList [10]).2.1 = bh at C1 hbl
        have HW := Lib.hid hwhole
        have HL := Lib.hid hline
        have HB := Lib.hid hbeh
        clear hwhole hline hbeh
        have hrs : r.data.toList.length = r.size := by simp
        have hre : r.toList.isEmpty = false := by rw [ByteArray.toList_eq]; cases hq : r.data.toList with | nil => exact absurd hq hr1 | cons _ _ => rfl
        rw [hrs] at hln hbl
        have hls : (⟨ln.toArray⟩ : ByteArray).size ≤ 900000 := by show ln.toArray.size ≤ _; rw [List.size_toArray]; omega
        go_wp2_with fail
        refine C1.out.mono ?_
        rintro e w4 ⟨rfl, n1, rfl⟩
        have C2 := Lib.hid (Tryd.strings_Cut ⟨ln.toArray⟩ ⟨#[32]⟩ mm (wr.drewN n1) (by omega) (((Ext.refl wr).drewN n1).at hmm0))
        rw [show (⟨#[32]⟩ : ByteArray).data.toList = [32] from rfl, show (⟨ln.toArray⟩ : ByteArray).data.toList = ln from rfl] at C2
        generalize hw2' : (Lib.cut ln [32]).2.2 = wo2 at C2
        have hnl := cut_first ln 32
        generalize hnm : (Lib.cut ln [32]).1 = nl at C2 hnl
        generalize (Lib.cut ln [32]).2.1 = bh2 at C2
        have HN := Lib.hid hnm
        clear hnm hw2'
        have hns : (⟨nl.toArray⟩ : ByteArray).size ≤ 1000000 := by show nl.toArray.size ≤ _; rw [List.size_toArray]; omega
        generalize hnb : (⟨nl.toArray⟩ : ByteArray) = nm at C2 hns
        have HNB := Lib.hid hnb
        clear hnb
        go_wp2_with fail
        refine C2.out.mono ?_
        rintro e w5 ⟨rfl, n2, rfl⟩
        obtain ⟨wx, hwx⟩ : ∃ wx, wx = (wr.drewN n1).drewN n2 := ⟨_, rfl⟩
        have xx : Ext wr wx := by rw [hwx]; exact ((Ext.refl wr).drewN n1).drewN n2
        have T5 := hT.out.ext xx
        have R5 := hR.out.ext xx
        have LK := T5.kinds.look nm hns
        rw [← hwx]
        clear hT hR hwx xx C1 C2 hmm0
        cases hj : nameJ nm with
        | none =>
          have LK1 : (Instr.lookup 57 (.map (some km)) (.string nm) true).run Tryd.prog wx = .ok (.tuple #[.agg #[.nilFunc, .nilFunc], .bool false]) wx := by rw [LK, hj]; rfl
          clear LK
          have hjj := Lib.hid hj
          clear hj
          obtain ⟨wk, hwk⟩ : ∃ wk, wk = wx.alloc (.cells #[.nilFunc, .nilFunc] 63) := ⟨_, rfl⟩
          have xk : Ext wx wk := by rw [hwk]; exact (Ext.refl _).alloc _
          have kx : Blk wk wx.heap.size 63 [.nilFunc, .nilFunc] := by rw [hwk]; exact Blk.lit _ _ _ _ rfl
          have hT := Lib.hid (T5.ext xk)
          have hR := Lib.hid (R5.ext xk)
          clear T5 R5 xk
          go_wp2_with fail
          rw [← hwk]
          clear hwk LK1
          cases wo with
          | false =>
            have E := Lib.hid (show OutT tt r L tk by rw [hS.out, takeT_bad hr1 HW.out]; exact h0)
            refine wp_region_quiet_below (by kernel_rfl) (by kernel_rfl) ?_
            repeat (go_big_quiet_step (fail))
            refine wpQuiet_nil ?_
            intro _ hw'
            obtain ⟨⟨dq, osq⟩, hw''⟩ := hw'
            subst hw''
            have x9 : Ext wk (Sort.grow (redrawn wk dq) osq) := below_regrown _ _ _
            have T9 := Lib.hid (hT.out.ext x9)
            have R9 := Lib.hid (hR.out.ext x9)
            go_wp2_with fail
            go_meet
            exact ⟨L, tk, n, _, rfl, T9, R9, E⟩
          | true =>
            have E := Lib.hid (show OutT tt r L tk by rw [hS.out, takeT_none hr1 (by rw [HL.out]; exact stepT_name (by rw [HN.out, HNB.out]; exact hjj.out))]; exact h0)
            refine wp_region_quiet_below (by kernel_rfl) (by kernel_rfl) ?_
            repeat (go_big_quiet_step (fail))
            refine wpQuiet_nil ?_
            intro _ hw'
            obtain ⟨⟨dq, osq⟩, hw''⟩ := hw'
            subst hw''
            have x9 : Ext wk (Sort.grow (redrawn wk dq) osq) := below_regrown _ _ _
            have T9 := Lib.hid (hT.out.ext x9)
            have R9 := Lib.hid (hR.out.ext x9)
            go_wp2_with fail
            go_meet
            exact ⟨L, tk, n, _, rfl, T9, R9, E⟩
        | some j =>
          have hj10' := (nameJ_eq hj).1
          by_cases j2 : j = 2
          ·
            obtain ⟨hj10, hnb⟩ := nameJ_eq hj
            have hjj := Lib.hid hj
            have LK1 : (Instr.lookup 57 (.map (some km)) (.string nm) true).run Tryd.prog wx = .ok (.tuple #[.agg #[.func (.func 30) #[] #[], .func (.func 31) #[] #[]], .bool true]) wx := by rw [LK, hj]; show Result.ok (Value.tuple #[codeV km j, .bool true]) wx = _; rw [codeV, if_neg (by omega), kindV, if_pos j2]
            clear LK
            clear hj
            subst hnb
            have J2 := Lib.hid j2
            clear j2
            obtain ⟨wk, hwk⟩ : ∃ wk, wk = wx.alloc (.cells #[.func (.func 30) #[] #[], .func (.func 31) #[] #[]] 63) := ⟨_, rfl⟩
            have xk : Ext wx wk := by rw [hwk]; exact (Ext.refl _).alloc _
            have kx : Blk wk wx.heap.size 63 [.func (.func 30) #[] #[], .func (.func 31) #[] #[]] := by rw [hwk]; exact Blk.lit _ _ _ _ rfl
            have hT := Lib.hid (T5.ext xk)
            have hR := Lib.hid (R5.ext xk)
            clear T5 R5 xk
            go_wp2_with fail
            rw [← hwk]
            clear hwk LK1
            have hmo : mostK j = 40 := by rw [J2.out]; rfl
            have MO := Lib.hid hmo
            clear hmo
            cases wo with
            | false =>
              have E := Lib.hid (show OutT tt r L tk by rw [hS.out, takeT_bad hr1 HW.out]; exact h0)
              refine wp_region_quiet_below (by kernel_rfl) (by kernel_rfl) ?_
              repeat (go_big_quiet_step (fail))
              refine wpQuiet_nil ?_
              intro _ hw'
              obtain ⟨⟨dq, osq⟩, hw''⟩ := hw'
              subst hw''
              have x9 : Ext wk (Sort.grow (redrawn wk dq) osq) := below_regrown _ _ _
              have T9 := Lib.hid (hT.out.ext x9)
              have R9 := Lib.hid (hR.out.ext x9)
              go_wp2_with fail
              go_meet
              exact ⟨L, tk, n, _, rfl, T9, R9, E⟩
            | true =>
              have hbt := hbl rfl
              have b0 := fun dd os => cell_regrown (d := dd) (os := os) (show wk.cell? ⟨wx.heap.size, 0, none⟩ = some (.func (.func 30) #[] #[]) from kx.cell 0)
              have LT := fun (dd : Nat) (os : Array Obj) => (hT.out.took.ext (below_regrown wk dd os)).look hj10
              have CN : Hid (∀ dd os, Calls Tryd.prog 30 #[.pointer (some ⟨b4, 0, none⟩)] (Sort.grow (redrawn wk dd) os) (Ret (Sort.grow (redrawn wk dd) os) (.int .i64 40))) := fun dd os => by
                have h := k3_any b4 (some ⟨bs, 0, none⟩) L.n 40 (Sort.grow (redrawn wk dd) os) ((hT.out.box.ext (below_regrown wk dd os)).cell 4)
                rw [hT.out.l40] at h
                refine h.mono ?_
                rintro e v ⟨rfl, rfl⟩
                exact ⟨rfl, Ext.refl _⟩
              by_cases hfull : tk j = 40
              · have hz : ((tk j : Int) == 40) = true := by rw [hfull]; rfl
                have E := Lib.hid (show OutT tt r L tk by rw [hS.out, takeT_none hr1 (by rw [HL.out]; exact stepT_full (by rw [HN.out, HNB.out]; exact hjj.out) (by rw [MO.out]; exact hfull))]; exact h0)
                generalize (tk j : Int) = zk at *
                clear hfull
                refine wp_region_quiet_below (by kernel_rfl) (by kernel_rfl) ?_
                repeat (go_big_quiet_step (first | (with_reducible exact rg14 (CN.out _ _))))
                refine wpQuiet_nil ?_
                intro _ hw'
                obtain ⟨⟨dq, osq⟩, hw''⟩ := hw'
                subst hw''
                have x9 : Ext wk (Sort.grow (redrawn wk dq) osq) := below_regrown _ _ _
                have T9 := Lib.hid (hT.out.ext x9)
                have R9 := Lib.hid (hR.out.ext x9)
                go_wp2_with fail
                go_meet
                exact ⟨L, tk, n, _, rfl, T9, R9, E⟩
              · have hz : ((tk j : Int) == 40) = false := by simp; omega
                have NF := Lib.hid hfull
                have hlt : tk j < mostK j := by
                  have h1 := MO.out
                  have h2 := hT.out.few j hj10
                  omega
                clear hfull
                generalize hzk : (tk j : Int) = zk at *
                have HZK := Lib.hid hzk
                clear hzk
                refine wp_region_quiet_below (by kernel_rfl) (by kernel_rfl) ?_
                repeat (go_big_quiet_step (first | (with_reducible exact rg14 (CN.out _ _))))
                refine wpQuiet_nil ?_
                intro _ hw'
                obtain ⟨⟨dq, osq⟩, hw''⟩ := hw'
                subst hw''
                obtain ⟨w7, hw7⟩ : ∃ w7, w7 = Sort.grow (redrawn wk dq) osq := ⟨_, rfl⟩
                have x7 : Ext wk w7 := by rw [hw7]; exact below_regrown _ _ _
                rw [← hw7]
                clear hw7 b0 LT CN hz
                have T7 := Lib.hid (hT.out.ext x7)
                have R7 := Lib.hid (hR.out.ext x7)
                have c1 : w7.cell? ⟨wx.heap.size, 1, none⟩ = some (.func (.func 31) #[] #[]) := (kx.ext x7).cell 1
                have LT7 := T7.out.took.look hj10
                rw [HZK.out] at LT7
                have NC := Lib.hid (show Calls Tryd.prog 31 #[.pointer (some ⟨b4, 0, none⟩), .int .i64 zk] w7 _ from HZK.out ▸ (k4_all b4 ⟨bs, 0, none⟩ (L.v 0) L.n 40 (tk j) w7 (T7.out.box.cell 4) (by rw [T7.out.l40]; have := MO.out; omega)))
                clear kx hT hR x7
                go_wp2_with fail
                refine NC.out.mono ?_
                rintro e w8 ⟨kk, rfl, hk1, hkb, x8⟩
                clear c1 LT7 NC
                have T8 := T7.out.ext x8
                have R8 := R7.out.ext x8
                have C3 := Lib.hid (Tryd.strings_Count_one ⟨ln.toArray⟩ 32 w8)
                rw [show (⟨ln.toArray⟩ : ByteArray).data.toList = ln from rfl] at C3
                generalize hcb : Lib.countByte ln 32 = cb at C3
                go_wp2_with fail
                refine C3.out.mono ?_
                rintro e w9 ⟨rfl, rfl⟩
                clear C3
                by_cases hcn : cb = cntK 2
                · subst hcn
                  obtain ⟨m3, hm3⟩ := (HH.out.ext T8.old).most
                  have SP := Lib.hid (Tryd.strings_Split ⟨ln.toArray⟩ ⟨#[32]⟩ m3 w9 (by omega) hm3 (by decide))
                  have ecb : Lib.countB ⟨ln.toArray⟩ ⟨#[32]⟩ = cntK 2 := (Lib.count_one 32 ln).trans hcb
                  rw [ecb] at SP
                  have WL := Lib.hid (wordsB_len hcb)
                  have WD := Lib.hid (fun k hk => @wordsOf_drop ln (cntK 2) k hcb hk)
                  have WS := Lib.hid (@splitB_small ln (cntK 2))
                  have SP : Hid (Calls Tryd.prog 25 #[.string ⟨ln.toArray⟩, .string ⟨#[32]⟩] w9 fun e w' => e = .returned (.slice (some ⟨w9.heap.size, 0, none⟩) (cntK 2 + 1) (cntK 2 + 1)) ∧ w' = w9.alloc (.cells ((wordsB ln (cntK 2)).map Value.string).toArray 9)) := SP.out
                  have HCB := Lib.hid hcb
                  clear hcb ecb hm3
                  generalize wordsB ln (cntK 2) = wl at *
                  have hc1 := (cntK_small 2).1
                  have hc5 := (cntK_small 2).2
                  go_wp2_with fail
                  refine SP.out.mono ?_
                  rintro e w10 ⟨rfl, hw10⟩
                  have x10 : Ext w9 w10 := by rw [hw10]; exact (Ext.refl _).alloc _
                  have kW : Blk w10 w9.heap.size 9 (wl.map Value.string) := by rw [hw10]; exact Blk.lit _ _ _ _ rfl
                  clear hw10 SP
                  have TA := Lib.hid (T8.ext x10)
                  have RA := Lib.hid (R8.ext x10)
                  have kN := Lib.hid (hkb.ext x10)
                  have KW := Lib.hid kW
                  have hlt8 : kk < w9.heap.size := hkb.lt
                  have hb4w : b4 < w7.heap.size := T7.out.box.lt
                  clear T8 R8 hkb kW x10
                  obtain ⟨ad, had⟩ : ∃ ad : Addr, (⟨kk, 0, none⟩ : Addr) = ad := ⟨_, rfl⟩
                  generalize hwb : w9.heap.size = wbk at *
                  obtain ⟨aw, haw⟩ : ∃ aw : Addr, (⟨wbk, 1, none⟩ : Addr) = aw := ⟨_, rfl⟩
                  have hzb : 0 ≤ zk ∧ zk ≤ 40 := by
                    have h1 := HZK.out
                    have h2 := MO.out
                    omega
                  have hkk : b4 < kk := by omega
                  have STP := Lib.hid (stepT_put (L := L) (tk := tk) (l := ln) (j := j) (by rw [HN.out, HNB.out]; exact hjj.out) (by omega) (by rw [HCB.out, J2.out]))
                  go_wp2_with fail
                  try rw [had]
                  try rw [haw]
                  clear T7 R7 x8
                  go_loopw [74] (fun i wr => ∃ (k : Nat) (L' : LayD), k ≤ cntK 2 ∧ i = .int .i64 k ∧ Hid (Tk w wr b4 bs km tm L' tk n) ∧ Hid (Blk wr r2 24 [.int .i64 0, .int .i64 0, .int .i64 0, .int .i64 0, .slice none 0 0, .int .i64 0, .int .i64 0, .int .i64 0, .int .i64 0, .int .i64 0, .int .i64 0, .int .i64 0, .int .i64 0, .int .i64 0, .int .i64 0, .int .i64 0, .int .i64 0, .int .i64 0, .int .i64 0, .int .i64 0, .int .i64 0]) ∧ Hid (Blk wr kk 49 (numC b4 ⟨bs, 0, none⟩ (L.v 0) 2 (tk j))) ∧ Hid (Blk wr wbk 9 (wl.map Value.string)) ∧ Hid (putAll L j (tk j) 0 (wordsOf ln) = putAll L' j (tk j) k ((wordsOf ln).drop k))) (fun i _ => 10 - (RowKit.intOf i).toNat)
                  case atStart => exact ⟨0, L, Nat.zero_le _, rfl, TA, RA, kN, KW, Lib.hid rfl⟩
                  case round =>
                    clear TA RA kN KW
                    obtain ⟨k, L', hk, rfl, hT, hR, hN, hW, hP⟩ := hrel
                    by_cases hkl : k < cntK 2
                    · have hk64 : (k : Int) < ((cntK 2 : Nat) : Int) := by omega
                      obtain ⟨wd, hwd, hdrop⟩ := WD.out k hkl
                      have cw : wr.cell? (aw.add k) = some (.string wd) := by
                        rw [← haw, Addr.add_mid, hW.out.cell, List.getElem?_map, show 1 + k = k + 1 by omega, hwd]; rfl
                      have hws := WS.out wd (List.mem_of_getElem? hwd)
                      have DEC := Lib.hid (decimal_any wd wr (by omega) (HH.out.ext hT.out.old))
                      have e0 := (num_cells (show VN b4 ⟨bs, 0, none⟩ (L.v 0) (2, tk j, kk) wr from hN.out) hkl).1
                      rw [had] at e0
                      have hbk := adrK_block b4 bs 2 (tk j) k
                      have PT := Lib.hid (fun (W9 : World) (h : Tk w W9 b4 bs km tm L' tk n) => put_there h (i := k) (by decide) (by have h2 := J2.out; rw [← h2]; exact hlt) hkl)
                      have PU := Lib.hid (fun (W9 : World) (h : Tk w W9 b4 bs km tm L' tk n) (x : Int) (hx : Wide x) => h.put (j := 2) (t := tk j) (i := k) (by decide) hkl (by omega) (by omega) (by omega) ⟨by omega, by omega⟩ ⟨by omega, by omega⟩ hx)
                      generalize adrK b4 ⟨bs, 0, none⟩ 2 (tk j) k = ap at e0 hbk PT PU
                      go_wp2_with fail
                      refine DEC.out.mono ?_
                      rintro e wd2 ⟨⟨x, rfl, hx⟩, x2⟩
                      have T2 := Lib.hid (hT.out.ext x2)
                      have R2 := Lib.hid (hR.out.ext x2)
                      have N2 := Lib.hid (hN.out.ext x2)
                      have W2' := Lib.hid (hW.out.ext x2)
                      have e0 := x2.at e0
                      cases hdec : decB wd.data.toList with
                      | none =>
                        have E := Lib.hid (show OutT tt r L' tk by rw [hS.out, takeT_none hr1 (by rw [HL.out, STP.out, hP.out, hdrop]; simp only [putAll, hdec])]; exact h0)
                        clear hx x2 hT hR hN hW hP cw DEC hdrop hwd e0
                        go_wp2_with fail
                        go_meet
                        exact ⟨L', tk, n, _, rfl, T2, R2, E⟩
                      | some v =>
                        obtain rfl : x = v := hx v hdec
                        have hwide := decB_wide hdec
                        obtain ⟨⟨u0, hu0⟩, hf0⟩ := PT.out wd2 T2.out
                        obtain ⟨ab, ao, rfl⟩ : ∃ ab ao, ap = ⟨ab, ao, none⟩ := ⟨_, _, plain_addr hu0⟩
                        have hbk : ab = b4 ∨ ab = bs := hbk
                        have TN := Lib.hid (PU.out wd2 T2.out x hwide)
                        have RN := Lib.hid (R2.out.far (p := ⟨ab, ao, none⟩) (by show ab ≠ r2; omega) (.int .i64 x))
                        have NN := Lib.hid (N2.out.far (p := ⟨ab, ao, none⟩) (by show ab ≠ kk; omega) (.int .i64 x))
                        have WN := Lib.hid (W2'.out.far (p := ⟨ab, ao, none⟩) (by show ab ≠ wbk; omega) (.int .i64 x))
                        have PN := Lib.hid (show putAll L j (tk j) 0 (wordsOf ln) = putAll (putL L' 2 (tk j) k x) j (tk j) (k + 1) ((wordsOf ln).drop (k + 1)) by rw [hP.out, hdrop]; rw [J2.out]; simp only [putAll, hdec])
                        clear hx x2 hT hR hN hW hP cw DEC hdrop hwd T2 R2 N2 W2' PT PU hdec
                        go_wp2_with fail
                        go_roundw
                        case rel => exact ⟨k + 1, _, by omega, by go_num, TN, RN, NN, WN, PN⟩
                        case measure => simp [RowKit.intOf]; omega
                    · have hk64 : ¬ (k : Int) < ((cntK 2 : Nat) : Int) := by omega
                      have LT := hT.out.took.look hj10
                      obtain ⟨wm, rm, tmm, gm⟩ := hT.out.took.store hj10 (show n ≤ 1000000 by omega) (k := tk j + 1) (by have := HZK.out; omega)
                      have ez : ((tk j + 1 : Nat) : Int) = zk + 1 := by have := HZK.out; omega
                      rw [HZK.out] at LT
                      rw [ez] at rm
                      obtain ⟨TM, keep⟩ := hT.out.more tmm gm ⟨by omega, by omega⟩ (by omega) (by omega) (fun q hq => by
                        show (if q = j then tk j + 1 else tk q) ≤ mostK q
                        by_cases e : q = j
                        · rw [if_pos e, e]; omega
                        · rw [if_neg e]; exact hT.out.few q hq)
                      have TN := Lib.hid TM
                      have RN := Lib.hid (keep _ _ _ hR.out)
                      have SN := Lib.hid (show tt = takeT f L' (fun q => if q = j then tk j + 1 else tk q) bh by
                        rw [hS.out, takeT_some hr1 HW.out (L' := L') (tk' := fun q => if q = j then tk j + 1 else tk q) (by
                          rw [HL.out, STP.out, hP.out, List.drop_eq_nil_of_le (by rw [wordsOf_len HCB.out]; omega)]; rfl), HB.out])
                      have hbs' : (⟨bh.toArray⟩ : ByteArray).size = bh.length := by show bh.toArray.size = _; rw [List.size_toArray]
                      clear tmm gm TM keep hT hR hN hW hP
                      go_wp2_with fail
                      go_roundw
                      case rel => exact ⟨L', _, n + 1, f, _, rfl, by rw [hbs']; omega, by rw [hbs']; omega, TN, RN, SN⟩
                      case measure => simp only [strOf]; omega
                · have E := Lib.hid (show OutT tt r L tk by rw [hS.out, takeT_none hr1 (by rw [HL.out]; exact stepT_count (by rw [HN.out, HNB.out]; exact hjj.out) (by rw [hcb]; have h2 := J2.out; rw [h2]; exact hcn))]; exact h0)
                  have hq : ((cb : Int) == (cntK 2 : Int)) = false := by simp; omega
                  have T9 := Lib.hid T8
                  have R9 := Lib.hid R8
                  clear hcb hcn
                  go_wp2_with fail
                  go_meet
                  exact ⟨L, tk, n, _, rfl, T9, R9, E⟩
          ·
            obtain ⟨hj10, hnb⟩ := nameJ_eq hj
            have hjj := Lib.hid hj
            have LK1 : (Instr.lookup 57 (.map (some km)) (.string nm) true).run Tryd.prog wx = .ok (.tuple #[.agg #[.func (.func 47) #[] #[], .func (.func 48) #[] #[.pointer (some ⟨nbK km j, 0, none⟩)]], .bool true]) wx := by rw [LK, hj]; show Result.ok (Value.tuple #[codeV km j, .bool true]) wx = _; rw [codeV, if_neg (by omega), kindV, if_neg j2]
            clear LK
            clear hj
            subst hnb
            obtain ⟨wk, hwk⟩ : ∃ wk, wk = wx.alloc (.cells #[.func (.func 47) #[] #[], .func (.func 48) #[] #[.pointer (some ⟨nbK km j, 0, none⟩)]] 63) := ⟨_, rfl⟩
            have xk : Ext wx wk := by rw [hwk]; exact (Ext.refl _).alloc _
            have kx : Blk wk wx.heap.size 63 [.func (.func 47) #[] #[], .func (.func 48) #[] #[.pointer (some ⟨nbK km j, 0, none⟩)]] := by rw [hwk]; exact Blk.lit _ _ _ _ rfl
            have hT := Lib.hid (T5.ext xk)
            have hR := Lib.hid (R5.ext xk)
            clear T5 R5 xk
            go_wp2_with fail
            rw [← hwk]
            clear hwk LK1
            have hmo : mostK j = 1 := if_neg j2
            have MO := Lib.hid hmo
            clear hmo
            cases wo with
            | false =>
              have E := Lib.hid (show OutT tt r L tk by rw [hS.out, takeT_bad hr1 HW.out]; exact h0)
              refine wp_region_quiet_below (by kernel_rfl) (by kernel_rfl) ?_
              repeat (go_big_quiet_step (fail))
              refine wpQuiet_nil ?_
              intro _ hw'
              obtain ⟨⟨dq, osq⟩, hw''⟩ := hw'
              subst hw''
              have x9 : Ext wk (Sort.grow (redrawn wk dq) osq) := below_regrown _ _ _
              have T9 := Lib.hid (hT.out.ext x9)
              have R9 := Lib.hid (hR.out.ext x9)
              go_wp2_with fail
              go_meet
              exact ⟨L, tk, n, _, rfl, T9, R9, E⟩
            | true =>
              have hbt := hbl rfl
              have b0 := fun dd os => cell_regrown (d := dd) (os := os) (show wk.cell? ⟨wx.heap.size, 0, none⟩ = some (.func (.func 47) #[] #[]) from kx.cell 0)
              have LT := fun (dd : Nat) (os : Array Obj) => (hT.out.took.ext (below_regrown wk dd os)).look hj10
              have CN : Hid (∀ dd os, Calls Tryd.prog 47 #[.pointer (some ⟨b4, 0, none⟩)] (Sort.grow (redrawn wk dd) os) (Ret (Sort.grow (redrawn wk dd) os) (.int .i64 1))) := fun dd os => by
                refine (one_any _ _).mono ?_
                rintro e v ⟨rfl, rfl⟩
                exact ⟨rfl, Ext.refl _⟩
              by_cases hfull : tk j = 1
              · have hz : ((tk j : Int) == 1) = true := by rw [hfull]; rfl
                have E := Lib.hid (show OutT tt r L tk by rw [hS.out, takeT_none hr1 (by rw [HL.out]; exact stepT_full (by rw [HN.out, HNB.out]; exact hjj.out) (by rw [MO.out]; exact hfull))]; exact h0)
                generalize (tk j : Int) = zk at *
                clear hfull
                refine wp_region_quiet_below (by kernel_rfl) (by kernel_rfl) ?_
                repeat (go_big_quiet_step (first | (with_reducible exact rg14 (CN.out _ _))))
                refine wpQuiet_nil ?_
                intro _ hw'
                obtain ⟨⟨dq, osq⟩, hw''⟩ := hw'
                subst hw''
                have x9 : Ext wk (Sort.grow (redrawn wk dq) osq) := below_regrown _ _ _
                have T9 := Lib.hid (hT.out.ext x9)
                have R9 := Lib.hid (hR.out.ext x9)
                go_wp2_with fail
                go_meet
                exact ⟨L, tk, n, _, rfl, T9, R9, E⟩
              · have hz : ((tk j : Int) == 1) = false := by simp; omega
                have NF := Lib.hid hfull
                have hlt : tk j < mostK j := by
                  have h1 := MO.out
                  have h2 := hT.out.few j hj10
                  omega
                clear hfull
                generalize hzk : (tk j : Int) = zk at *
                have HZK := Lib.hid hzk
                clear hzk
                refine wp_region_quiet_below (by kernel_rfl) (by kernel_rfl) ?_
                repeat (go_big_quiet_step (first | (with_reducible exact rg14 (CN.out _ _))))
                refine wpQuiet_nil ?_
                intro _ hw'
                obtain ⟨⟨dq, osq⟩, hw''⟩ := hw'
                subst hw''
                obtain ⟨w7, hw7⟩ : ∃ w7, w7 = Sort.grow (redrawn wk dq) osq := ⟨_, rfl⟩
                have x7 : Ext wk w7 := by rw [hw7]; exact below_regrown _ _ _
                rw [← hw7]
                clear hw7 b0 LT CN hz
                have T7 := Lib.hid (hT.out.ext x7)
                have R7 := Lib.hid (hR.out.ext x7)
                have c1 : w7.cell? ⟨wx.heap.size, 1, none⟩ = some (.func (.func 48) #[] #[.pointer (some ⟨nbK km j, 0, none⟩)]) := (kx.ext x7).cell 1
                have LT7 := T7.out.took.look hj10
                rw [HZK.out] at LT7
                have NC := Lib.hid (show Calls Tryd.prog 48 #[.pointer (some ⟨b4, 0, none⟩), .int .i64 zk, .pointer (some ⟨nbK km j, 0, none⟩)] w7 _ from HZK.out ▸ (two_any j b4 (nbK km j) (tk j) ⟨bs, 0, none⟩ (L.v 0) w7 hj10 j2 (T7.out.box.cell 0) ((T7.out.kinds.fn j hj10 j2).cell 0)))
                clear kx hT hR x7
                go_wp2_with fail
                refine NC.out.mono ?_
                rintro e w8 ⟨kk, rfl, hk1, hkb, x8⟩
                clear c1 LT7 NC
                have T8 := T7.out.ext x8
                have R8 := R7.out.ext x8
                have C3 := Lib.hid (Tryd.strings_Count_one ⟨ln.toArray⟩ 32 w8)
                rw [show (⟨ln.toArray⟩ : ByteArray).data.toList = ln from rfl] at C3
                generalize hcb : Lib.countByte ln 32 = cb at C3
                go_wp2_with fail
                refine C3.out.mono ?_
                rintro e w9 ⟨rfl, rfl⟩
                clear C3
                by_cases hcn : cb = cntK j
                · subst hcn
                  obtain ⟨m3, hm3⟩ := (HH.out.ext T8.old).most
                  have SP := Lib.hid (Tryd.strings_Split ⟨ln.toArray⟩ ⟨#[32]⟩ m3 w9 (by omega) hm3 (by decide))
                  have ecb : Lib.countB ⟨ln.toArray⟩ ⟨#[32]⟩ = cntK j := (Lib.count_one 32 ln).trans hcb
                  rw [ecb] at SP
                  have WL := Lib.hid (wordsB_len hcb)
                  have WD := Lib.hid (fun k hk => @wordsOf_drop ln (cntK j) k hcb hk)
                  have WS := Lib.hid (@splitB_small ln (cntK j))
                  have SP : Hid (Calls Tryd.prog 25 #[.string ⟨ln.toArray⟩, .string ⟨#[32]⟩] w9 fun e w' => e = .returned (.slice (some ⟨w9.heap.size, 0, none⟩) (cntK j + 1) (cntK j + 1)) ∧ w' = w9.alloc (.cells ((wordsB ln (cntK j)).map Value.string).toArray 9)) := SP.out
                  have HCB := Lib.hid hcb
                  clear hcb ecb hm3
                  generalize wordsB ln (cntK j) = wl at *
                  have hc1 := (cntK_small j).1
                  have hc5 := (cntK_small j).2
                  go_wp2_with fail
                  refine SP.out.mono ?_
                  rintro e w10 ⟨rfl, hw10⟩
                  have x10 : Ext w9 w10 := by rw [hw10]; exact (Ext.refl _).alloc _
                  have kW : Blk w10 w9.heap.size 9 (wl.map Value.string) := by rw [hw10]; exact Blk.lit _ _ _ _ rfl
                  clear hw10 SP
                  have TA := Lib.hid (T8.ext x10)
                  have RA := Lib.hid (R8.ext x10)
                  have kN := Lib.hid (hkb.ext x10)
                  have KW := Lib.hid kW
                  have hlt8 : kk < w9.heap.size := hkb.lt
                  have hb4w : b4 < w7.heap.size := T7.out.box.lt
                  clear T8 R8 hkb kW x10
                  obtain ⟨ad, had⟩ : ∃ ad : Addr, (⟨kk, 0, none⟩ : Addr) = ad := ⟨_, rfl⟩
                  generalize hwb : w9.heap.size = wbk at *
                  obtain ⟨aw, haw⟩ : ∃ aw : Addr, (⟨wbk, 1, none⟩ : Addr) = aw := ⟨_, rfl⟩
                  have hzb : 0 ≤ zk ∧ zk ≤ 40 := by
                    have h1 := HZK.out
                    have h2 := MO.out
                    omega
                  have hkk : b4 < kk := by omega
                  have STP := Lib.hid (stepT_put (L := L) (tk := tk) (l := ln) (j := j) (by rw [HN.out, HNB.out]; exact hjj.out) (by omega) (HCB.out))
                  go_wp2_with fail
                  try rw [had]
                  try rw [haw]
                  clear T7 R7 x8
                  go_loopw [74] (fun i wr => ∃ (k : Nat) (L' : LayD), k ≤ cntK j ∧ i = .int .i64 k ∧ Hid (Tk w wr b4 bs km tm L' tk n) ∧ Hid (Blk wr r2 24 [.int .i64 0, .int .i64 0, .int .i64 0, .int .i64 0, .slice none 0 0, .int .i64 0, .int .i64 0, .int .i64 0, .int .i64 0, .int .i64 0, .int .i64 0, .int .i64 0, .int .i64 0, .int .i64 0, .int .i64 0, .int .i64 0, .int .i64 0, .int .i64 0, .int .i64 0, .int .i64 0, .int .i64 0]) ∧ Hid (Blk wr kk 49 (numC b4 ⟨bs, 0, none⟩ (L.v 0) j (tk j))) ∧ Hid (Blk wr wbk 9 (wl.map Value.string)) ∧ Hid (putAll L j (tk j) 0 (wordsOf ln) = putAll L' j (tk j) k ((wordsOf ln).drop k))) (fun i _ => 10 - (RowKit.intOf i).toNat)
                  case atStart => exact ⟨0, L, Nat.zero_le _, rfl, TA, RA, kN, KW, Lib.hid rfl⟩
                  case round =>
                    clear TA RA kN KW
                    obtain ⟨k, L', hk, rfl, hT, hR, hN, hW, hP⟩ := hrel
                    by_cases hkl : k < cntK j
                    · have hk64 : (k : Int) < ((cntK j : Nat) : Int) := by omega
                      obtain ⟨wd, hwd, hdrop⟩ := WD.out k hkl
                      have cw : wr.cell? (aw.add k) = some (.string wd) := by
                        rw [← haw, Addr.add_mid, hW.out.cell, List.getElem?_map, show 1 + k = k + 1 by omega, hwd]; rfl
                      have hws := WS.out wd (List.mem_of_getElem? hwd)
                      have DEC := Lib.hid (decimal_any wd wr (by omega) (HH.out.ext hT.out.old))
                      have e0 := (num_cells (show VN b4 ⟨bs, 0, none⟩ (L.v 0) (j, tk j, kk) wr from hN.out) hkl).1
                      rw [had] at e0
                      have hbk := adrK_block b4 bs j (tk j) k
                      have PT := Lib.hid (fun (W9 : World) (h : Tk w W9 b4 bs km tm L' tk n) => put_there h (i := k) hj10 (hlt) hkl)
                      have PU := Lib.hid (fun (W9 : World) (h : Tk w W9 b4 bs km tm L' tk n) (x : Int) (hx : Wide x) => h.put (j := j) (t := tk j) (i := k) hj10 hkl (by omega) (by omega) (by omega) ⟨by omega, by omega⟩ ⟨by omega, by omega⟩ hx)
                      generalize adrK b4 ⟨bs, 0, none⟩ j (tk j) k = ap at e0 hbk PT PU
                      go_wp2_with fail
                      refine DEC.out.mono ?_
                      rintro e wd2 ⟨⟨x, rfl, hx⟩, x2⟩
                      have T2 := Lib.hid (hT.out.ext x2)
                      have R2 := Lib.hid (hR.out.ext x2)
                      have N2 := Lib.hid (hN.out.ext x2)
                      have W2' := Lib.hid (hW.out.ext x2)
                      have e0 := x2.at e0
                      cases hdec : decB wd.data.toList with
                      | none =>
                        have E := Lib.hid (show OutT tt r L' tk by rw [hS.out, takeT_none hr1 (by rw [HL.out, STP.out, hP.out, hdrop]; simp only [putAll, hdec])]; exact h0)
                        clear hx x2 hT hR hN hW hP cw DEC hdrop hwd e0
                        go_wp2_with fail
                        go_meet
                        exact ⟨L', tk, n, _, rfl, T2, R2, E⟩
                      | some v =>
                        obtain rfl : x = v := hx v hdec
                        have hwide := decB_wide hdec
                        obtain ⟨⟨u0, hu0⟩, hf0⟩ := PT.out wd2 T2.out
                        obtain ⟨ab, ao, rfl⟩ : ∃ ab ao, ap = ⟨ab, ao, none⟩ := ⟨_, _, plain_addr hu0⟩
                        have hbk : ab = b4 ∨ ab = bs := hbk
                        have TN := Lib.hid (PU.out wd2 T2.out x hwide)
                        have RN := Lib.hid (R2.out.far (p := ⟨ab, ao, none⟩) (by show ab ≠ r2; omega) (.int .i64 x))
                        have NN := Lib.hid (N2.out.far (p := ⟨ab, ao, none⟩) (by show ab ≠ kk; omega) (.int .i64 x))
                        have WN := Lib.hid (W2'.out.far (p := ⟨ab, ao, none⟩) (by show ab ≠ wbk; omega) (.int .i64 x))
                        have PN := Lib.hid (show putAll L j (tk j) 0 (wordsOf ln) = putAll (putL L' j (tk j) k x) j (tk j) (k + 1) ((wordsOf ln).drop (k + 1)) by rw [hP.out, hdrop]; simp only [putAll, hdec])
                        clear hx x2 hT hR hN hW hP cw DEC hdrop hwd T2 R2 N2 W2' PT PU hdec
                        go_wp2_with fail
                        go_roundw
                        case rel => exact ⟨k + 1, _, by omega, by go_num, TN, RN, NN, WN, PN⟩
                        case measure => simp [RowKit.intOf]; omega
                    · have hk64 : ¬ (k : Int) < ((cntK j : Nat) : Int) := by omega
                      have LT := hT.out.took.look hj10
                      obtain ⟨wm, rm, tmm, gm⟩ := hT.out.took.store hj10 (show n ≤ 1000000 by omega) (k := tk j + 1) (by have := HZK.out; omega)
                      have ez : ((tk j + 1 : Nat) : Int) = zk + 1 := by have := HZK.out; omega
                      rw [HZK.out] at LT
                      rw [ez] at rm
                      obtain ⟨TM, keep⟩ := hT.out.more tmm gm ⟨by omega, by omega⟩ (by omega) (by omega) (fun q hq => by
                        show (if q = j then tk j + 1 else tk q) ≤ mostK q
                        by_cases e : q = j
                        · rw [if_pos e, e]; omega
                        · rw [if_neg e]; exact hT.out.few q hq)
                      have TN := Lib.hid TM
                      have RN := Lib.hid (keep _ _ _ hR.out)
                      have SN := Lib.hid (show tt = takeT f L' (fun q => if q = j then tk j + 1 else tk q) bh by
                        rw [hS.out, takeT_some hr1 HW.out (L' := L') (tk' := fun q => if q = j then tk j + 1 else tk q) (by
                          rw [HL.out, STP.out, hP.out, List.drop_eq_nil_of_le (by rw [wordsOf_len HCB.out]; omega)]; rfl), HB.out])
                      have hbs' : (⟨bh.toArray⟩ : ByteArray).size = bh.length := by show bh.toArray.size = _; rw [List.size_toArray]
                      clear tmm gm TM keep hT hR hN hW hP
                      go_wp2_with fail
                      go_roundw
                      case rel => exact ⟨L', _, n + 1, f, _, rfl, by rw [hbs']; omega, by rw [hbs']; omega, TN, RN, SN⟩
                      case measure => simp only [strOf]; omega
                · have E := Lib.hid (show OutT tt r L tk by rw [hS.out, takeT_none hr1 (by rw [HL.out]; exact stepT_count (by rw [HN.out, HNB.out]; exact hjj.out) (by rw [hcb]; exact hcn))]; exact h0)
                  have hq : ((cb : Int) == (cntK j : Int)) = false := by simp; omega
                  have T9 := Lib.hid T8
                  have R9 := Lib.hid R8
                  clear hcb hcn
                  go_wp2_with fail
                  go_meet
                  exact ⟨L, tk, n, _, rfl, T9, R9, E⟩
  case rest =>
    obtain ⟨L, tk, n, r, rfl, hT, hR, hO⟩ := hcut
    clear TK K2
    have l40 := hT.out.l40
    have hbx := hT.out.box
    have hz : tk 2 ≤ 40 := hT.out.few 2 (by decide)
    have q4 : wc.cell? ⟨b4, 4, none⟩ = some (.slice (some ⟨bs, 0, none⟩) 40 40) := by rw [hbx.cell, ← l40]; rfl
    have LT := hT.out.took.look (j := 2) (by decide)
    rw [show nameB 2 = ⟨#[115, 104, 97, 112, 101]⟩ from rfl] at LT
    obtain ⟨A', c', wl, r1, sn, hc1, hc2, xl, hnew⟩ := run_lines hT.out.row hz 22
    have hb2 := hbx.ext xl
    have q5 : wl.cell? ⟨b4, 4, none⟩ = some (.slice (some ⟨bs, 0, none⟩) 40 40) := xl.at q4
    have f5 := hb2.free 4
    obtain ⟨wf, hwf⟩ : ∃ wf, wf = wl.setCell ⟨b4, 4, none⟩ (.slice A' (tk 2) c') := ⟨_, rfl⟩
    have kf : Blk wf b4 24 (layC ⟨L.v, tk 2, L.sh⟩ A' c') := by rw [hwf]; exact hb2.set 4 _
    have k2 : Blk wf r2 24 [.int .i64 0, .int .i64 0, .int .i64 0, .int .i64 0, .slice none 0 0, .int .i64 0, .int .i64 0, .int .i64 0, .int .i64 0, .int .i64 0, .int .i64 0, .int .i64 0, .int .i64 0, .int .i64 0, .int .i64 0, .int .i64 0, .int .i64 0, .int .i64 0, .int .i64 0, .int .i64 0, .int .i64 0] := by rw [hwf]; exact (hR.out.ext xl).far (by show b4 ≠ r2; omega) _
    have xf : Ext w wf := by rw [hwf]; exact (hT.out.old.trans xl).setCell (by show _ ≤ b4; omega) _
    have sf : SeenP wf A' (tk 2) L.sh := by
      rw [hwf]
      exact seenP_set sn (fun ad e => by have := hnew ad e; have := hbx.lt; show b4 ≠ _; omega) _
    have NEW1 := Lib.hid (show ∀ ad, A' = some ad → w.heap.size ≤ ad.block from fun ad e => by have := hnew ad e; have := hT.out.old.size; omega)
    have NEW := Lib.hid (show ∀ ad, A' = some ad → r2 ≠ ad.block from fun ad e => by have := hnew ad e; have := hR.out.lt; omega)
    have OK := Lib.hid (show LayOk ⟨L.v, tk 2, L.sh⟩ c' from ⟨hT.out.wide.1, fun i _ => hT.out.wide.2 i, hc1, hc2⟩)
    have KF := Lib.hid kf
    have K2 := Lib.hid k2
    have XF := Lib.hid xf
    have SF := Lib.hid sf
    have z40 : (tk 2 : Int) ≤ 40 := by omega
    have TH := Lib.hid (show wf.there r2 0 21 from k2.there)
    generalize htz : tk 2 = tz at *
    have HTZ := Lib.hid htz
    clear htz hT hR l40 hbx sn xl hnew hb2 kf k2 xf sf
    go_wp2_with (first | (at_builtin; refine wpList_ran rfl _ _ rfl r1 ?_) | (refine wpList_load_mid rfl 24 _ rfl b4 0 rfl (layC ⟨L.v, tz, L.sh⟩ A' c') _ (hwf ▸ KF.out.range) Tryd.underlying24 rfl (by kernel_rfl) ?_) | (refine wpList_store_mid rfl 24 _ _ rfl r2 0 _ rfl rfl (hwf ▸ TH.out) lay_info (all_oneCell_toArray (layC_one _ _ _)) ?_))
    rw [Exit.noGoto_ret, ← hwf]
    refine bodyPost_ret (results_box_tmp rfl _ _ r2 (layC ⟨L.v, tz, L.sh⟩ A' c') (.string r) rfl rfl (Blk.range (blk_setCells K2.out _ rfl)) (by kernel_rfl) (by kernel_rfl)) rfl ?_
    refine ⟨⟨L.v, tz, L.sh⟩, A', c', r, rfl, OK.out, seenP_sets NEW.out _ _ _ SF.out, NEW1.out, ext_setCells (by omega) _ _ _ XF.out, ?_⟩
    have ho := hO.out
    rw [← HTT.out]
    cases tt with
    | none => exact ho
    | some p =>
      obtain ⟨L1, tk1⟩ := p
      obtain ⟨rfl, rfl, rfl⟩ := ho
      exact ⟨rfl, by rw [HTZ.out], by rw [HTZ.out]; exact hz⟩
end L14
end Go.Proofs.YteflkagilhmeiaaDoor

