/- The document's Values of layer 11. -/
import Derived.Test.YtenajekmnggkeaaRWord11
import Derived.Test.YtenajekmnggkeaaSameL11
namespace Go.Proofs.Ytenajekmnggkeaa
open Go.RowKit
open Go.Lib hiding intOf
namespace L11
open L10 (TN plainB patB tn letterB)

/-- A part of a text, held against another one. -/
theorem str_dec11 (t : ByteArray) (a b : Nat) (x : ByteArray) (s : List UInt8) (ht : t.data.toList = s) : ((t.extract a b).toList == x.toList) = decide ((s.drop a).take (b - a) = x.data.toList) := by
  have h1 : (t.extract a b).data.toList = (s.drop a).take (b - a) := by rw [Lib.extract_data, ht]
  rw [ByteArray.toList_eq, ByteArray.toList_eq, h1]
  by_cases e : (s.drop a).take (b - a) = x.data.toList
  · rw [decide_eq_true e]; simpa using e
  · rw [decide_eq_false e]; simpa using e
/-- The patterns ahead of j, everywhere, and pattern y at the places ahead of a. -/
def doneH (l : List TN) (y : TN) (n a : Nat) (x : TN) (b : Nat) : Prop := (x ∈ l ∧ b < n) ∨ (x = y ∧ b < a)
/-- What it leaves, and answers. -/
def RValsQ (w : World) (p : List TN) (l : List UInt8) (e : Ending) (w' : World) : Prop := Ext w w' ∧ ∃ A c, e = .returned (.slice A (valsL p l).length c) ∧ SeenL w' A (valsL p l)

set_option maxRecDepth 100000 in
set_option maxHeartbeats 16000000 in
theorem rvals_any (D : PatsD) (P : PatsP) (w : World) (sn : SeenPats w D P) (hp : ∀ x ∈ D.l, patB (tn x) = true) (hn : D.l.length ≤ 400) (s : ByteArray) :
    Calls Try.prog 27 #[patsV D P, .string s] w (RValsQ w (D.l.map tn) s.data.toList) := by
  obtain ⟨V, hV⟩ : ∃ V, V = w.alloc (.cells #[.slice P.x D.l.length P.c, .slice P.y D.m.length P.d] 25) := ⟨_, rfl⟩
  have W0 : Ext w V := by rw [hV]; exact (Ext.refl _).alloc _
  have kB : Blk V w.heap.size 25 [.slice P.x D.l.length P.c, .slice P.y D.m.length P.d] := by rw [hV]; exact Blk.lit _ _ _ _ rfl
  have WD := Lib.hid (rword_any s V)
  have SL := Lib.hid (sn.ext W0).l
  have HP := Lib.hid hp
  unfold patsV
  obtain ⟨l, m⟩ := D
  obtain ⟨A, c, A2, d⟩ := P
  dsimp only at SL HP kB hV hn ⊢
  have HX := Lib.hid W0
  obtain ⟨n, hnl⟩ : ∃ n, n = l.length := ⟨_, rfl⟩
  have HN := Lib.hid hnl
  rw [← hnl] at kB hV hn ⊢
  clear sn hp hnl W0
  generalize m.length = q at *
  cases hw : plainB s.data.toList with
  | false =>
    rw [hw] at WD
    have HV := Lib.hid (valsL_no (p := l.map tn) hw)
    clear hw
    go_enter Try.func27, Try.ntmps27
    go_upto_region 1 with (fail)
    rw [← hV]
    clear hV
    generalize w.heap.size = R at *
    go_wp2_with fail
    refine WD.out.mono ?_; rintro e w1 ⟨rfl, x1⟩
    have X1 := Lib.hid (HX.out.trans x1)
    clear x1 WD kB
    go_wp2_with fail
    go_ret
    exact ⟨X1.out, none, 0, by rw [HV.out]; rfl, by rw [HV.out]; exact SeenL.nil⟩
  | true =>
    rw [hw] at WD
    have hsz := plain_len hw
    rw [list_size] at hsz
    have HW := Lib.hid hw
    clear hw
    obtain ⟨t, ht⟩ : ∃ t, t = (⟨#[46]⟩ : ByteArray) ++ s ++ (⟨#[46]⟩ : ByteArray) := ⟨_, rfl⟩
    have htl : t.data.toList = textL s.data.toList := by rw [ht]; exact text_list s
    have hts : t.size = s.size + 2 := by rw [ht]; exact text_size s
    obtain ⟨cs, MK, RW⟩ := make_blk (t.size + 1) (by omega)
    rw [show ((t.size + 1 : Nat) : Int) = (t.size : Int) + 1 by omega] at MK
    go_enter Try.func27, Try.ntmps27
    go_upto_region 1 with (fail)
    rw [← hV]
    clear hV
    generalize w.heap.size = R at *
    go_wp2_with fail
    refine WD.out.mono ?_; rintro e w1 ⟨rfl, x1⟩
    have q0 : w1.cell? ⟨R, 0, none⟩ = some (.slice A n c) := (kB.ext x1).cell 0
    have X1 := Lib.hid x1
    clear x1 WD kB
    go_upto_region 5 with (fail)
    rw [← ht]
    have HTL := Lib.hid htl
    have HTS := Lib.hid hts
    clear ht htl hts
    have ht40 : t.size ≤ 42 := by have := HTS.out; omega
    have ht1 : 1 ≤ t.size := by have := HTS.out; omega
    have KG := Lib.hid (show Blk (w1.alloc (.cells cs 3)) w1.heap.size 3 (rowI (t.size + 1) (fun _ => 0)) by
      have := Blk.new w1 3 cs
      rw [RW] at this
      exact this)
    have xa : Ext w1 (w1.alloc (.cells cs 3)) := (Ext.refl w1).alloc _
    have q0 := xa.at q0
    have RG := Lib.hid (show R < w1.heap.size ∧ V.heap.size ≤ w1.heap.size from ⟨World.block_lt_of_cell? w1 ⟨R, 0, none⟩ (by assumption), X1.out.size⟩)
    have X3 := Lib.hid (X1.out.trans xa)
    go_wp2_with fail
    generalize w1.alloc (.cells cs 3) = w3 at *
    generalize hg : w1.heap.size = g at *
    clear hg MK RW xa X1
    have Q0 := Lib.hid q0
    go_loopw [8] (fun i wr => ∃ j : Nat, j ≤ n ∧ i = .int .i64 j ∧ Hid (But (Only g) w3 wr ∧ ∃ f, Blk wr g 3 (rowI (t.size + 1) f) ∧ Sup (textL s.data.toList) (fun x a => x ∈ (l.take j).map tn ∧ a < t.size) f)) (fun i _ => n - (intOf i).toNat)
    case atStart => exact ⟨0, Nat.zero_le _, rfl, ⟨But.refl _ _, _, KG.out, (Sup.zero _).iff (fun x a _ => ⟨fun h => h.elim, fun h => by simp at h⟩)⟩⟩
    case round =>
      obtain ⟨j, hj, rfl, hh⟩ := hrel
      have q0 : wr.cell? ⟨R, 0, none⟩ = some (.slice A n c) := hh.out.1.at Q0.out (by have := RG.out; show ¬ R = g; omega)
      by_cases hlt : j < n
      · have hlt' : j < l.length := by rw [← HN.out]; exact hlt
        obtain ⟨⟨ad, rfl, a0, a1⟩, sx⟩ := SL.out.get hlt'
        have hpx := HP.out _ (List.getElem_mem hlt')
        have hx1 := L10.pat_len hpx
        have hx2 := (L10.pat_vals hpx).1
        have TK := Lib.hid (show (l.take (j + 1)).map tn = (l.take j).map tn ++ [tn l[j]] by rw [List.take_succ_eq_append_getElem hlt', List.map_append]; rfl)
        have hbl : ad.block < V.heap.size := by have := World.block_lt_of_cell? V _ a0; rwa [addr_block] at this
        have hadg : ad.block ≠ g := by have := RG.out; omega
        have a0 := hh.out.1.at (X3.out.at a0) (by rw [addr_block]; exact hadg)
        have a1 := hh.out.1.at (X3.out.at a1) (by show ¬ (ad.add (j * 2)).block = g; rw [addr_block]; exact hadg)
        have HADX := Lib.hid (show ∀ ad', l[j].A = some ad' → ad'.block ≠ g from fun ad' e => by
          have h1 := seenL_lt sx (List.length_pos_iff.2 (pat_ne hpx)) e
          have := RG.out
          omega)
        have HPX := Lib.hid hpx
        have SX := Lib.hid sx
        have HLT := Lib.hid (show Nat.lt j n from hlt)
        generalize l[j] = y at *
        obtain ⟨xs, xn, xA, xc⟩ := y
        dsimp only at a0 a1 HADX SX
        simp only [tn, list_size] at hx1 hx2
        obtain ⟨z, hz⟩ : ∃ z, z = xn.length := ⟨_, rfl⟩
        have HZ := Lib.hid hz
        rw [← hz] at a1 hx2
        have HX2 := Lib.hid hx2
        have HH := Lib.hid hh.out
        clear sx hpx hh hz hbl hadg hx2
        have k4 : Blk (wr.alloc (.cells #[.string xs, .slice xA z xc] 50)) wr.heap.size 50 [.string xs, .slice xA z xc] := Blk.lit _ _ _ _ rfl
        have x4 : Ext wr (wr.alloc (.cells #[.string xs, .slice xA z xc] 50)) := (Ext.refl _).alloc _
        have hBx : wr.heap.size ≠ g := by obtain ⟨_, f, kf, _⟩ := HH.out; have := kf.lt; omega
        go_upto_region 10 with (fail)
        have K4 := Lib.hid k4
        have X4 := Lib.hid x4
        have HBX := Lib.hid hBx
        have RLT := Lib.hid (show R < wr.heap.size from World.block_lt_of_cell? wr ⟨R, 0, none⟩ q0)
        generalize wr.alloc (.cells #[.string xs, .slice xA z xc] 50) = w4 at *
        generalize wr.heap.size = Bx at *
        clear k4 x4 hBx a0 a1 q0
        go_wp2_with fail
        obtain ⟨wo, rfl⟩ : ∃ wo : World, wo = wr := ⟨_, rfl⟩
        go_loopw [10] (fun at' w5 => ∃ a : Nat, a ≤ t.size ∧ at' = .int .i64 a ∧ Hid (But (Only g) w4 w5 ∧ ∃ f, Blk w5 g 3 (rowI (t.size + 1) f) ∧ Sup (textL s.data.toList) (fun x b => (x ∈ (l.take j).map tn ∧ b < t.size) ∨ (x = tn ⟨xs, xn, xA, xc⟩ ∧ b < a)) f)) (fun at' _ => t.size + 1 - (intOf at').toNat)
        case atStart =>
          obtain ⟨hb, f, kf, sf⟩ := HH.out
          exact ⟨0, Nat.zero_le _, rfl, ⟨But.refl _ _, f, kf.ext X4.out, sf.iff (fun x b _ => ⟨.inl, fun h => h.elim id (fun h => by omega)⟩)⟩⟩
        case round =>
          obtain ⟨w5, rfl⟩ : ∃ w5 : World, w5 = wr := ⟨_, rfl⟩
          obtain ⟨a, ha, rfl, h5⟩ := hrel
          have b0 : w5.cell? ⟨Bx, 0, none⟩ = some (.string xs) := h5.out.1.at (K4.out.cell 0) (by show ¬ Bx = g; exact HBX.out)
          have b1 : w5.cell? ⟨Bx, 1, none⟩ = some (.slice xA z xc) := h5.out.1.at (K4.out.cell 1) (by show ¬ Bx = g; exact HBX.out)
          by_cases hle : a + xs.size ≤ t.size
          · by_cases heq : ((textL s.data.toList).drop a).take xs.size = xs.data.toList
            · have HEW := str_dec11 t a (a + xs.size) xs (textL s.data.toList) HTL.out
              rw [show a + xs.size - a = xs.size by omega, decide_eq_true heq] at HEW
              have HPR := Lib.hid (show xs.data.toList <+: (textL s.data.toList).drop a from by rw [← heq]; exact List.take_prefix _ _)
              obtain ⟨hb5, f, kf, sf⟩ := h5.out
              have HB5 := Lib.hid hb5
              have KF := Lib.hid kf
              have SF := Lib.hid sf
              clear h5 heq hb5 kf sf
              go_wp2_with fail
              go_quiet (fail)
              rename_i nq
              have XD := Lib.hid ((Ext.refl w5).drewN nq)
              go_wp2_with fail
              rw [show decide ((a : Int) + (xs.size : Int) ≤ (t.size : Int)) = true from decide_eq_true (by omega)]
              go_loopw [11] (fun kk wr => ∃ k : Nat, k ≤ z ∧ kk = .int .i64 k ∧ Hid (But (Only g) w5 wr ∧ Blk wr g 3 (rowI (t.size + 1) (liftF f a k (fun i => xn.getD i 0))))) (fun kk _ => z - (intOf kk).toNat)
              case atStart =>
                refine ⟨0, Nat.zero_le _, rfl, ⟨But.of_ext XD.out, ?_⟩⟩
                rw [rowI_congr (g := f)]
                · exact KF.out.ext XD.out
                · intro i _; unfold liftF; rw [if_neg (by omega)]
              case round =>
                obtain ⟨k, hk, rfl, h6⟩ := hrel
                have b1 : wr.cell? ⟨Bx, 1, none⟩ = some (.slice xA z xc) := h6.out.1.at b1 (by show ¬ Bx = g; exact HBX.out)
                by_cases hkz : k < z
                · obtain ⟨ad, hxa, hcv⟩ := SX.out.get (k := k) (by rw [← HZ.out]; exact hkz)
                  have hcv := h6.out.1.at (HB5.out.at (X4.out.at (HH.out.1.at (X3.out.at hcv) (by rw [addr_block]; exact HADX.out _ hxa))) (by rw [addr_block]; exact HADX.out _ hxa)) (by rw [addr_block]; exact HADX.out _ hxa)
                  subst hxa
                  have hz2 := HX2.out
                  have hzb : z ≤ 100 := by omega
                  have hkb : k < 100 := by omega
                  have e0 : liftF f a k (fun i => xn.getD i 0) (a + k) = f (a + k) := by unfold liftF; rw [if_neg (by omega)]
                  have q1 : wr.cell? ⟨g, a + k, none⟩ = some (.int .i64 (f (a + k))) := by rw [h6.out.2.cell, rowI_get (by omega), e0]
                  have q2 : wr.frozen? ⟨g, a + k, none⟩ = false := h6.out.2.free _
                  obtain ⟨i0, hi0⟩ : ∃ i0, i0 = a + k := ⟨_, rfl⟩
                  have WI : IntKind.i64.wrap ((a : Int) + (k : Int)) = (i0 : Int) := by rw [IntWalk.i64_in _ (by omega), hi0]; omega
                  have hak : (i0 : Int) < (t.size : Int) + 1 := by rw [hi0]; omega
                  rw [← hi0] at q1 q2 e0
                  have HI0 := Lib.hid hi0
                  have EX := Lib.hid (show But (Only g) w5 (wr.setCell ⟨g, i0, none⟩ (.int .i64 (max (f i0) (xn.getD k 0)))).drew ∧ Blk (wr.setCell ⟨g, i0, none⟩ (.int .i64 (max (f i0) (xn.getD k 0)))).drew g 3 (rowI (t.size + 1) (liftF f a (k + 1) (fun i => xn.getD i 0))) by
                    refine ⟨(h6.out.1.trans (But.set (S := Only g) wr ⟨g, i0, none⟩ _ rfl) (fun i hi => .inl hi)).drew, ?_⟩
                    have := h6.out.2.set i0 (.int .i64 (max (f i0) (xn.getD k 0)))
                    rw [rowI_set (g := liftF f a (k + 1) (fun i => xn.getD i 0))] at this
                    · exact this.ext ((Ext.refl _).drew)
                    · intro i hi
                      by_cases e : i = i0
                      · rw [if_pos e, e, HI0.out]
                        unfold liftF
                        rw [if_pos (by omega), show a + k - a = k by omega]
                      · rw [if_neg e]
                        have e' : i ≠ a + k := fun h => e (h.trans HI0.out.symm)
                        unfold liftF
                        by_cases e2 : a ≤ i ∧ i < a + k
                        · rw [if_pos e2, if_pos (by omega)]
                        · rw [if_neg e2, if_neg (by omega)])
                  have H6 := Lib.hid h6.out
                  have HKZ := Lib.hid (show Nat.lt k z from hkz)
                  clear h6 e0 hz2 hi0
                  generalize hfi : f i0 = fi at *
                  have HFI := Lib.hid hfi
                  generalize hxk : xn.getD k 0 = xk at *
                  have HXK := Lib.hid hxk
                  clear hfi hxk
                  go_wp2_with fail
                  go_still_tail 17, (by kernel_rfl)
                  change wpList _ _ _ _ _ wr.drew
                  go_wp2_with fail
                  go_roundw
                  case rel => exact ⟨k + 1, by have := HKZ.out; exact this, by go_num, EX⟩
                  case measure => simp [intOf]; omega
                · obtain rfl : k = z := by omega
                  have NX := Lib.hid (show But (Only g) w4 wr ∧ ∃ f, Blk wr g 3 (rowI (t.size + 1) f) ∧ Sup (textL s.data.toList) (fun x b => (x ∈ (l.take j).map tn ∧ b < t.size) ∨ (x = tn ⟨xs, xn, xA, xc⟩ ∧ b < a + 1)) f by
                    refine ⟨HB5.out.trans h6.out.1 (fun i hi => .inl hi), _, h6.out.2, ?_⟩
                    have hz1 := HZ.out
                    have hsa := SF.out.add (tn ⟨xs, xn, xA, xc⟩) a (g := liftF f a k (fun i => xn.getD i 0)) (fun i => by
                      have h0 := SF.out.nonneg i
                      unfold liftF hit
                      by_cases hai : a ≤ i
                      · rw [if_pos (show a ≤ i ∧ (tn ⟨xs, xn, xA, xc⟩).1 <+: (textL s.data.toList).drop a from ⟨hai, HPR.out⟩)]
                        by_cases hik : i < a + k
                        · rw [if_pos ⟨hai, hik⟩]; rfl
                        · rw [if_neg (fun h => hik h.2)]
                          have : (tn ⟨xs, xn, xA, xc⟩).2.getD (i - a) 0 = 0 := by
                            show xn.getD (i - a) 0 = 0
                            rw [List.getD, List.getElem?_eq_none (by omega)]; rfl
                          rw [this]; omega
                      · rw [if_neg (fun h => hai h.1), if_neg (fun h => hai h.1)]; omega)
                    refine hsa.iff (fun x b _ => ⟨fun h => ?_, fun h => ?_⟩)
                    · rcases h with (h | h) | h
                      · exact .inl h
                      · exact .inr ⟨h.1, by omega⟩
                      · exact .inr ⟨h.1, by omega⟩
                    · rcases h with h | h
                      · exact .inl (.inl h)
                      · by_cases e : b = a
                        · exact .inr ⟨h.1, e⟩
                        · exact .inl (.inr ⟨h.1, by omega⟩))
                  clear h6
                  go_wp2_with fail
                  go_roundw
                  case rel => exact ⟨a + 1, by omega, by go_num, NX⟩
                  case measure => simp [intOf]; omega
            · have HEW := str_dec11 t a (a + xs.size) xs (textL s.data.toList) HTL.out
              rw [show a + xs.size - a = xs.size by omega, decide_eq_false heq] at HEW
              have NX := Lib.hid (show ∀ q, But (Only g) w4 (w5.drewN q) ∧ ∃ f, Blk (w5.drewN q) g 3 (rowI (t.size + 1) f) ∧ Sup (textL s.data.toList) (fun x b => (x ∈ (l.take j).map tn ∧ b < t.size) ∨ (x = tn ⟨xs, xn, xA, xc⟩ ∧ b < a + 1)) f by
                intro q
                obtain ⟨hb, f, kf, sf⟩ := h5.out
                have XD := (Ext.refl w5).drewN q
                refine ⟨hb.trans (But.of_ext (S := Only g) XD) (fun i hi => .inl hi), f, kf.ext XD, sf.iff (fun x b hpre => ⟨fun h => h.imp id (fun h => ⟨h.1, by omega⟩), fun h => h.imp id (fun h => ⟨h.1, ?_⟩)⟩)⟩
                by_cases e : b = a
                · exfalso
                  rw [h.1, e] at hpre
                  apply heq
                  have h6 := List.prefix_iff_eq_take.1 hpre
                  simp only [tn, list_size] at h6
                  exact h6.symm
                · omega)
              clear h5 heq
              go_wp2_with fail
              go_quiet (fail)
              rename_i nq
              go_wp2_with fail
              go_roundw
              case rel => exact ⟨a + 1, by omega, by go_num, Lib.hid (NX.out nq)⟩
              case measure => simp [intOf]; omega
          · have NX := Lib.hid (show But (Only g) w3 w5 ∧ ∃ f, Blk w5 g 3 (rowI (t.size + 1) f) ∧ Sup (textL s.data.toList) (fun x b => x ∈ (l.take (j + 1)).map tn ∧ b < t.size) f by
              obtain ⟨hb, f, kf, sf⟩ := h5.out
              refine ⟨(HH.out.1.trans (But.of_ext (S := Only g) X4.out) (fun i hi => .inl hi)).trans hb (fun i hi => .inl hi), f, kf, sf.iff (fun x b hpre => ?_)⟩
              rw [TK.out, List.mem_append, List.mem_singleton]
              have hb1 : x = tn ⟨xs, xn, xA, xc⟩ → (b < a ↔ b < t.size) := fun e => by
                rw [e] at hpre
                have h7 := hpre.length_le
                have h8 := HTL.out
                have h9 : (textL s.data.toList).length = t.size := by rw [← h8, list_size]
                simp only [tn, list_size, List.length_drop, h9] at h7
                omega
              constructor
              · rintro (h | h)
                · exact ⟨.inl h.1, h.2⟩
                · exact ⟨.inr h.1, (hb1 h.1).1 h.2⟩
              · rintro ⟨h | h, hb2⟩
                · exact .inl ⟨h, hb2⟩
                · exact .inr ⟨h, (hb1 h).2 hb2⟩)
            clear h5
            go_wp2_with fail
            go_roundw
            case rel => exact ⟨j + 1, by have := HLT.out; exact this, by go_num, NX⟩
            case measure => simp [intOf]; omega
      · obtain rfl : j = n := by omega
        have hte : ¬ t = ByteArray.empty := by
          intro h
          rw [h] at ht1
          simp at ht1
        go_wp2_with fail
        go_ret
        have hnn := HN.out
        obtain ⟨hb, f, kk, sup⟩ := hh.out
        have hs := HTS.out
        have hlen : (valsL (l.map tn) s.data.toList).length = t.size - 1 := by rw [valsL_length HW.out, list_size]; omega
        have hget : ∀ i, i < t.size - 1 → (valsL (l.map tn) s.data.toList)[i]? = some (f (i + 1)) := fun i hi => by
          rw [valsL_get HW.out (by rw [list_size]; omega)]
          congr 1
          exact (numF_sup (l.map tn) _).uniq sup (fun x b _ => by rw [textL_length, list_size, ← hs, hnn, List.take_length]) (i + 1)
        refine ⟨?_, some ⟨g, 1, none⟩, t.size, by rw [hlen]; rfl, fun i v hv => ?_⟩
        · have := RG.out
          exact hb.ext (HX.out.trans X3.out) (fun i hi => by rw [show i = g from hi]; have := HX.out.size; omega)
        · have hi : i < t.size - 1 := by
            have := (List.getElem?_eq_some_iff.1 hv).1
            rw [List.length_map, hlen] at this
            exact this
          rw [List.getElem?_map, hget i hi] at hv
          simp only [Option.map_some, Option.some.injEq] at hv
          refine ⟨_, rfl, kk.lt, ?_⟩
          have e1 : (⟨g, 1, none⟩ : Addr).add i = ⟨g, i + 1, none⟩ := by
            unfold Addr.add
            by_cases h0 : i = 0
            · subst h0; rfl
            · simp [h0]; omega
          rw [e1, kk.cell, rowI_get (by omega), hv]
end L11
end Go.Proofs.Ytenajekmnggkeaa

