/- The landed Read of layer 7. -/
import Derived.Test.YtggedodfkjdegaaTakenB07
import Derived.Test.YtggedodfkjdegaaTfmE07
namespace Go.Proofs.Ytggedodfkjdegaa
open Go.RowKit
namespace L07
open L06

/-- What Read answers: the font of which these are the bytes; or none, if there is none. -/
def ReadB (w : World) (l : List UInt8) (e : Ending) (w' : World) : Prop :=
  (∃ D P, e = .returned (.tuple #[fontV D P, .int .i64 0]) ∧ FontOk D P ∧ SeenFont w' D P ∧ Ext w w' ∧ checkB D = true ∧ writeB D = l) ∨
    (e = .returned (.tuple #[fontV noD noP, .int .i64 70]) ∧ ¬ FontOf l ∧ Ext w w')

theorem equal_any (A B : Option Addr) (l m : List UInt8) (c d : Nat) (w : World) (h1 : SeenB w A l) (h2 : SeenB w B m) :
    Calls Try.prog 12 #[.slice A l.length c, .slice B m.length d] w (fun e w' => e = .returned (.bool (decide (l = m))) ∧ w' = w) := by
  have s1 := str_of h1 c l.length rfl
  have s2 := str_of h2 d m.length rfl
  have E : (⟨l.toArray⟩ : ByteArray) = ⟨m.toArray⟩ ↔ l = m := by simp
  go_enter Try.func12, Try.ntmps12
  go_wp2_with fail
  go_ret
  exact ⟨ret_bool (by rw [Bool.eq_iff_iff]; simp), rfl⟩

set_option maxRecDepth 100000 in
set_option maxHeartbeats 8000000 in
theorem tread_any (A : Option Addr) (l : List UInt8) (c : Nat) (w : World) (hb : SeenB w A l) (hc : l.length ≤ c) (hl : l.length ≤ 100000) :
    Calls Try.prog 5 #[.slice A l.length c] w (ReadB w l) := by
  have X0 : Ext w (w.alloc (.cells #[.int .i64 0, .int .i64 0, .int .i64 0, .slice none 0 0, .slice none 0 0, .slice none 0 0, .slice none 0 0, .slice none 0 0, .slice none 0 0, .slice none 0 0, .slice none 0 0] 28)) := (Ext.refl _).alloc _
  have kR : Blk (w.alloc (.cells #[.int .i64 0, .int .i64 0, .int .i64 0, .slice none 0 0, .slice none 0 0, .slice none 0 0, .slice none 0 0, .slice none 0 0, .slice none 0 0, .slice none 0 0, .slice none 0 0] 28)) w.heap.size 28 [.int .i64 0, .int .i64 0, .int .i64 0, .slice none 0 0, .slice none 0 0, .slice none 0 0, .slice none 0 0, .slice none 0 0, .slice none 0 0, .slice none 0 0, .slice none 0 0] := Blk.lit _ _ _ _ rfl
  have T := Lib.hid (taken_any A l c _ (hb.ext X0) hc hl)
  have HB := Lib.hid hb
  have hV : w.heap.size < (w.alloc (.cells #[.int .i64 0, .int .i64 0, .int .i64 0, .slice none 0 0, .slice none 0 0, .slice none 0 0, .slice none 0 0, .slice none 0 0, .slice none 0 0, .slice none 0 0, .slice none 0 0] 28)).heap.size := by simp
  clear hb hc
  go_enter Try.func5, Try.ntmps5
  go_wp2_with fail
  generalize (w.alloc (.cells #[.int .i64 0, .int .i64 0, .int .i64 0, .slice none 0 0, .slice none 0 0, .slice none 0 0, .slice none 0 0, .slice none 0 0, .slice none 0 0, .slice none 0 0, .slice none 0 0] 28)) = V at *
  refine T.out.mono ?_
  clear T
  rintro e w1 (⟨P, rfl, ok, hsn, x1⟩ | ⟨rfl, NF, x1⟩)
  · obtain ⟨D, hD⟩ : ∃ D, D = decD (fun n => n) l := ⟨_, rfl⟩
    rw [← hD] at ok hsn ⊢
    have sn := hsn (fun _ => False) 0 w1 (fun _ h => h.elim) (Chg.refl _ _ _)
    have HSN := Lib.hid hsn
    have xa : Ext w1 (w1.alloc (.cells #[.int .i64 D.sum, .int .i64 D.design, .int .i64 D.first, .slice P.xc D.nc P.zc, .slice P.xw D.nw P.zw, .slice P.xh D.nh P.zh, .slice P.xd D.nd P.zd, .slice P.xi D.ni P.zi, .slice P.xs D.ns P.zs, .slice P.xk D.nk P.zk, .slice P.xp D.np P.zp] 28)) := (Ext.refl _).alloc _
    clear hsn
    have CK : ∀ h : FontOf l, checkB D = true ∧ writeB D = l := fun h => by rw [hD]; exact dec_of h _ (fun n _ _ => rfl)
    clear hD
    have CK := Lib.hid CK
    have X1 := X0.trans x1
    have kR1 : Blk w1 w.heap.size 28 [.int .i64 0, .int .i64 0, .int .i64 0, .slice none 0 0, .slice none 0 0, .slice none 0 0, .slice none 0 0, .slice none 0 0, .slice none 0 0, .slice none 0 0, .slice none 0 0] := kR.ext x1
    have X2 : Ext w (w1.alloc (.cells #[.int .i64 D.sum, .int .i64 D.design, .int .i64 D.first, .slice P.xc D.nc P.zc, .slice P.xw D.nw P.zw, .slice P.xh D.nh P.zh, .slice P.xd D.nd P.zd, .slice P.xi D.ni P.zi, .slice P.xs D.ns P.zs, .slice P.xk D.nk P.zk, .slice P.xp D.np P.zp] 28)) := X1.alloc _
    have kR2 : Blk (w1.alloc (.cells #[.int .i64 D.sum, .int .i64 D.design, .int .i64 D.first, .slice P.xc D.nc P.zc, .slice P.xw D.nw P.zw, .slice P.xh D.nh P.zh, .slice P.xd D.nd P.zd, .slice P.xi D.ni P.zi, .slice P.xs D.ns P.zs, .slice P.xk D.nk P.zk, .slice P.xp D.np P.zp] 28)) w.heap.size 28 [.int .i64 0, .int .i64 0, .int .i64 0, .slice none 0 0, .slice none 0 0, .slice none 0 0, .slice none 0 0, .slice none 0 0, .slice none 0 0, .slice none 0 0, .slice none 0 0] := kR1.ext ((Ext.refl _).alloc _)
    have kF2 : Blk (w1.alloc (.cells #[.int .i64 D.sum, .int .i64 D.design, .int .i64 D.first, .slice P.xc D.nc P.zc, .slice P.xw D.nw P.zw, .slice P.xh D.nh P.zh, .slice P.xd D.nd P.zd, .slice P.xi D.ni P.zi, .slice P.xs D.ns P.zs, .slice P.xk D.nk P.zk, .slice P.xp D.np P.zp] 28)) w1.heap.size 28 [.int .i64 D.sum, .int .i64 D.design, .int .i64 D.first, .slice P.xc D.nc P.zc, .slice P.xw D.nw P.zw, .slice P.xh D.nh P.zh, .slice P.xd D.nd P.zd, .slice P.xi D.ni P.zi, .slice P.xs D.ns P.zs, .slice P.xk D.nk P.zk, .slice P.xp D.np P.zp] := Blk.lit _ _ _ _ rfl
    have sn2 := sn.ext ((Ext.refl w1).alloc (.cells #[.int .i64 D.sum, .int .i64 D.design, .int .i64 D.first, .slice P.xc D.nc P.zc, .slice P.xw D.nw P.zw, .slice P.xh D.nh P.zh, .slice P.xd D.nd P.zd, .slice P.xi D.ni P.zi, .slice P.xs D.ns P.zs, .slice P.xk D.nk P.zk, .slice P.xp D.np P.zp] 28))
    have WN := Lib.hid (twrite_no D P _ ok sn2)
    have WY := Lib.hid (twrite_yes D P _ ok sn2)
    have OK := Lib.hid ok
    clear kR kR1 ok sn sn2 x1 X0 X1
    unfold fontV at *
    go_wp2_with fail
    generalize (w1.alloc (.cells #[.int .i64 D.sum, .int .i64 D.design, .int .i64 D.first, .slice P.xc D.nc P.zc, .slice P.xw D.nw P.zw, .slice P.xh D.nh P.zh, .slice P.xd D.nd P.zd, .slice P.xi D.ni P.zi, .slice P.xs D.ns P.zs, .slice P.xk D.nk P.zk, .slice P.xp D.np P.zp] 28)) = w2 at *
    generalize w1.heap.size = F at *
    generalize hRg : w.heap.size = R at *
    cases hck : checkB D with
    | false =>
      have NF : ¬ FontOf l := fun h => by rw [(CK.out h).1] at hck; cases hck
      refine (WN.out hck).mono ?_; rintro e w3 ⟨rfl, x3⟩
      have X3 := X2.trans x3
      have kR3 : Blk w3 R 28 [.int .i64 0, .int .i64 0, .int .i64 0, .slice none 0 0, .slice none 0 0, .slice none 0 0, .slice none 0 0, .slice none 0 0, .slice none 0 0, .slice none 0 0, .slice none 0 0] := kR2.ext x3
      have r0 : w3.cell? ⟨R, 0, none⟩ = some (.int .i64 0) := kR3.cell 0
      have z0 := kR3.free 0
      have r1 : w3.cell? ⟨R, 1, none⟩ = some (.int .i64 0) := kR3.cell 1
      have z1 := kR3.free 1
      have r2 : w3.cell? ⟨R, 2, none⟩ = some (.int .i64 0) := kR3.cell 2
      have z2 := kR3.free 2
      have r3 : w3.cell? ⟨R, 3, none⟩ = some (.slice none 0 0) := kR3.cell 3
      have z3 := kR3.free 3
      have r4 : w3.cell? ⟨R, 4, none⟩ = some (.slice none 0 0) := kR3.cell 4
      have z4 := kR3.free 4
      have r5 : w3.cell? ⟨R, 5, none⟩ = some (.slice none 0 0) := kR3.cell 5
      have z5 := kR3.free 5
      have r6 : w3.cell? ⟨R, 6, none⟩ = some (.slice none 0 0) := kR3.cell 6
      have z6 := kR3.free 6
      have r7 : w3.cell? ⟨R, 7, none⟩ = some (.slice none 0 0) := kR3.cell 7
      have z7 := kR3.free 7
      have r8 : w3.cell? ⟨R, 8, none⟩ = some (.slice none 0 0) := kR3.cell 8
      have z8 := kR3.free 8
      have r9 : w3.cell? ⟨R, 9, none⟩ = some (.slice none 0 0) := kR3.cell 9
      have z9 := kR3.free 9
      have r10 : w3.cell? ⟨R, 10, none⟩ = some (.slice none 0 0) := kR3.cell 10
      have z10 := kR3.free 10
      clear WN WY CK OK kR2 kF2 X2 x3 hck
      go_wp2_with fail
      refine bodyPost_ret (results_font rfl _ _ R 28 (.int .i64 70) (.int .i64 0) (.int .i64 0) (.int .i64 0) (.slice none 0 0) (.slice none 0 0) (.slice none 0 0) (.slice none 0 0) (.slice none 0 0) (.slice none 0 0) (.slice none 0 0) (.slice none 0 0) rfl rfl (((((((((((kR3.set 0 (.int .i64 0)).set 1 (.int .i64 0)).set 2 (.int .i64 0)).set 3 (.slice none 0 0)).set 4 (.slice none 0 0)).set 5 (.slice none 0 0)).set 6 (.slice none 0 0)).set 7 (.slice none 0 0)).set 8 (.slice none 0 0)).set 9 (.slice none 0 0)).set 10 (.slice none 0 0))) rfl ?_
      exact .inr ⟨rfl, NF, (((((((((((X3.setCell (by show _ ≤ R; omega) _).setCell (by show _ ≤ R; omega) _).setCell (by show _ ≤ R; omega) _).setCell (by show _ ≤ R; omega) _).setCell (by show _ ≤ R; omega) _).setCell (by show _ ≤ R; omega) _).setCell (by show _ ≤ R; omega) _).setCell (by show _ ≤ R; omega) _).setCell (by show _ ≤ R; omega) _).setCell (by show _ ≤ R; omega) _).setCell (by show _ ≤ R; omega) _)⟩
    | true =>
      refine (WY.out hck).mono ?_; rintro e w3 ⟨A3, c3, rfl, hc3, s3, x3⟩
      have X3 := X2.trans x3
      have kR3 : Blk w3 R 28 [.int .i64 0, .int .i64 0, .int .i64 0, .slice none 0 0, .slice none 0 0, .slice none 0 0, .slice none 0 0, .slice none 0 0, .slice none 0 0, .slice none 0 0, .slice none 0 0] := kR2.ext x3
      have kF3 : Blk w3 F 28 [.int .i64 D.sum, .int .i64 D.design, .int .i64 D.first, .slice P.xc D.nc P.zc, .slice P.xw D.nw P.zw, .slice P.xh D.nh P.zh, .slice P.xd D.nd P.zd, .slice P.xi D.ni P.zi, .slice P.xs D.ns P.zs, .slice P.xk D.nk P.zk, .slice P.xp D.np P.zp] := kF2.ext x3
      have r0 : w3.cell? ⟨R, 0, none⟩ = some (.int .i64 0) := kR3.cell 0
      have z0 := kR3.free 0
      have r1 : w3.cell? ⟨R, 1, none⟩ = some (.int .i64 0) := kR3.cell 1
      have z1 := kR3.free 1
      have r2 : w3.cell? ⟨R, 2, none⟩ = some (.int .i64 0) := kR3.cell 2
      have z2 := kR3.free 2
      have r3 : w3.cell? ⟨R, 3, none⟩ = some (.slice none 0 0) := kR3.cell 3
      have z3 := kR3.free 3
      have r4 : w3.cell? ⟨R, 4, none⟩ = some (.slice none 0 0) := kR3.cell 4
      have z4 := kR3.free 4
      have r5 : w3.cell? ⟨R, 5, none⟩ = some (.slice none 0 0) := kR3.cell 5
      have z5 := kR3.free 5
      have r6 : w3.cell? ⟨R, 6, none⟩ = some (.slice none 0 0) := kR3.cell 6
      have z6 := kR3.free 6
      have r7 : w3.cell? ⟨R, 7, none⟩ = some (.slice none 0 0) := kR3.cell 7
      have z7 := kR3.free 7
      have r8 : w3.cell? ⟨R, 8, none⟩ = some (.slice none 0 0) := kR3.cell 8
      have z8 := kR3.free 8
      have r9 : w3.cell? ⟨R, 9, none⟩ = some (.slice none 0 0) := kR3.cell 9
      have z9 := kR3.free 9
      have r10 : w3.cell? ⟨R, 10, none⟩ = some (.slice none 0 0) := kR3.cell 10
      have z10 := kR3.free 10
      have q0 : w3.cell? ⟨F, 0, none⟩ = some (.int .i64 D.sum) := kF3.cell 0
      have q1 : w3.cell? ⟨F, 1, none⟩ = some (.int .i64 D.design) := kF3.cell 1
      have q2 : w3.cell? ⟨F, 2, none⟩ = some (.int .i64 D.first) := kF3.cell 2
      have q3 : w3.cell? ⟨F, 3, none⟩ = some (.slice P.xc D.nc P.zc) := kF3.cell 3
      have q4 : w3.cell? ⟨F, 4, none⟩ = some (.slice P.xw D.nw P.zw) := kF3.cell 4
      have q5 : w3.cell? ⟨F, 5, none⟩ = some (.slice P.xh D.nh P.zh) := kF3.cell 5
      have q6 : w3.cell? ⟨F, 6, none⟩ = some (.slice P.xd D.nd P.zd) := kF3.cell 6
      have q7 : w3.cell? ⟨F, 7, none⟩ = some (.slice P.xi D.ni P.zi) := kF3.cell 7
      have q8 : w3.cell? ⟨F, 8, none⟩ = some (.slice P.xs D.ns P.zs) := kF3.cell 8
      have q9 : w3.cell? ⟨F, 9, none⟩ = some (.slice P.xk D.nk P.zk) := kF3.cell 9
      have q10 : w3.cell? ⟨F, 10, none⟩ = some (.slice P.xp D.np P.zp) := kF3.cell 10
      have EQ := Lib.hid (equal_any A3 A (writeB D) l c3 c w3 s3 (HB.out.ext X3))
      have xw := xa.trans x3
      clear WN WY kR2 kF2 kF3 X2 x3 s3
      go_wp2_with fail
      refine EQ.out.mono ?_; rintro e w4 ⟨rfl, rfl⟩
      by_cases heq : writeB D = l
      · rw [decide_eq_true heq]
        clear EQ CK
        go_wp2_with fail
        obtain ⟨W4, hW4⟩ : ∃ W4, W4 = (((((((((((w4.setCell ⟨R, 0, none⟩ (.int .i64 D.sum)).setCell ⟨R, 1, none⟩ (.int .i64 D.design)).setCell ⟨R, 2, none⟩ (.int .i64 D.first)).setCell ⟨R, 3, none⟩ (.slice P.xc D.nc P.zc)).setCell ⟨R, 4, none⟩ (.slice P.xw D.nw P.zw)).setCell ⟨R, 5, none⟩ (.slice P.xh D.nh P.zh)).setCell ⟨R, 6, none⟩ (.slice P.xd D.nd P.zd)).setCell ⟨R, 7, none⟩ (.slice P.xi D.ni P.zi)).setCell ⟨R, 8, none⟩ (.slice P.xs D.ns P.zs)).setCell ⟨R, 9, none⟩ (.slice P.xk D.nk P.zk)).setCell ⟨R, 10, none⟩ (.slice P.xp D.np P.zp)) := ⟨_, rfl⟩
        rw [← hW4]
        have kR4 : Blk W4 R 28 [.int .i64 D.sum, .int .i64 D.design, .int .i64 D.first, .slice P.xc D.nc P.zc, .slice P.xw D.nw P.zw, .slice P.xh D.nh P.zh, .slice P.xd D.nd P.zd, .slice P.xi D.ni P.zi, .slice P.xs D.ns P.zs, .slice P.xk D.nk P.zk, .slice P.xp D.np P.zp] := by rw [hW4]; exact (((((((((((kR3.set 0 (.int .i64 D.sum)).set 1 (.int .i64 D.design)).set 2 (.int .i64 D.first)).set 3 (.slice P.xc D.nc P.zc)).set 4 (.slice P.xw D.nw P.zw)).set 5 (.slice P.xh D.nh P.zh)).set 6 (.slice P.xd D.nd P.zd)).set 7 (.slice P.xi D.ni P.zi)).set 8 (.slice P.xs D.ns P.zs)).set 9 (.slice P.xk D.nk P.zk)).set 10 (.slice P.xp D.np P.zp))
        have CR : Chg (fun p => p.block = R) R w4 W4 := by rw [hW4]; exact (((((((((((Chg.set (T := fun p => p.block = R) (N := R) _ R 0 _ rfl (by omega)).trans (Chg.set (T := fun p => p.block = R) (N := R) _ R 1 _ rfl (by omega))).trans (Chg.set (T := fun p => p.block = R) (N := R) _ R 2 _ rfl (by omega))).trans (Chg.set (T := fun p => p.block = R) (N := R) _ R 3 _ rfl (by omega))).trans (Chg.set (T := fun p => p.block = R) (N := R) _ R 4 _ rfl (by omega))).trans (Chg.set (T := fun p => p.block = R) (N := R) _ R 5 _ rfl (by omega))).trans (Chg.set (T := fun p => p.block = R) (N := R) _ R 6 _ rfl (by omega))).trans (Chg.set (T := fun p => p.block = R) (N := R) _ R 7 _ rfl (by omega))).trans (Chg.set (T := fun p => p.block = R) (N := R) _ R 8 _ rfl (by omega))).trans (Chg.set (T := fun p => p.block = R) (N := R) _ R 9 _ rfl (by omega))).trans (Chg.set (T := fun p => p.block = R) (N := R) _ R 10 _ rfl (by omega)))
        have CW : Chg (fun p => p.block = R) R w1 W4 := (Chg.of_ext xw).trans CR
        have XW := CR.old w (by omega) X3
        refine bodyPost_ret (results_font rfl _ _ R 28 (.int .i64 0) (.int .i64 D.sum) (.int .i64 D.design) (.int .i64 D.first) (.slice P.xc D.nc P.zc) (.slice P.xw D.nw P.zw) (.slice P.xh D.nh P.zh) (.slice P.xd D.nd P.zd) (.slice P.xi D.ni P.zi) (.slice P.xs D.ns P.zs) (.slice P.xk D.nk P.zk) (.slice P.xp D.np P.zp) rfl rfl kR4) rfl ?_
        exact .inl ⟨D, P, rfl, OK.out, HSN.out _ _ W4 (fun p h => by rw [h]; exact hV) CW, XW, hck, heq⟩
      · rw [decide_eq_false heq]
        have NF : ¬ FontOf l := fun h => heq (CK.out h).2
        clear EQ CK OK
        go_wp2_with fail
        refine bodyPost_ret (results_font rfl _ _ R 28 (.int .i64 70) (.int .i64 0) (.int .i64 0) (.int .i64 0) (.slice none 0 0) (.slice none 0 0) (.slice none 0 0) (.slice none 0 0) (.slice none 0 0) (.slice none 0 0) (.slice none 0 0) (.slice none 0 0) rfl rfl (((((((((((kR3.set 0 (.int .i64 0)).set 1 (.int .i64 0)).set 2 (.int .i64 0)).set 3 (.slice none 0 0)).set 4 (.slice none 0 0)).set 5 (.slice none 0 0)).set 6 (.slice none 0 0)).set 7 (.slice none 0 0)).set 8 (.slice none 0 0)).set 9 (.slice none 0 0)).set 10 (.slice none 0 0))) rfl ?_
        exact .inr ⟨rfl, NF, (((((((((((X3.setCell (by show _ ≤ R; omega) _).setCell (by show _ ≤ R; omega) _).setCell (by show _ ≤ R; omega) _).setCell (by show _ ≤ R; omega) _).setCell (by show _ ≤ R; omega) _).setCell (by show _ ≤ R; omega) _).setCell (by show _ ≤ R; omega) _).setCell (by show _ ≤ R; omega) _).setCell (by show _ ≤ R; omega) _).setCell (by show _ ≤ R; omega) _).setCell (by show _ ≤ R; omega) _)⟩
  · have X1 := X0.trans x1
    have kR1 : Blk w1 w.heap.size 28 [.int .i64 0, .int .i64 0, .int .i64 0, .slice none 0 0, .slice none 0 0, .slice none 0 0, .slice none 0 0, .slice none 0 0, .slice none 0 0, .slice none 0 0, .slice none 0 0] := kR.ext x1
    have X2 : Ext w (w1.alloc (.cells #[.int .i64 0, .int .i64 0, .int .i64 0, .slice none 0 0, .slice none 0 0, .slice none 0 0, .slice none 0 0, .slice none 0 0, .slice none 0 0, .slice none 0 0, .slice none 0 0] 28)) := X1.alloc _
    have kR2 : Blk (w1.alloc (.cells #[.int .i64 0, .int .i64 0, .int .i64 0, .slice none 0 0, .slice none 0 0, .slice none 0 0, .slice none 0 0, .slice none 0 0, .slice none 0 0, .slice none 0 0, .slice none 0 0] 28)) w.heap.size 28 [.int .i64 0, .int .i64 0, .int .i64 0, .slice none 0 0, .slice none 0 0, .slice none 0 0, .slice none 0 0, .slice none 0 0, .slice none 0 0, .slice none 0 0, .slice none 0 0] := kR1.ext ((Ext.refl _).alloc _)
    obtain ⟨w2, hw2⟩ : ∃ w2, w2 = w1.alloc (.cells #[.int .i64 0, .int .i64 0, .int .i64 0, .slice none 0 0, .slice none 0 0, .slice none 0 0, .slice none 0 0, .slice none 0 0, .slice none 0 0, .slice none 0 0, .slice none 0 0] 28) := ⟨_, rfl⟩
    have hRs := X1.le
    rw [← hw2] at X2 kR2
    generalize hRg : w.heap.size = R at *
    have r0 : w2.cell? ⟨R, 0, none⟩ = some (.int .i64 0) := kR2.cell 0
    have z0 := kR2.free 0
    have r1 : w2.cell? ⟨R, 1, none⟩ = some (.int .i64 0) := kR2.cell 1
    have z1 := kR2.free 1
    have r2 : w2.cell? ⟨R, 2, none⟩ = some (.int .i64 0) := kR2.cell 2
    have z2 := kR2.free 2
    have r3 : w2.cell? ⟨R, 3, none⟩ = some (.slice none 0 0) := kR2.cell 3
    have z3 := kR2.free 3
    have r4 : w2.cell? ⟨R, 4, none⟩ = some (.slice none 0 0) := kR2.cell 4
    have z4 := kR2.free 4
    have r5 : w2.cell? ⟨R, 5, none⟩ = some (.slice none 0 0) := kR2.cell 5
    have z5 := kR2.free 5
    have r6 : w2.cell? ⟨R, 6, none⟩ = some (.slice none 0 0) := kR2.cell 6
    have z6 := kR2.free 6
    have r7 : w2.cell? ⟨R, 7, none⟩ = some (.slice none 0 0) := kR2.cell 7
    have z7 := kR2.free 7
    have r8 : w2.cell? ⟨R, 8, none⟩ = some (.slice none 0 0) := kR2.cell 8
    have z8 := kR2.free 8
    have r9 : w2.cell? ⟨R, 9, none⟩ = some (.slice none 0 0) := kR2.cell 9
    have z9 := kR2.free 9
    have r10 : w2.cell? ⟨R, 10, none⟩ = some (.slice none 0 0) := kR2.cell 10
    have z10 := kR2.free 10
    rw [hw2] at kR2 r0 r1 r2 r3 r4 r5 r6 r7 r8 r9 r10 z0 z1 z2 z3 z4 z5 z6 z7 z8 z9 z10 X2
    clear kR kR1 x1 X0 X1
    unfold fontV noD noP
    go_wp2_with fail
    refine bodyPost_ret (results_font rfl _ _ R 28 (.int .i64 70) (.int .i64 0) (.int .i64 0) (.int .i64 0) (.slice none 0 0) (.slice none 0 0) (.slice none 0 0) (.slice none 0 0) (.slice none 0 0) (.slice none 0 0) (.slice none 0 0) (.slice none 0 0) rfl rfl (((((((((((kR2.set 0 (.int .i64 0)).set 1 (.int .i64 0)).set 2 (.int .i64 0)).set 3 (.slice none 0 0)).set 4 (.slice none 0 0)).set 5 (.slice none 0 0)).set 6 (.slice none 0 0)).set 7 (.slice none 0 0)).set 8 (.slice none 0 0)).set 9 (.slice none 0 0)).set 10 (.slice none 0 0))) rfl ?_
    exact .inr ⟨rfl, NF, (((((((((((X2.setCell (by show _ ≤ R; omega) _).setCell (by show _ ≤ R; omega) _).setCell (by show _ ≤ R; omega) _).setCell (by show _ ≤ R; omega) _).setCell (by show _ ≤ R; omega) _).setCell (by show _ ≤ R; omega) _).setCell (by show _ ≤ R; omega) _).setCell (by show _ ≤ R; omega) _).setCell (by show _ ≤ R; omega) _).setCell (by show _ ≤ R; omega) _).setCell (by show _ ≤ R; omega) _)⟩
end L07
end Go.Proofs.Ytggedodfkjdegaa

