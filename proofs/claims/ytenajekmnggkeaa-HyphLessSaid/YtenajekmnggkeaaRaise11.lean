/- The landed raise of layer 11. -/
import Derived.Test.YtenajekmnggkeaaBuild11
namespace Go.Proofs.Ytenajekmnggkeaa
open Go.RowKit
open Go.Lib hiding intOf
namespace L11
open L10 (TN plainB patB tn)

theorem valF_beyond {p : List TN} (h : ∀ x ∈ p, patB x = true) {q : List UInt8} {k : Nat} (hk : q.length + 1 ≤ k) : valF p q k = 0 :=
  eq_of_le fun n => by
    rw [valF_le]
    refine ⟨fun h => h.1, fun h0 => ⟨h0, fun x hx e => ?_⟩⟩
    have := (L10.pat_vals (h x hx)).1
    rw [List.getD, List.getElem?_eq_none (by rw [this, e]; exact hk)]
    simpa using h0
/-- A node's row, of its values. -/
theorem lift_node {p : List TN} (hp : ∀ x ∈ p, patB x = true) {s : List UInt8} {H : TN → Nat → Prop} {f : Nat → Int} (h : Sup s H f) (a k m : Nat) (hm : m = if (s.drop a).take k ∈ keysL p then ((s.drop a).take k).length + 1 else 0) (h' : Nat → Int)
    (hh : ∀ j, j < m → h' j = valF p ((s.drop a).take k) j) : Sup s (fun x b => H x b ∨ (x ∈ p ∧ x.1 = (s.drop a).take k ∧ b = a)) (liftF f a m h') := by
  refine h.lift p a k (fun i => ?_)
  unfold liftF
  have h0 := h.nonneg i
  by_cases hi : a ≤ i
  · rw [if_pos hi]
    by_cases h1 : i < a + m
    · rw [if_pos ⟨hi, h1⟩, hh _ (by omega)]
    · rw [if_neg (fun k => h1 k.2)]
      have e : valF p ((s.drop a).take k) (i - a) = 0 := by
        by_cases h2 : (s.drop a).take k ∈ keysL p
        · rw [if_pos h2] at hm
          exact valF_beyond hp (by omega)
        · exact valF_none (fun x hx e => h2 (List.mem_map.2 ⟨x, hx, e⟩)) _
      rw [e]
      omega
  · rw [if_neg hi, if_neg (fun k => hi k.1)]
/-- What is said of the beginnings of so many bytes. -/
def upTo (H : TN → Nat → Prop) (p : List TN) (s : List UInt8) (a k : Nat) (x : TN) (b : Nat) : Prop := H x b ∨ (x ∈ p ∧ b = a ∧ ∃ j, 1 ≤ j ∧ j ≤ k ∧ x.1 = (s.drop a).take j)
theorem upTo_zero {H : TN → Nat → Prop} {p : List TN} {s : List UInt8} {a : Nat} {f : Nat → Int} (h : Sup s H f) : Sup s (upTo H p s a 0) f :=
  h.iff fun x b _ => ⟨.inl, fun k => k.elim id fun ⟨_, _, j, h1, h2, _⟩ => by omega⟩
theorem upTo_step {H : TN → Nat → Prop} {p : List TN} {s : List UInt8} {a k : Nat} {f : Nat → Int} (h : Sup s (fun x b => upTo H p s a k x b ∨ (x ∈ p ∧ x.1 = (s.drop a).take (k + 1) ∧ b = a)) f) : Sup s (upTo H p s a (k + 1)) f :=
  h.iff fun x b _ => by
    constructor
    · rintro ((h | ⟨h1, h2, j, h3, h4, h5⟩) | ⟨h1, h2, h3⟩)
      · exact .inl h
      · exact .inr ⟨h1, h2, j, h3, by omega, h5⟩
      · exact .inr ⟨h1, h3, k + 1, by omega, Nat.le_refl _, h2⟩
    · rintro (h | ⟨h1, h2, j, h3, h4, h5⟩)
      · exact .inl (.inl h)
      · by_cases e : j = k + 1
        · exact .inr ⟨h1, by rw [h5, e], h2⟩
        · exact .inl (.inr ⟨h1, h2, j, h3, by omega, h5⟩)
theorem upTo_end {H : TN → Nat → Prop} {p : List TN} (hp : ∀ x ∈ p, patB x = true) {s : List UInt8} {a k : Nat} {f : Nat → Int} (h : Sup s (upTo H p s a k) f) (hk : ∀ x ∈ p, x.1 <+: s.drop a → x.1.length ≤ k) : Sup s (fun x b => H x b ∨ (x ∈ p ∧ b = a)) f :=
  h.iff fun x b hx => by
    constructor
    · rintro (h | ⟨h1, h2, _⟩)
      · exact .inl h
      · exact .inr ⟨h1, h2⟩
    · rintro (h | ⟨h1, h2⟩)
      · exact .inl h
      · subst h2
        exact .inr ⟨h1, rfl, x.1.length, (L10.pat_len (hp x h1)).1, hk x h1 hx, List.prefix_iff_eq_take.1 hx⟩
/-- What raise leaves. -/
def RaiseQ (w : World) (g N : Nat) (s : List UInt8) (H : TN → Nat → Prop) (p : List TN) (a : Nat) (e : Ending) (w' : World) : Prop :=
  e = .returned (.tuple #[]) ∧ But (Only g) w w' ∧ ∃ f, Blk w' g 3 (rowI N f) ∧ Sup s (fun x b => H x b ∨ (x ∈ p ∧ b = a)) f

set_option maxRecDepth 100000 in
set_option maxHeartbeats 8000000 in
theorem raise_any (B bs bv : Nat) (d st : Int) (p : List TN) (G : List UInt8 → Nat) (g a ln cp N : Nat) (f : Nat → Int) (t : ByteArray) (s : List UInt8) (H : TN → Nat → Prop) (w : World) (mk : MadeAt w B bs bv d st p G) (hp : ∀ x ∈ p, patB x = true) (hp3 : p.length ≤ 300)
    (kg : Blk w g 3 (rowI N f)) (hg : g ≠ B ∧ ¬ pieces bs bv p G g) (ht : t.data.toList = s.drop a) (sup : Sup s H f) (hln : t.size + 1 ≤ ln) (hN : a + ln ≤ N) (hN2 : N ≤ 100000) :
    Calls Try.prog 44 #[.pointer (some ⟨B, 0, none⟩), .slice (some ⟨g, a, none⟩) ln cp, .string t] w (RaiseQ w g N s H p a) := by
  have hnl : (nodesL p).length ≤ 20000 := by
    have h1 := (nodes_length p).2
    have h2 := sumLen_le hp
    omega
  have hts : t.size = (s.drop a).length := by rw [← ht, list_size]
  have MK := Lib.hid mk
  have HP := Lib.hid hp
  have KG := Lib.hid kg
  have HG := Lib.hid hg
  have HT := Lib.hid ht
  have SUP := Lib.hid sup
  have HTS := Lib.hid hts
  have HROOT := Lib.hid (num_nil (nds_nodes p))
  clear mk hp kg hg ht sup hts
  go_enter Try.func44, Try.ntmps44
  go_wp2_with fail
  go_loopw [6, 12] (fun at' i wr => ∃ k : Nat, k ≤ t.size ∧ i = .int .i64 k ∧ at' = .int .i64 (num (nodesL p) ((s.drop a).take k)) ∧ Hid ((s.drop a).take k ∈ nodesL p ∧ But (Only g) w wr ∧ ∃ f, Blk wr g 3 (rowI N f) ∧ Sup s (upTo H p s a k) f)) (fun _ i _ => t.size - (intOf i).toNat)
  case atStart => exact ⟨0, Nat.zero_le _, rfl, (by rw [List.take_zero, HROOT.out]), ⟨(nds_nodes p).nil, But.refl _ _, f, KG.out, upTo_zero SUP.out⟩⟩
  case round =>
    obtain ⟨k, hk, rfl, rfl, hh⟩ := hrel
    obtain ⟨hmem, hb, fk, kk, supk⟩ := hh.out
    have hgp := HG.out
    have hBg : ¬ Only g B := fun e => hgp.1 e.symm
    have hbx := hb.blk MK.out.box hBg
    have hst := MK.out.steps.keepB hb (fun e => hgp.2 (.inl e.symm))
    have hrw := MK.out.rows.keepB hb (fun e => hgp.2 (.inr (.inl e.symm))) (fun q hq e => hgp.2 (.inr (.inr ⟨q, hq, e.symm⟩)))
    have c5 : wr.cell? ⟨B, 5, none⟩ = some (.map (some bs)) := hbx.cell 5
    have c6 : wr.cell? ⟨B, 6, none⟩ = some (.map (some bv)) := hbx.cell 6
    have n1 := num_pos (nodesL p) ((s.drop a).take k)
    have n2 := num_le hmem
    by_cases hlt : k < t.size
    · have LK := fun m => (hst.ext ((Ext.refl wr).drewN m)).look (num (nodesL p) ((s.drop a).take k)) t[k] (by omega)
      have hta : (s.drop a).take (k + 1) = (s.drop a).take k ++ [t[k]] := by rw [← HT.out]; exact take_at hlt
      have hsn := stepN_num hmem t[k]
      rw [← hta] at hsn
      by_cases hin : (s.drop a).take (k + 1) ∈ nodesL p
      · rw [if_pos hin] at hsn
        rw [hsn] at LK
        simp only [Option.getD_some, Option.isSome_some] at LK
        have n3 := num_pos (nodesL p) ((s.drop a).take (k + 1))
        have n4 := num_le hin
        have LV := fun m => (hrw.keep (w' := wr.drewN m) rfl (fun _ _ => rfl)).look (num (nodesL p) ((s.drop a).take (k + 1))) (by omega)
        rw [valN_num hin] at LV
        have HIN := Lib.hid hin
        have HB := Lib.hid hb
        have KK := Lib.hid kk
        have SK := Lib.hid supk
        have HRW := Lib.hid hrw
        have hlen : ((s.drop a).take (k + 1)).length = k + 1 := by rw [List.length_take, ← HTS.out]; omega
        have HLEN := Lib.hid hlen
        generalize hz : num (nodesL p) ((s.drop a).take k) = z at *
        generalize hy : num (nodesL p) ((s.drop a).take (k + 1)) = y at *
        have HY := Lib.hid hy
        clear hh hin hb kk supk hbx hst hrw hmem hta hsn hz hy hgp hBg n2
        by_cases hkey : (s.drop a).take (k + 1) ∈ keysL p
        · rw [if_pos hkey] at LV
          simp only [rowV] at LV
          rw [hlen] at LV
          have ROW := Lib.hid (HRW.out.row _ hkey)
          have HKEY := Lib.hid hkey
          clear hkey hlen
          go_wp2_with fail
          go_quiet (fail)
          rename_i nq
          have X2 := (Ext.refl wr).drewN nq
          have c6 := X2.at c6
          have LV := LV nq
          have LF := Lib.hid (lift_any g a ln cp N fk (some ⟨G ((s.drop a).take (k + 1)), 0, none⟩) (k + 1 + 1) (k + 1 + 1) (valF p ((s.drop a).take (k + 1))) (wr.drewN nq) (KK.out.ext X2)
            (by have h1 := ROW.out.ext X2; intro j hj
                refine ⟨_, rfl, h1.lt, ?_⟩
                rw [add_zero_addr]
                have h2 := h1.cell j
                rw [h2, rowL, HLEN.out]
                exact rowI_get (f := valF p ((s.drop a).take (k + 1))) hj)
            (fun _ ad e => by cases e; exact fun e' => HG.out.2 (.inr (.inr ⟨_, HKEY.out, e'.symm⟩))) (by omega) hN (by omega))
          have HB2 := Lib.hid (HB.out.trans (But.of_ext (S := Only g) X2) (fun i hi => .inl hi))
          generalize wr.drewN nq = V2 at *
          clear LK X2
          go_wp2_with fail
          refine LF.out.mono ?_; rintro e w3 ⟨rfl, b3, k3⟩
          have HH := Lib.hid (show (s.drop a).take (k + 1) ∈ nodesL p ∧ But (Only g) w w3 ∧ ∃ f, Blk w3 g 3 (rowI N f) ∧ Sup s (upTo H p s a (k + 1)) f from
            ⟨HIN.out, HB2.out.trans b3 (fun i hi => .inl hi), _, k3, upTo_step (lift_node HP.out SK.out a (k + 1) (k + 1 + 1) (by rw [if_pos HKEY.out, HLEN.out]) _ (fun j _ => rfl))⟩)
          clear b3 k3 LF HB2 KK SK ROW HRW HB
          go_wp2_with fail
          go_roundw
          case rel => exact ⟨k + 1, by omega, by go_num, by rw [HY.out], HH⟩
          case measure => simp [intOf]; omega
        · rw [if_neg hkey] at LV
          simp only [rowV] at LV
          have HKEY := Lib.hid hkey
          clear hkey hlen
          go_wp2_with fail
          go_quiet (fail)
          rename_i nq
          have X2 := (Ext.refl wr).drewN nq
          have c6 := X2.at c6
          have LV := LV nq
          have LF := Lib.hid (lift_any g a ln cp N fk none 0 0 (fun _ => 0) (wr.drewN nq) (KK.out.ext X2) SeenF.none (fun h => absurd rfl h) (by omega) hN (by omega))
          have HB2 := Lib.hid (HB.out.trans (But.of_ext (S := Only g) X2) (fun i hi => .inl hi))
          generalize wr.drewN nq = V2 at *
          clear LK X2
          go_wp2_with fail
          refine LF.out.mono ?_; rintro e w3 ⟨rfl, b3, k3⟩
          have HH := Lib.hid (show (s.drop a).take (k + 1) ∈ nodesL p ∧ But (Only g) w w3 ∧ ∃ f, Blk w3 g 3 (rowI N f) ∧ Sup s (upTo H p s a (k + 1)) f from
            ⟨HIN.out, HB2.out.trans b3 (fun i hi => .inl hi), _, k3, upTo_step (lift_node HP.out SK.out a (k + 1) 0 (by rw [if_neg HKEY.out]) _ (fun j hj => by omega))⟩)
          clear b3 k3 LF HB2 KK SK HRW HB
          go_wp2_with fail
          go_roundw
          case rel => exact ⟨k + 1, by omega, by go_num, by rw [HY.out], HH⟩
          case measure => simp [intOf]; omega
      · rw [if_neg hin] at hsn
        rw [hsn] at LK
        simp only [Option.getD_none, Option.isSome_none] at LK
        have FIN := Lib.hid (show But (Only g) w wr ∧ ∃ f, Blk wr g 3 (rowI N f) ∧ Sup s (fun x b => H x b ∨ (x ∈ p ∧ b = a)) f from
          ⟨hb, fk, kk, upTo_end HP.out supk (fun x hx hpre => by
            rcases Nat.lt_or_ge k x.1.length with h | h
            · refine absurd (mem_nodes.2 (.inr ⟨x, hx, ?_⟩)) hin
              rw [List.prefix_iff_eq_take.1 hpre, List.prefix_take_iff]
              exact ⟨List.take_prefix _ _, by rw [List.length_take]; omega⟩
            · exact h)⟩)
        generalize hz : num (nodesL p) ((s.drop a).take k) = z at *
        clear hh hin hb kk supk hbx hst hrw hmem hta hsn hz hgp hBg n2
        go_wp2_with fail
        go_quiet (fail)
        rename_i nq
        go_wp2_with fail
        go_end0
        have X2 := (Ext.refl wr).drewN nq
        obtain ⟨f1, f2, f3, f4⟩ := FIN.out
        exact ⟨rfl, f1.trans (But.of_ext (S := Only g) X2) (fun i hi => .inl hi), f2, f3.ext X2, f4⟩
    · obtain rfl : k = t.size := by omega
      have FIN := Lib.hid (show But (Only g) w wr ∧ ∃ f, Blk wr g 3 (rowI N f) ∧ Sup s (fun x b => H x b ∨ (x ∈ p ∧ b = a)) f from
        ⟨hb, fk, kk, upTo_end HP.out supk (fun x hx hpre => by have := hpre.length_le; rw [HTS.out]; exact this)⟩)
      generalize hz : num (nodesL p) ((s.drop a).take t.size) = z at *
      clear hh hb kk supk hbx hst hrw hmem hz hgp hBg n2
      go_wp2_with fail
      go_end0
      exact ⟨rfl, FIN.out⟩
end L11
end Go.Proofs.Ytenajekmnggkeaa

