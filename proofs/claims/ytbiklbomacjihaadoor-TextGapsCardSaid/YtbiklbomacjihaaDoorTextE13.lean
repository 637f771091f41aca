/- The landed all, read of layer 13: a word of bytes. -/
import Derived.Test.YtbiklbomacjihaaDoorTextD13
import Derived.Laws.EntriesVeiled
namespace Go.Proofs.YtbiklbomacjihaaDoor
open Go.RowKit
namespace L13
open L10 (risesB)

/-- All bytes, up to the first one that may not stand there. -/
def allT : TS → List UInt8 → TS × Bool
  | s, [] => (s, true)
  | s, b :: r => if (takeT s b).2 = true then allT (takeT s b).1 r else ((takeT s b).1, false)
theorem takeT_len (s : TS) (b : UInt8) : (takeT s b).1.cs.length ≤ s.cs.length + 1 ∧ (takeT s b).1.ss.length ≤ s.ss.length + 1 := by
  unfold takeT
  split
  · simp
  · split <;> simp
theorem allT_drop {s : TS} {l : List UInt8} {k : Nat} (h : k < l.length) : allT s (l.drop k) = if (takeT s l[k]).2 = true then allT (takeT s l[k]).1 (l.drop (k + 1)) else ((takeT s l[k]).1, false) := by
  rw [List.drop_eq_getElem_cons h, allT]
/-- What is read, beside the document's word of the same bytes. -/
theorem allT_of : ∀ (m : Nat) (l : List UInt8) (cs ss : List Int), l.length ≤ m →
    ((allT ⟨cs, ss, false⟩ l).2 = true ∧ (allT ⟨cs, ss, false⟩ l).1.hf = false → (allT ⟨cs, ss, false⟩ l).1 = ⟨cs ++ (ofGo l cs.length).1, ss ++ (ofGo l cs.length).2, false⟩) ∧
    (¬ ((allT ⟨cs, ss, false⟩ l).2 = true ∧ (allT ⟨cs, ss, false⟩ l).1.hf = false) → (194 : Int) ∈ (ofGo l cs.length).1)
  | _, [], cs, ss, _ => ⟨fun _ => by simp [allT, ofGo], fun h => absurd ⟨rfl, rfl⟩ h⟩
  | 0, b :: r, _, _, h => by simp at h
  | m + 1, [b], cs, ss, _ => by
    by_cases hb : b = 194
    · have e : takeT ⟨cs, ss, false⟩ b = (⟨cs, ss, true⟩, true) := by rw [takeT, if_neg (by simp), if_pos hb]
      simp only [allT, e, if_true, ofGo]
      refine ⟨fun h => by simp at h, fun _ => by rw [hb]; simp⟩
    · have e : takeT ⟨cs, ss, false⟩ b = (⟨cs ++ [(b.toNat : Int)], ss, false⟩, true) := by rw [takeT, if_neg (by simp), if_neg hb]
      simp only [allT, e, if_true, ofGo]
      exact ⟨fun _ => by simp, fun h => absurd (by trivial) h⟩
  | m + 1, b :: d :: r, cs, ss, h => by
    by_cases hb : b = 194
    · have e : takeT ⟨cs, ss, false⟩ b = (⟨cs, ss, true⟩, true) := by rw [takeT, if_neg (by simp), if_pos hb]
      by_cases hd : d = 173
      · have e2 : takeT ⟨cs, ss, true⟩ d = (⟨cs, ss ++ [(cs.length : Int)], false⟩, true) := by rw [takeT, if_pos rfl]; simp [hd]
        have e3 : ofGo (b :: d :: r) cs.length = ((ofGo r cs.length).1, (cs.length : Int) :: (ofGo r cs.length).2) := by rw [ofGo, if_pos ⟨hb, hd⟩]
        obtain ⟨i1, i2⟩ := allT_of m r cs (ss ++ [(cs.length : Int)]) (by simp at h; omega)
        have e4 : allT ⟨cs, ss, false⟩ (b :: d :: r) = allT ⟨cs, ss ++ [(cs.length : Int)], false⟩ r := by
          rw [allT, e, if_pos rfl, allT, e2, if_pos rfl]
        rw [e4, e3]
        refine ⟨fun h => ?_, i2⟩
        rw [i1 h]
        simp
      · have e2 : takeT ⟨cs, ss, true⟩ d = (⟨cs, ss ++ [(cs.length : Int)], false⟩, false) := by rw [takeT, if_pos rfl]; simp [hd]
        have e3 : ofGo (b :: d :: r) cs.length = ((b.toNat : Int) :: (ofGo (d :: r) (cs.length + 1)).1, (ofGo (d :: r) (cs.length + 1)).2) := by rw [ofGo, if_neg (fun h => hd h.2)]
        have e4 : allT ⟨cs, ss, false⟩ (b :: d :: r) = (⟨cs, ss ++ [(cs.length : Int)], false⟩, false) := by
          rw [allT, e, if_pos rfl, allT, e2, if_neg (by simp)]
        rw [e4, e3]
        refine ⟨fun h => by simp at h, fun _ => by rw [hb]; simp⟩
    · have e : takeT ⟨cs, ss, false⟩ b = (⟨cs ++ [(b.toNat : Int)], ss, false⟩, true) := by rw [takeT, if_neg (by simp), if_neg hb]
      have e3 : ofGo (b :: d :: r) cs.length = ((b.toNat : Int) :: (ofGo (d :: r) (cs.length + 1)).1, (ofGo (d :: r) (cs.length + 1)).2) := by rw [ofGo, if_neg (fun h => hb h.1)]
      obtain ⟨i1, i2⟩ := allT_of m (d :: r) (cs ++ [(b.toNat : Int)]) ss (by simp at h ⊢; omega)
      have e4 : allT ⟨cs, ss, false⟩ (b :: d :: r) = allT ⟨cs ++ [(b.toNat : Int)], ss, false⟩ (d :: r) := by
        rw [allT, e, if_pos rfl]
      have e5 : (cs ++ [(b.toNat : Int)]).length = cs.length + 1 := by simp
      rw [e5] at i1 i2
      rw [e4, e3]
      refine ⟨fun h => ?_, fun h => ?_⟩
      · rw [i1 h]
        simp
      · have := i2 h
        simp [this]
theorem ofGo_len : ∀ (m : Nat) (l : List UInt8) (n : Nat), l.length ≤ m → (ofGo l n).1.length + 2 * (ofGo l n).2.length = l.length
  | _, [], _, _ => by simp [ofGo]
  | 0, b :: r, _, h => by simp at h
  | _ + 1, [b], _, _ => by simp [ofGo]
  | m + 1, b :: d :: r, n, h => by
    rw [ofGo]
    split
    · have := ofGo_len m r n (by simp at h; omega)
      simp only [List.length_cons]
      omega
    · have := ofGo_len m (d :: r) (n + 1) (by simp at h ⊢; omega)
      simp only [List.length_cons] at this ⊢
      omega
theorem rises_len : ∀ (l : List Int) (least n : Int), risesB n least l = true → least ≤ n → (l.length : Int) ≤ n - least
  | [], _, _, _, h => by simp only [List.length_nil]; omega
  | a :: r, least, n, h, hln => by
    simp only [risesB, Bool.and_eq_true, decide_eq_true_eq] at h
    have := rises_len r (a + 1) n h.2 (by omega)
    simp only [List.length_cons]
    omega
/-- A word has so many bytes at most. -/
theorem word_longest {l : List UInt8} (h : wordB (ofL l) = true) : l.length ≤ 178 := by
  have h1 := word_short h
  simp only [wordB, Bool.and_eq_true] at h
  have h2 := rises_len _ _ _ h.2.2 (by omega)
  have h3 := ofGo_len l.length l 0 (Nat.le_refl _)
  unfold ofL at h1 h2
  omega
theorem word_no194 {l : List UInt8} (h : (194 : Int) ∈ (ofGo l 0).1) : wordB (ofL l) = false := by
  rw [Bool.eq_false_iff]
  intro hw
  simp only [wordB, Bool.and_eq_true] at hw
  have := List.all_eq_true.1 hw.2.1 194 h
  simp [codeB] at this
theorem allT_wide : ∀ (l : List UInt8) (s : TS), (∀ c ∈ s.cs, 0 ≤ c ∧ c ≤ 255) → (∀ c ∈ s.ss, 0 ≤ c ∧ c ≤ (s.cs.length : Int)) →
    (∀ c ∈ (allT s l).1.cs, 0 ≤ c ∧ c ≤ 255) ∧ (∀ c ∈ (allT s l).1.ss, 0 ≤ c ∧ c ≤ ((allT s l).1.cs.length : Int)) ∧ (allT s l).1.cs.length ≤ s.cs.length + l.length
  | [], s, h1, h2 => ⟨h1, h2, by simp [allT]⟩
  | b :: r, s, h1, h2 => by
    have hb := b.toNat_lt
    have k1 : ∀ c ∈ (takeT s b).1.cs, 0 ≤ c ∧ c ≤ 255 := by
      unfold takeT
      split
      · exact h1
      · split
        · exact h1
        · intro c hc
          rcases List.mem_append.1 hc with hc | hc
          · exact h1 c hc
          · obtain rfl : c = (b.toNat : Int) := by simpa using hc
            omega
    have k2 : ∀ c ∈ (takeT s b).1.ss, 0 ≤ c ∧ c ≤ ((takeT s b).1.cs.length : Int) := by
      unfold takeT
      split
      · intro c hc
        rcases List.mem_append.1 hc with hc | hc
        · exact h2 c hc
        · obtain rfl : c = (s.cs.length : Int) := by simpa using hc
          exact ⟨by omega, Int.le_refl _⟩
      · split
        · exact h2
        · intro c hc
          have := h2 c hc
          simp only [List.length_append, List.length_cons, List.length_nil]
          omega
    have k3 := (takeT_len s b).1
    rw [allT]
    split
    · obtain ⟨i1, i2, i3⟩ := allT_wide r (takeT s b).1 k1 k2
      refine ⟨i1, i2, ?_⟩
      simp only [List.length_cons]
      omega
    · refine ⟨k1, k2, ?_⟩
      simp only [List.length_cons]
      omega
set_option maxRecDepth 100000 in
set_option maxHeartbeats 8000000 in
theorem all_any (w0 : World) (g : Nat) (w : World) (A : Option Addr) (l : List UInt8) (n c : Nat) (hs : SeenB w0 A l) (hn : n = l.length) (hm : n ≤ 800000) (va vb : Value) (s : TS) (ht : Tk w0 g w va vb s.cs s.ss s.hf) (h1 : s.cs.length = 0) (h2 : s.ss.length = 0) :
    Calls Tryd.prog 35 #[.slice A n c, .func (.func 36) #[.pointer (some ⟨g, 0, none⟩)] #[]] w (TakeQ w0 g (allT s l)) := by
  have SB := Lib.hid hs
  have HN := Lib.hid hn
  have HT := Lib.hid ht
  clear hs hn ht
  obtain ⟨r, hr⟩ : ∃ r, allT s l = r := ⟨_, rfl⟩
  rw [hr]
  have HR := Lib.hid hr
  clear hr
  go_enter Tryd.func35, Tryd.ntmps35
  go_wp2_with fail
  go_loopw [9] (fun i wr => ∃ (k : Nat) (va vb : Value) (t : TS), i = .int .i64 k ∧ k ≤ n ∧ t.cs.length ≤ k ∧ t.ss.length ≤ k ∧ Hid (Tk w0 g wr va vb t.cs t.ss t.hf) ∧ Hid (allT t (l.drop k) = r)) (fun i _ => n - (intOf i).toNat)
  case atStart => exact ⟨0, va, vb, s, rfl, Nat.zero_le _, by omega, by omega, HT, HR⟩
  case round =>
    obtain ⟨k, va, vb, t, rfl, hk, hc1, hc2, htk, hst⟩ := hrel
    by_cases hlt : k < n
    · have hlt' : k < l.length := by rw [← HN.out]; exact hlt
      obtain ⟨ad, rfl, _, b0⟩ := (SB.out.ext htk.out.x).get hlt'
      have hk64 : (k : Int) < (n : Int) := by omega
      have C := Lib.hid (take_any w0 g wr va vb t htk.out (by omega) (by omega) l[k])
      have hst := hst.out
      rw [allT_drop hlt'] at hst
      have HS := Lib.hid hst
      have TL := Lib.hid (takeT_len t l[k])
      clear hst
      generalize takeT t l[k] = q at *
      generalize (l[k].toNat : Int) = z at *
      go_wp2_with fail
      refine C.out.mono ?_; rintro e w5 ⟨rfl, va5, vb5, t5⟩
      have T5 := Lib.hid t5
      have tl := TL.out
      clear C t5 htk
      obtain ⟨q1, q2⟩ := q
      cases q2 with
      | false =>
        have HF := Lib.hid (show (q1, false) = r from HS.out)
        clear HS
        go_wp2_with fail
        go_ret
        rw [← HF.out]
        exact ⟨rfl, _, _, T5.out⟩
      | true =>
        have HF := Lib.hid (show allT q1 (l.drop (k + 1)) = r from HS.out)
        dsimp only at tl
        clear HS
        go_wp2_with fail
        go_roundw
        case rel => exact ⟨k + 1, va5, vb5, q1, by go_num, by omega, by omega, by omega, T5, HF⟩
        case measure => simp [intOf]; omega
    · obtain rfl : n = k := by omega
      have HF := Lib.hid (show (t, true) = r by have := hst.out; rwa [HN.out, List.drop_length] at this)
      clear hst
      go_wp2_with fail
      go_ret
      rw [← HF.out]
      exact ⟨rfl, _, _, htk.out⟩
/-- It lies in a block of numbers. -/
def Typed (W : World) (A : Option Addr) : Prop := ∀ ad, A = some ad → ∃ cs f, W.heap[ad.block]? = some (.cells cs 3 f)
theorem Typed.ext {W W' : World} {A : Option Addr} (h : Typed W A) (x : Ext W W') : Typed W' A := fun ad e => by
  obtain ⟨cs, f, hb⟩ := h ad e
  exact ⟨cs, f, (x.block _ (Array.getElem?_eq_some_iff.1 hb).1).trans hb⟩
theorem row_typed {w : World} {base n c : Nat} {A : Option Addr} {xs : List Value} (h : w.ownsRow base 3 1 (.slice A n c) n xs) : Typed w A := fun ad e => by
  subst e
  obtain ⟨_, ⟨e1, _⟩ | ⟨g, cap, cur, e1, _, hb, _⟩⟩ := h
  · simp at e1
  · simp only [Value.slice.injEq, Option.some.injEq] at e1
    obtain ⟨rfl, _, _⟩ := e1
    exact ⟨cur, _, hb⟩
/-- The word is put into the result's box. -/
theorem Tk.fin {w0 w6 : World} {R c d : Nat} {A B : Option Addr} {cs ss : List Int} {hf : Bool} (h : Tk w0 (R + 1) w6 (.slice A cs.length c) (.slice B ss.length d) cs ss hf) (W : World)
    (hW : W = (w6.setCell ⟨R, 0, none⟩ (.slice A cs.length c)).setCell ⟨R, 1, none⟩ (.slice B ss.length d)) :
    SeenL W A cs ∧ SeenL W B ss ∧ Typed W A ∧ Typed W B := by
  have ra := ownsRow_setCell_below (ownsRow_setCell_below h.a (a := ⟨R, 0, none⟩) (by show R < _; omega) (.slice A cs.length c)) (a := ⟨R, 1, none⟩) (by show R < _; omega) (.slice B ss.length d)
  have rb := ownsRow_setCell_below (ownsRow_setCell_below h.b (a := ⟨R, 0, none⟩) (by show R < _; omega) (.slice A cs.length c)) (a := ⟨R, 1, none⟩) (by show R < _; omega) (.slice B ss.length d)
  rw [← hW] at ra rb
  obtain ⟨A1, c1, e1, _, _, k3⟩ := seen_row13 ra
  obtain ⟨B1, d1, e2, _, _, k6⟩ := seen_row13 rb
  cases e1
  cases e2
  exact ⟨k3, k6, row_typed ra, row_typed rb⟩
/-- What read answers: a word, and whether it may be. -/
def RdWQ (w : World) (l : List UInt8) (e : Ending) (w' : World) : Prop :=
  Ext w w' ∧ ∃ x : CW, e = .returned (.tuple #[cwV x, .bool (wordB (ofL l))]) ∧ (wordB (ofL l) = true → tw x = ofL l ∧ SeenL w' x.A x.cs ∧ SeenL w' x.B x.ss ∧ x.Ok ∧ Typed w' x.A ∧ Typed w' x.B)
set_option maxRecDepth 100000 in
set_option maxHeartbeats 8000000 in
theorem read_any (A : Option Addr) (l : List UInt8) (n c : Nat) (w : World) (hs : SeenB w A l) (hn : n = l.length) (hm : n ≤ 800000) :
    Calls Tryd.prog 31 #[.slice A n c] w (RdWQ w l) := by
  obtain ⟨W0, hW0⟩ : ∃ W0, W0 = w.alloc (.cells #[.slice none 0 0, .slice none 0 0] 36) := ⟨_, rfl⟩
  obtain ⟨W1, hW1⟩ : ∃ W1, W1 = W0.alloc (.cells #[.slice none 0 0, .slice none 0 0, .bool false] 58) := ⟨_, rfl⟩
  have X0 : Ext w W0 := by rw [hW0]; exact (Ext.refl _).alloc _
  have kR : Blk W0 w.heap.size 36 [.slice none 0 0, .slice none 0 0] := by rw [hW0]; exact Blk.lit _ _ _ _ rfl
  have hsz : W0.heap.size = w.heap.size + 1 := by rw [hW0]; simp
  have T0 := Tk.start W0 W1 hW1
  rw [hsz] at T0
  obtain ⟨b, hb⟩ : ∃ b, wordB (ofL l) = b := ⟨_, rfl⟩
  have HB := Lib.hid hb
  have SB := Lib.hid (hs.ext X0)
  have HN := Lib.hid hn
  -- what a no answers
  have NO := Lib.hid (fun (w5 : World) (x5 : Ext W0 w5) (hb : b = false) => show RdWQ w l (.returned (.tuple #[.agg #[.slice none 0 0, .slice none 0 0], .bool false])) ((w5.setCell ⟨w.heap.size, 0, none⟩ (.slice none 0 0)).setCell ⟨w.heap.size, 1, none⟩ (.slice none 0 0)) from
    ⟨((X0.trans x5).setCell (p := ⟨w.heap.size, 0, none⟩) (Nat.le_refl _) _).setCell (p := ⟨w.heap.size, 1, none⟩) (Nat.le_refl _) _, ⟨[], none, 0, [], none, 0⟩, by rw [HB.out, hb]; rfl, fun h => by rw [HB.out, hb] at h; cases h⟩)
  have BOX := Lib.hid (fun (w5 : World) (x5 : Ext W0 w5) (u v : Value) => show Blk ((w5.setCell ⟨w.heap.size, 0, none⟩ u).setCell ⟨w.heap.size, 1, none⟩ v) w.heap.size 36 [u, v] from ((kR.ext x5).set 0 u).set 1 v)
  have KR := Lib.hid (fun (w5 : World) (x5 : Ext W0 w5) => kR.ext x5)
  have BIG := Lib.hid (fun (h : 178 < n) => show b = false by
    rw [← HB.out, Bool.eq_false_iff]
    intro h2
    have := word_longest h2
    rw [← HN.out] at this
    omega)
  have AT := Lib.hid (allT_of l.length l [] [] (Nat.le_refl _))
  have AW := Lib.hid (allT_wide l ⟨[], [], false⟩ (by simp) (by simp))
  have C := Lib.hid (all_any W0 (w.heap.size + 1) W1 A l n c SB.out HN.out hm _ _ ⟨[], [], false⟩ T0 rfl rfl)
  have HN2 := Lib.hid (fun (h : (194 : Int) ∈ (ofGo l 0).1) => show b = false by rw [← HB.out]; exact word_no194 h)
  have X1 := Lib.hid T0.x
  have HX0 := Lib.hid X0
  have HR := Lib.hid (show W0.heap.size = w.heap.size + 1 from hsz)
  have hfr : Hid (∀ w5 : World, Ext W0 w5 → w5.cell? ⟨w.heap.size, 0, none⟩ = some (.slice none 0 0) ∧ w5.cell? ⟨w.heap.size, 1, none⟩ = some (.slice none 0 0) ∧ w5.frozen? ⟨w.heap.size, 0, none⟩ = false ∧ w5.frozen? ⟨w.heap.size, 1, none⟩ = false) :=
    Lib.hid fun w5 x5 => ⟨(KR.out w5 x5).cell 0, (KR.out w5 x5).cell 1, (KR.out w5 x5).free 0, (KR.out w5 x5).free 1⟩
  clear hs hn hb T0 kR
  go_enter Tryd.func31, Tryd.ntmps31
  go_upto_region 2 with (fail)
  rw [← hW0, ← hW1]
  clear hW1 hW0 hsz X0
  generalize hR : w.heap.size = R at *
  have HSZ := Lib.hid hR
  clear hR
  by_cases hbig : 178 < n
  · have hbig' : (178 : Int) < (n : Int) := by omega
    have Q := Lib.hid (NO.out W1 X1.out (BIG.out hbig))
    have B2 := Lib.hid (BOX.out W1 X1.out (.slice none 0 0) (.slice none 0 0))
    obtain ⟨p0, p1, f0, f1⟩ := hfr.out W1 X1.out
    clear NO BOX KR BIG AT AW C HN2 hbig
    go_wp2_with fail
    refine bodyPost_ret (results_box_tmp rfl _ _ R _ _ rfl rfl B2.out.range (Tryd.isAgg36 _) (Tryd.sizeOf36 _)) rfl ?_
    exact Q.out
  · have hbig' : ¬ (178 : Int) < (n : Int) := by omega
    generalize allT ⟨[], [], false⟩ l = r at *
    obtain ⟨⟨cs, ss, hf⟩, ok⟩ := r
    unfold TakeQ at C
    dsimp only at AT AW C
    clear BIG hbig
    go_wp2_with fail
    refine C.out.mono ?_; rintro e w5 ⟨rfl, va, vb, t5⟩
    have X5 := Lib.hid t5.x
    obtain ⟨A1, c1, B1, d1, rfl, rfl, r1, m1, r2, m2, s1, s2⟩ := t5.look
    cases ok with
    | false =>
      have Q := Lib.hid (NO.out w5 X5.out (HN2.out (AT.out.2 (by simp))))
      have B2 := Lib.hid (BOX.out w5 X5.out (.slice none 0 0) (.slice none 0 0))
      obtain ⟨p0, p1, f0, f1⟩ := hfr.out w5 X5.out
      clear NO BOX KR AT AW C HN2 t5 s1 s2
      go_wp2_with fail
      refine bodyPost_ret (results_box_tmp rfl _ _ R _ _ rfl rfl B2.out.range (Tryd.isAgg36 _) (Tryd.sizeOf36 _)) rfl ?_
      exact Q.out
    | true =>
      have q2 : w5.cell? ⟨R + 1, 2, none⟩ = some (.bool hf) := t5.b1.cell 2
      cases hf with
      | true =>
        have Q := Lib.hid (NO.out w5 X5.out (HN2.out (AT.out.2 (by simp))))
        have B2 := Lib.hid (BOX.out w5 X5.out (.slice none 0 0) (.slice none 0 0))
        obtain ⟨p0, p1, f0, f1⟩ := hfr.out w5 X5.out
        clear NO BOX KR AT AW C HN2 t5 s1 s2
        go_wp2_with fail
        refine bodyPost_ret (results_box_tmp rfl _ _ R _ _ rfl rfl B2.out.range (Tryd.isAgg36 _) (Tryd.sizeOf36 _)) rfl ?_
        exact Q.out
      | false =>
        have hp := AT.out.1 (by simp)
        simp only [TS.mk.injEq, List.nil_append, and_true] at hp
        have HP := Lib.hid (show (cs, ss) = ofL l by rw [ofL, hp.1, hp.2]; rfl)
        have hlen : cs.length ≤ 178 := by have := AW.out.2.2; simp only [List.length_nil] at this; have := HN.out; omega
        have OK := Lib.hid (show CW.Ok ⟨cs, A1, c1, ss, B1, d1⟩ from ⟨r1, m1, r2, m2, fun x hx => by have := AW.out.1 x hx; omega, fun x hx => by have := AW.out.2.1 x hx; omega⟩)
        have CM := Lib.hid (fun w' (x : Ext w5 w') => may_any ⟨cs, A1, c1, ss, B1, d1⟩ OK.out w' (s1.ext x) (s2.ext x))
        unfold cwV tw at CM
        dsimp only at CM
        have HB2 := Lib.hid (show wordB (cs, ss) = b by rw [HP.out]; exact HB.out)
        rw [HB2.out] at CM
        have FIN := Lib.hid (fun (w6 : World) (x6 : Ext w5 w6) => show RdWQ w l (.returned (.tuple #[.agg #[.slice A1 cs.length c1, .slice B1 ss.length d1], .bool b])) ((w6.setCell ⟨R, 0, none⟩ (.slice A1 cs.length c1)).setCell ⟨R, 1, none⟩ (.slice B1 ss.length d1)) from by
          have hsz : w.heap.size = R := HSZ.out
          obtain ⟨f1, f2, f3, f4⟩ := (t5.kept x6).fin _ rfl
          refine ⟨(((HX0.out.trans X5.out).trans x6).setCell (p := ⟨R, 0, none⟩) (Nat.le_of_eq hsz) _).setCell (p := ⟨R, 1, none⟩) (Nat.le_of_eq hsz) _, ⟨cs, A1, c1, ss, B1, d1⟩, by rw [HB.out]; rfl, fun _ => ⟨HP.out, f1, f2, OK.out, f3, f4⟩⟩)
        have XD := Lib.hid (show Ext w5 w5.drew from (Ext.refl _).drew)
        have KG := Lib.hid (fun w' (x : Ext w5 w') => show w'.cell? ⟨R + 1, 0, none⟩ = some (.slice A1 cs.length c1) ∧ w'.cell? ⟨R + 1, 1, none⟩ = some (.slice B1 ss.length d1) from ⟨x.at (t5.b1.cell 0), x.at (t5.b1.cell 1)⟩)
        have hRR : R + 1 ≠ R := by omega
        have S9 := Lib.hid (fun (w6 : World) (x6 : Ext w5 w6) u v => show ((w6.setCell ⟨R, 0, none⟩ u).setCell ⟨R, 1, none⟩ v).cell? ⟨R + 1, 0, none⟩ = some (.slice A1 cs.length c1) ∧ ((w6.setCell ⟨R, 0, none⟩ u).setCell ⟨R, 1, none⟩ v).cell? ⟨R + 1, 1, none⟩ = some (.slice B1 ss.length d1) from by
          rw [World.cell?_setCell_other _ _ _ _ (by simp), World.cell?_setCell_other _ _ _ _ (by simp), World.cell?_setCell_other _ _ _ _ (by simp), World.cell?_setCell_other _ _ _ _ (by simp)]
          exact KG.out w6 x6)
        have FR := Lib.hid (fun (w6 : World) (x6 : Ext w5 w6) => hfr.out w6 (X5.out.trans x6))
        have BX := Lib.hid (fun (w6 : World) (x6 : Ext w5 w6) u v => BOX.out w6 (X5.out.trans x6) u v)
        have S7 := KG.out _ XD.out
        clear C NO AT AW HN2 t5 s1 s2 hp KR BOX hfr r1 m1 r2 m2 hlen OK HP HB2
        go_wp2_with fail
        refine wp_region_noPanic ?_
        refine wp_region_held_drew (S := (fun w' => w'.cell? ⟨R + 1, 0, none⟩ = some (.slice A1 cs.length c1) ∧ w'.cell? ⟨R + 1, 1, none⟩ = some (.slice B1 ss.length d1))) (by kernel_rfl) S7 (fun h0 => ?_)
        generalize w5.drew = W7 at *
        refine wpAnyH_take (i := 0) (oi := ?_) (v := ?_) ?_ (by kernel_rfl) (by kernel_rfl) (by kernel_rfl) ?_ ?_ h0 ?_
        rotate_left 2
        · simp only [List.getElem?_toArray, List.getElem?_cons_zero]; rfl
        · exact fun _ _ _ h => h
        · refine Or.inl ⟨by rfl, ?_⟩
          intro w hSw
          (try dsimp only at hSw)
          obtain ⟨hS0, hS1⟩ := hSw
          go_simp
          (try with_reducible rfl)
        (try simp only [Act.put, List.setIfInBounds_toArray, List.set_cons_zero, List.set_cons_succ])
        refine wpAnyH_take (i := 1) (oi := ?_) (v := ?_) ?_ (by kernel_rfl) (by kernel_rfl) (by kernel_rfl) ?_ ?_ h0 ?_
        rotate_left 2
        · simp only [List.getElem?_toArray, List.getElem?_cons_zero, List.getElem?_cons_succ]; rfl
        · exact fun _ _ _ h => h
        · refine Or.inl ⟨by rfl, ?_⟩
          intro w hSw
          (try dsimp only at hSw)
          obtain ⟨hS0, hS1⟩ := hSw
          go_simp
          (try with_reducible rfl)
        (try simp only [Act.put, List.setIfInBounds_toArray, List.set_cons_zero, List.set_cons_succ])
        refine wpAnyH_take (i := 2) (oi := ?_) (v := ?_) ?_ (by kernel_rfl) (by kernel_rfl) (by kernel_rfl) ?_ ?_ h0 ?_
        rotate_left 2
        · simp only [List.getElem?_toArray, List.getElem?_cons_zero, List.getElem?_cons_succ]; rfl
        · exact fun _ _ _ h => h
        · refine Or.inl ⟨by rfl, ?_⟩
          intro w hSw
          (try dsimp only at hSw)
          obtain ⟨hS0, hS1⟩ := hSw
          go_simp
          (try with_reducible rfl)
        (try simp only [Act.put, List.setIfInBounds_toArray, List.set_cons_zero, List.set_cons_succ])
        refine wpAnyH_take (i := 3) (oi := ?_) (v := ?_) ?_ (by kernel_rfl) (by kernel_rfl) (by kernel_rfl) ?_ ?_ h0 ?_
        rotate_left 2
        · simp only [List.getElem?_toArray, List.getElem?_cons_zero, List.getElem?_cons_succ]; rfl
        · exact fun _ _ _ h => h
        · refine Or.inl ⟨by rfl, ?_⟩
          intro w hSw
          (try dsimp only at hSw)
          obtain ⟨hS0, hS1⟩ := hSw
          go_simp
          (try with_reducible rfl)
        (try simp only [Act.put, List.setIfInBounds_toArray, List.set_cons_zero, List.set_cons_succ])
        refine wpAnyH_ready (rs := [4]) (by kernel_rfl) (by simp) ?_
        refine AllReadyH.cons (o := ?_) ?_ (fun K hK => ?_) AllReadyH.nil
        rotate_left
        · simp only [List.getElem?_toArray, List.getElem?_cons_zero, List.getElem?_cons_succ]; rfl
        go_simp
        refine (CM.out _ XD.out).mono ?_; rintro e w6 ⟨rfl, x6⟩
        obtain ⟨p0, p1, f0, f1⟩ := FR.out _ (XD.out.trans x6)
        refine hK.out _ _ (KG.out _ (XD.out.trans x6)) (fun h4 => ?_)
        clear hK K
        (try simp only [Act.put, List.setIfInBounds_toArray, List.set_cons_zero, List.set_cons_succ])
        refine wpAnyH_ready (rs := [5]) (by kernel_rfl) (by simp) ?_
        refine AllReadyH.cons (o := ?_) ?_ (fun K hK => ?_) AllReadyH.nil
        rotate_left
        · simp only [List.getElem?_toArray, List.getElem?_cons_zero, List.getElem?_cons_succ]; rfl
        go_simp
        refine hK.out _ _ (S9.out _ (XD.out.trans x6) _ _) (fun h5 => ?_)
        clear hK K
        (try simp only [Act.put, List.setIfInBounds_toArray, List.set_cons_zero, List.set_cons_succ])
        refine wpAnyH_take (i := 6) (oi := ?_) (v := ?_) ?_ (by kernel_rfl) (by kernel_rfl) (by kernel_rfl) ?_ ?_ h5 ?_
        rotate_left 2
        · simp only [List.getElem?_toArray, List.getElem?_cons_zero, List.getElem?_cons_succ]; rfl
        · exact fun _ _ _ h => h
        · refine Or.inl ⟨by rfl, ?_⟩
          intro w hSw
          (try dsimp only at hSw)
          go_simp
          (try with_reducible rfl)
        (try simp only [Act.put, List.setIfInBounds_toArray, List.set_cons_zero, List.set_cons_succ])
        refine wpAnyH_done (by kernel_rfl) ?_ _
        refine NoPanic.normal ?_
        have F2 := Lib.hid (FIN.out _ (XD.out.trans x6))
        have B2 := Lib.hid (BX.out _ (XD.out.trans x6) (.slice A1 cs.length c1) (.slice B1 ss.length d1))
        clear h0 h4 h5 S7 FIN BX S9 KG
        go_wp2_with fail
        refine bodyPost_ret (results_box_tmp rfl _ _ R _ _ rfl rfl B2.out.range (Tryd.isAgg36 _) (Tryd.sizeOf36 _)) rfl ?_
        exact F2.out
end L13
end Go.Proofs.YtbiklbomacjihaaDoor

