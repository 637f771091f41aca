/- The landed take of layer 13: a byte that is read. Written by gen13/take.py. -/
import Derived.Test.YtbiklbomacjihaaDoorTextA13
import Derived.Test.YtbiklbomacjihaaDoorOfA13
import Derived.Test.YtbiklbomacjihaaDoorOfB13
import Derived.Deep.RegionHeld3
namespace Go.Proofs.YtbiklbomacjihaaDoor
open Go.RowKit
namespace L13

/-- What is kept of a word while it is read: its codes, its places, and whether a soft hyphen is half read. -/
structure Tk (w0 : World) (g : Nat) (wr : World) (va vb : Value) (cs ss : List Int) (hf : Bool) : Prop where
  x : Ext w0 wr
  g0 : w0.heap.size ≤ g
  b1 : Blk wr g 58 [va, vb, .bool hf]
  a : wr.ownsRow (g + 1) 3 1 va cs.length (cs.map (.int .i64))
  b : wr.ownsRow (g + 1) 3 1 vb ss.length (ss.map (.int .i64))
  ne : ∀ g', va.ownBlock = some g' → vb.ownBlock ≠ some g'
theorem Tk.kept {w0 wr w' : World} {g : Nat} {va vb : Value} {cs ss : List Int} {hf : Bool} (h : Tk w0 g wr va vb cs ss hf) (x : Ext wr w') : Tk w0 g w' va vb cs ss hf :=
  ⟨h.x.trans x, h.g0, h.b1.ext x, OwnsRow.ext h.a x, OwnsRow.ext h.b x, h.ne⟩
theorem Tk.start (w W : World) (hW : W = w.alloc (.cells #[.slice none 0 0, .slice none 0 0, .bool false] 58)) : Tk w w.heap.size W (.slice none 0 0) (.slice none 0 0) [] [] false := by
  subst hW
  exact ⟨(Ext.refl w).alloc _, Nat.le_refl _, Blk.lit _ _ _ _ rfl, World.ownsRow_nil _ _ _ _, World.ownsRow_nil _ _ _ _, fun g e => (by cases e)⟩
/-- Half a soft hyphen, or none. -/
theorem Tk.turn {w0 wr : World} {g : Nat} {va vb : Value} {cs ss : List Int} {hf : Bool} (h : Tk w0 g wr va vb cs ss hf) (u : Bool) : Tk w0 g (wr.setCell ⟨g, 2, none⟩ (.bool u)) va vb cs ss u :=
  ⟨h.x.setCell h.g0 _, h.g0, h.b1.set 2 (.bool u), ownsRow_setCell_below h.a (by show g < _; omega) _, ownsRow_setCell_below h.b (by show g < _; omega) _, h.ne⟩
/-- One code more. -/
theorem Tk.code {w0 wr : World} {g : Nat} {va vb : Value} {cs ss : List Int} {hf : Bool} (h : Tk w0 g wr va vb cs ss hf) (x : Int) (hn : cs.length ≤ 900000) (ty : TypeId) :
    ∃ v' w', (Builtin.append_ #[34, 34] ty #[va, .slice (some ⟨wr.heap.size, 0, none⟩) 1 1]).run Tryd.prog (wr.alloc (.cells #[.int .i64 x] 3)) = .ok v' w' ∧
      Blk w' g 58 [va, vb, .bool hf] ∧ Tk w0 g (w'.setCell ⟨g, 0, none⟩ v') v' vb (cs ++ [x]) ss hf ∧ But (fun k => va.ownBlock = some k) (wr.alloc (.cells #[.int .i64 x] 3)) w' := by
  obtain ⟨v', w', hr, BG, ho, hb, hne⟩ := row_put h.a h.b h.ne h.b1.lt x (by omega) ty
  have h := h.kept ((Ext.refl wr).alloc (.cells #[.int .i64 x] 3))
  have hg0 := h.g0
  have ne1 : ¬ va.ownBlock = some g := fun e => by have := (h.a.lt _ e).1; omega
  exact ⟨v', w', hr, BG.blk h.b1 ne1, ⟨(BG.ext h.x (fun k e => by have := (h.a.lt k e).1; omega)).setCell h.g0 _, h.g0, (BG.blk h.b1 ne1).set 0 v',
    ownsRow_setCell_below ho (by show g < _; omega) _, ownsRow_setCell_below hb (by show g < _; omega) _, hne⟩, BG⟩
/-- One place more. -/
theorem Tk.place {w0 wr : World} {g : Nat} {va vb : Value} {cs ss : List Int} {hf : Bool} (h : Tk w0 g wr va vb cs ss hf) (x : Int) (hn : ss.length ≤ 900000) (ty : TypeId) :
    ∃ v' w', (Builtin.append_ #[34, 34] ty #[vb, .slice (some ⟨wr.heap.size, 0, none⟩) 1 1]).run Tryd.prog (wr.alloc (.cells #[.int .i64 x] 3)) = .ok v' w' ∧
      Blk w' g 58 [va, vb, .bool hf] ∧ Tk w0 g (w'.setCell ⟨g, 1, none⟩ v') va v' cs (ss ++ [x]) hf ∧ But (fun k => vb.ownBlock = some k) (wr.alloc (.cells #[.int .i64 x] 3)) w' := by
  obtain ⟨v', w', hr, BG, ho, hb, hne⟩ := row_put h.b h.a (fun g e f => h.ne g f e) h.b1.lt x (by omega) ty
  have h := h.kept ((Ext.refl wr).alloc (.cells #[.int .i64 x] 3))
  have hg0 := h.g0
  have ne1 : ¬ vb.ownBlock = some g := fun e => by have := (h.b.lt _ e).1; omega
  exact ⟨v', w', hr, BG.blk h.b1 ne1, ⟨(BG.ext h.x (fun k e => by have := (h.b.lt k e).1; omega)).setCell h.g0 _, h.g0, (BG.blk h.b1 ne1).set 1 v',
    ownsRow_setCell_below hb (by show g < _; omega) _, ownsRow_setCell_below ho (by show g < _; omega) _, fun g e f => hne g f e⟩, BG⟩
theorem Tk.look {w0 wr : World} {g : Nat} {va vb : Value} {cs ss : List Int} {hf : Bool} (h : Tk w0 g wr va vb cs ss hf) : ∃ A c B d, va = .slice A cs.length c ∧ vb = .slice B ss.length d ∧ cs.length ≤ c ∧ c ≤ maxLen ∧ ss.length ≤ d ∧ d ≤ maxLen ∧
    SeenL wr A cs ∧ SeenL wr B ss := by
  obtain ⟨A, c, rfl, h1, h2, h3⟩ := seen_row13 h.a
  obtain ⟨B, d, rfl, h4, h5, h6⟩ := seen_row13 h.b
  exact ⟨A, c, B, d, rfl, rfl, h1, h2, h4, h5, h3, h6⟩
/-- What has been read. -/
structure TS where
  cs : List Int
  ss : List Int
  hf : Bool
/-- One byte more; whether it may stand there. -/
def takeT (s : TS) (b : UInt8) : TS × Bool :=
  if s.hf = true then (⟨s.cs, s.ss ++ [(s.cs.length : Int)], false⟩, decide (b = 173))
  else if b = 194 then (⟨s.cs, s.ss, true⟩, true)
  else (⟨s.cs ++ [(b.toNat : Int)], s.ss, false⟩, true)
/-- What take does. -/
def TakeQ (w0 : World) (g : Nat) (s : TS × Bool) (e : Ending) (w' : World) : Prop :=
  e = .returned (.bool s.2) ∧ ∃ va vb, Tk w0 g w' va vb s.1.cs s.1.ss s.1.hf

set_option maxRecDepth 100000 in
set_option maxHeartbeats 8000000 in
theorem take_any (w0 : World) (g : Nat) (wr : World) (va vb : Value) (s : TS) (ht : Tk w0 g wr va vb s.cs s.ss s.hf) (h1 : s.cs.length ≤ 900000) (h2 : s.ss.length ≤ 900000) (b : UInt8) :
    Calls Tryd.prog 36 #[.pointer (some ⟨g, 0, none⟩), .int .u8 (b.toNat : Int)] wr (TakeQ w0 g (takeT s b)) := by
  obtain ⟨cs, ss, hf⟩ := s
  dsimp only at ht h1 h2
  obtain ⟨A, c, B, d, rfl, rfl, _, _, _, _, _, _⟩ := ht.look
  have q0 : wr.cell? ⟨g, 0, none⟩ = some (.slice A cs.length c) := ht.b1.cell 0
  have q1 : wr.cell? ⟨g, 1, none⟩ = some (.slice B ss.length d) := ht.b1.cell 1
  have q2 : wr.cell? ⟨g, 2, none⟩ = some (.bool hf) := ht.b1.cell 2
  have z2 : wr.frozen? ⟨g, 2, none⟩ = false := ht.b1.free 2
  obtain ⟨z, hz⟩ : ∃ z, (b.toNat : Int) = z := ⟨_, rfl⟩
  have hz0 : 0 ≤ z := by omega
  have hz1 : z ≤ 255 := by have := b.toNat_lt; omega
  rw [hz]
  cases hf with
  | true =>
    have T1 := ht.turn false
    obtain ⟨W1, hW1⟩ : ∃ W1, W1 = wr.setCell ⟨g, 2, none⟩ (.bool false) := ⟨_, rfl⟩
    rw [← hW1] at T1
    obtain ⟨m, hm⟩ : ∃ m, m = cs.length := ⟨_, rfl⟩
    obtain ⟨v9, w9, hr, k9, t9, bg9⟩ := T1.kept (Ext.refl W1).drew |>.place (m : Int) (by omega) 34
    have HR := Lib.hid (show takeT ⟨cs, ss, true⟩ b = (⟨cs, ss ++ [(m : Int)], false⟩, decide (z = 173)) by
      rw [takeT, if_pos rfl, hm]
      have : (b = 173) ↔ z = 173 := by rw [← hz, ← UInt8.toNat_inj, show (173 : UInt8).toNat = 173 from rfl]; omega
      simp only [this])
    rw [HR.out]
    obtain ⟨A9, n9, c9, rfl⟩ : ∃ A9 n9 c9, v9 = .slice A9 n9 c9 := by obtain ⟨_, _, A9, c9, _, e9, _⟩ := t9.look; exact ⟨_, _, _, e9⟩
    have FIN := Lib.hid (fun bb (h : bb = decide (z = 173)) => show TakeQ w0 g (⟨cs, ss ++ [(m : Int)], false⟩, decide (z = 173)) (.returned (.bool bb)) (w9.setCell ⟨g, 1, none⟩ (.slice A9 n9 c9)) from ⟨by rw [h], _, _, t9⟩)
    have c7 : ∀ w' : World, Ext W1.drew w' → w'.cell? ⟨g, 0, none⟩ = some (.slice A cs.length c) := fun w' x => x.at ((T1.kept (Ext.refl W1).drew).b1.cell 0)
    have d7 : ∀ w' : World, Ext W1.drew w' → w'.cell? ⟨g, 1, none⟩ = some (.slice B ss.length d) := fun w' x => x.at ((T1.kept (Ext.refl W1).drew).b1.cell 1)
    rw [← hm] at q0 c7
    have e0 : w9.cell? ⟨g, 0, none⟩ = some (.slice A m c) := by rw [hm]; exact k9.cell 0
    have e1 : w9.cell? ⟨g, 1, none⟩ = some (.slice B ss.length d) := k9.cell 1
    have f1 : w9.frozen? ⟨g, 1, none⟩ = false := k9.free 1
    have S7 := c7 _ (Ext.refl _)
    have L7 := d7 _ (Ext.refl _)
    have S8 := c7 _ ((Ext.refl _).alloc (.cells #[.int .i64 (m : Int)] 3))
    have L8 := d7 _ ((Ext.refl _).alloc (.cells #[.int .i64 (m : Int)] 3))
    have S10 : (w9.setCell ⟨g, 1, none⟩ (.slice A9 n9 c9)).cell? ⟨g, 0, none⟩ = some (.slice A m c) := by rw [hm]; exact t9.b1.cell 0
    clear c7 d7 bg9 t9 k9 ht T1 HR hz hm
    go_enter Tryd.func36, Tryd.ntmps36
    go_upto_region 4 with (fail)
    rw [← hW1]
    clear hW1
    refine wp_region_noPanic ?_
    refine wp_region_held_drew (S := (fun w' => w'.cell? ⟨g, 0, none⟩ = some (.slice A m c))) (by kernel_rfl) S7 (fun h0 => ?_)
    generalize W1.drew = W7 at *
    refine wpAnyH_take (i := 0) (oi := ?_) (v := ?_) ?_ (by kernel_rfl) (by kernel_rfl) (by kernel_rfl) ?_ ?_ h0 ?_
    rotate_left 2
    · simp only [List.getElem?_toArray, List.getElem?_cons_zero]; rfl
    · exact fun _ _ _ h => h
    · refine Or.inl ⟨by rfl, ?_⟩
      intro w hSw
      (try dsimp only at hSw)
      go_simp
      (try with_reducible rfl)
    (try simp only [Act.put, List.setIfInBounds_toArray, List.set_cons_zero, List.set_cons_succ])
    refine wpAnyH_take (i := 1) (oi := ?_) (v := ?_) ?_ (by kernel_rfl) (by kernel_rfl) (by kernel_rfl) ?_ ?_ h0 ?_
    rotate_left 2
    · simp only [List.getElem?_toArray, List.getElem?_cons_zero, List.getElem?_cons_succ]; rfl
    · exact fun _ _ _ h => h
    · refine Or.inl ⟨by rfl, ?_⟩
      intro w hSw
      (try dsimp only at hSw)
      go_simp
      (try with_reducible rfl)
    (try simp only [Act.put, List.setIfInBounds_toArray, List.set_cons_zero, List.set_cons_succ])
    refine wpAnyH_take (i := 2) (oi := ?_) (v := ?_) ?_ (by kernel_rfl) (by kernel_rfl) (by kernel_rfl) ?_ ?_ h0 ?_
    rotate_left 2
    · simp only [List.getElem?_toArray, List.getElem?_cons_zero, List.getElem?_cons_succ]; rfl
    · exact fun _ _ _ h => h
    · refine Or.inl ⟨by rfl, ?_⟩
      intro w hSw
      (try dsimp only at hSw)
      go_simp
      (try with_reducible rfl)
    (try simp only [Act.put, List.setIfInBounds_toArray, List.set_cons_zero, List.set_cons_succ])
    refine wpAnyH_take (i := 3) (oi := ?_) (v := ?_) ?_ (by kernel_rfl) (by kernel_rfl) (by kernel_rfl) ?_ ?_ h0 ?_
    rotate_left 2
    · simp only [List.getElem?_toArray, List.getElem?_cons_zero, List.getElem?_cons_succ]; rfl
    · exact fun _ _ _ h => h
    · refine Or.inl ⟨by rfl, ?_⟩
      intro w hSw
      (try dsimp only at hSw)
      go_simp
      (try with_reducible rfl)
    (try simp only [Act.put, List.setIfInBounds_toArray, List.set_cons_zero, List.set_cons_succ])
    refine wpAnyH_take (i := 4) (oi := ?_) (v := ?_) ?_ (by kernel_rfl) (by kernel_rfl) (by kernel_rfl) ?_ ?_ h0 ?_
    rotate_left 2
    · simp only [List.getElem?_toArray, List.getElem?_cons_zero, List.getElem?_cons_succ]; rfl
    · exact fun _ _ _ h => h
    · refine Or.inl ⟨by rfl, ?_⟩
      intro w hSw
      (try dsimp only at hSw)
      go_simp
      (try with_reducible rfl)
    (try simp only [Act.put, List.setIfInBounds_toArray, List.set_cons_zero, List.set_cons_succ])
    refine wpAnyH_take (i := 6) (oi := ?_) (v := ?_) ?_ (by kernel_rfl) (by kernel_rfl) (by kernel_rfl) ?_ ?_ h0 ?_
    rotate_left 2
    · simp only [List.getElem?_toArray, List.getElem?_cons_zero, List.getElem?_cons_succ]; rfl
    · exact fun _ _ _ h => h
    · refine Or.inl ⟨by rfl, ?_⟩
      intro w hSw
      (try dsimp only at hSw)
      go_simp
      (try with_reducible rfl)
    (try simp only [Act.put, List.setIfInBounds_toArray, List.set_cons_zero, List.set_cons_succ])
    refine wpAnyH_take (i := 7) (oi := ?_) (v := ?_) ?_ (by kernel_rfl) (by kernel_rfl) (by kernel_rfl) ?_ ?_ h0 ?_
    rotate_left 2
    · simp only [List.getElem?_toArray, List.getElem?_cons_zero, List.getElem?_cons_succ]; rfl
    · exact fun _ _ _ h => h
    · refine Or.inl ⟨by rfl, ?_⟩
      intro w hSw
      (try dsimp only at hSw)
      go_simp
      (try with_reducible rfl)
    (try simp only [Act.put, List.setIfInBounds_toArray, List.set_cons_zero, List.set_cons_succ])
    refine wpAnyH_take (i := 8) (oi := ?_) (v := ?_) ?_ (by kernel_rfl) (by kernel_rfl) (by kernel_rfl) ?_ ?_ h0 ?_
    rotate_left 2
    · simp only [List.getElem?_toArray, List.getElem?_cons_zero, List.getElem?_cons_succ]; rfl
    · exact fun _ _ _ h => h
    · refine Or.inl ⟨by rfl, ?_⟩
      intro w hSw
      (try dsimp only at hSw)
      go_simp
      (try with_reducible rfl)
    (try simp only [Act.put, List.setIfInBounds_toArray, List.set_cons_zero, List.set_cons_succ])
    refine wpAnyH_take (i := 9) (oi := ?_) (v := ?_) ?_ (by kernel_rfl) (by kernel_rfl) (by kernel_rfl) ?_ ?_ h0 ?_
    rotate_left 2
    · simp only [List.getElem?_toArray, List.getElem?_cons_zero, List.getElem?_cons_succ]; rfl
    · exact fun _ _ _ h => h
    · refine Or.inl ⟨by rfl, ?_⟩
      intro w hSw
      (try dsimp only at hSw)
      go_simp
      (try with_reducible rfl)
    (try simp only [Act.put, List.setIfInBounds_toArray, List.set_cons_zero, List.set_cons_succ])
    refine wpAnyH_take (i := 10) (oi := ?_) (v := ?_) ?_ (by kernel_rfl) (by kernel_rfl) (by kernel_rfl) ?_ ?_ h0 ?_
    rotate_left 2
    · simp only [List.getElem?_toArray, List.getElem?_cons_zero, List.getElem?_cons_succ]; rfl
    · exact fun _ _ _ h => h
    · refine Or.inl ⟨by rfl, ?_⟩
      intro w hSw
      (try dsimp only at hSw)
      go_simp
      (try with_reducible rfl)
    (try simp only [Act.put, List.setIfInBounds_toArray, List.set_cons_zero, List.set_cons_succ])
    refine wpAnyH_take (i := 11) (oi := ?_) (v := ?_) ?_ (by kernel_rfl) (by kernel_rfl) (by kernel_rfl) ?_ ?_ h0 ?_
    rotate_left 2
    · simp only [List.getElem?_toArray, List.getElem?_cons_zero, List.getElem?_cons_succ]; rfl
    · exact fun _ _ _ h => h
    · refine Or.inl ⟨by rfl, ?_⟩
      intro w hSw
      (try dsimp only at hSw)
      go_simp
      (try with_reducible rfl)
    (try simp only [Act.put, List.setIfInBounds_toArray, List.set_cons_zero, List.set_cons_succ])
    refine wpAnyH_ready (rs := [5, 12]) (by kernel_rfl) (by simp) ?_
    refine AllReadyH.cons (o := ?_) ?_ (fun K hK => ?_) ?_
    rotate_left
    · simp only [List.getElem?_toArray, List.getElem?_cons_zero, List.getElem?_cons_succ]; rfl
    · skip
      go_simp
      refine hK.out _ _ S7 (fun h1 => ?_)
      clear hK K
      (try simp only [Act.put, List.setIfInBounds_toArray, List.set_cons_zero, List.set_cons_succ])
      refine wpAnyH_ready (rs := [12]) (by kernel_rfl) (by simp) ?_
      refine AllReadyH.cons (o := ?_) ?_ (fun K hK => ?_) AllReadyH.nil
      rotate_left
      · simp only [List.getElem?_toArray, List.getElem?_cons_zero, List.getElem?_cons_succ]; rfl
      go_simp
      refine hK.out _ _ S8 (fun h2 => ?_)
      clear hK K
      (try simp only [Act.put, List.setIfInBounds_toArray, List.set_cons_zero, List.set_cons_succ])
      refine wpAnyH_ready (rs := [13]) (by kernel_rfl) (by simp) ?_
      refine AllReadyH.cons (o := ?_) ?_ (fun K hK => ?_) AllReadyH.nil
      rotate_left
      · simp only [List.getElem?_toArray, List.getElem?_cons_zero, List.getElem?_cons_succ]; rfl
      refine step_app13 (.tmp 31) (.tmp 38) rfl (by kernel_rfl) hr ?_
      refine hK.out _ _ e0 (fun h3 => ?_)
      clear hK K
      (try simp only [Act.put, List.setIfInBounds_toArray, List.set_cons_zero, List.set_cons_succ])
      refine wpAnyH_take (i := 14) (oi := ?_) (v := ?_) ?_ (by kernel_rfl) (by kernel_rfl) (by kernel_rfl) ?_ ?_ h3 ?_
      rotate_left 2
      · simp only [List.getElem?_toArray, List.getElem?_cons_zero, List.getElem?_cons_succ]; rfl
      · exact fun _ _ _ h => h
      · refine Or.inl ⟨by rfl, ?_⟩
        intro w hSw
        (try dsimp only at hSw)
        go_simp
        (try with_reducible rfl)
      (try simp only [Act.put, List.setIfInBounds_toArray, List.set_cons_zero, List.set_cons_succ])
      refine wpAnyH_take (i := 15) (oi := ?_) (v := ?_) ?_ (by kernel_rfl) (by kernel_rfl) (by kernel_rfl) ?_ ?_ h3 ?_
      rotate_left 2
      · simp only [List.getElem?_toArray, List.getElem?_cons_zero, List.getElem?_cons_succ]; rfl
      · exact fun _ _ _ h => h
      · refine Or.inl ⟨by rfl, ?_⟩
        intro w hSw
        (try dsimp only at hSw)
        go_simp
        (try with_reducible rfl)
      (try simp only [Act.put, List.setIfInBounds_toArray, List.set_cons_zero, List.set_cons_succ])
      refine wpAnyH_take (i := 16) (oi := ?_) (v := ?_) ?_ (by kernel_rfl) (by kernel_rfl) (by kernel_rfl) ?_ ?_ h3 ?_
      rotate_left 2
      · simp only [List.getElem?_toArray, List.getElem?_cons_zero, List.getElem?_cons_succ]; rfl
      · exact fun _ _ _ h => h
      · refine Or.inl ⟨by rfl, ?_⟩
        intro w hSw
        (try dsimp only at hSw)
        go_simp
        (try with_reducible rfl)
      (try simp only [Act.put, List.setIfInBounds_toArray, List.set_cons_zero, List.set_cons_succ])
      refine wpAnyH_ready (rs := [17]) (by kernel_rfl) (by simp) ?_
      refine AllReadyH.cons (o := ?_) ?_ (fun K hK => ?_) AllReadyH.nil
      rotate_left
      · simp only [List.getElem?_toArray, List.getElem?_cons_zero, List.getElem?_cons_succ]; rfl
      go_simp
      refine hK.out _ _ S10 (fun h4 => ?_)
      clear hK K
      (try simp only [Act.put, List.setIfInBounds_toArray, List.set_cons_zero, List.set_cons_succ])
      refine wpAnyH_done (by kernel_rfl) ?_ _
      refine NoPanic.normal ?_
      clear h0 hr S7 S8 S10 L7 L8
      by_cases h173 : z = 173
      · have F2 := Lib.hid (FIN.out true (decide_eq_true h173).symm)
        have g3 : (z == (((⟨#[194, 173]⟩ : ByteArray)[1]'(by decide)).toNat : Int)) = true := by show (z == 173) = true; simpa using h173
        clear FIN h173
        go_wp2_with fail
        go_ret
        exact F2.out
      · have F2 := Lib.hid (FIN.out false (decide_eq_false h173).symm)
        have g3 : (z == (((⟨#[194, 173]⟩ : ByteArray)[1]'(by decide)).toNat : Int)) = false := by show (z == 173) = false; simpa using h173
        clear FIN h173
        go_wp2_with fail
        go_ret
        exact F2.out
    · refine AllReadyH.cons (o := ?_) ?_ (fun K hK => ?_) AllReadyH.nil
      rotate_left
      · simp only [List.getElem?_toArray, List.getElem?_cons_zero, List.getElem?_cons_succ]; rfl
      go_simp
      refine hK.out _ _ S8 (fun h5 => ?_)
      clear hK K
      (try simp only [Act.put, List.setIfInBounds_toArray, List.set_cons_zero, List.set_cons_succ])
      refine wpAnyH_ready (rs := [5]) (by kernel_rfl) (by simp) ?_
      refine AllReadyH.cons (o := ?_) ?_ (fun K hK => ?_) AllReadyH.nil
      rotate_left
      · simp only [List.getElem?_toArray, List.getElem?_cons_zero, List.getElem?_cons_succ]; rfl
      go_simp
      refine hK.out _ _ S8 (fun h6 => ?_)
      clear hK K
      (try simp only [Act.put, List.setIfInBounds_toArray, List.set_cons_zero, List.set_cons_succ])
      refine wpAnyH_ready (rs := [13]) (by kernel_rfl) (by simp) ?_
      refine AllReadyH.cons (o := ?_) ?_ (fun K hK => ?_) AllReadyH.nil
      rotate_left
      · simp only [List.getElem?_toArray, List.getElem?_cons_zero, List.getElem?_cons_succ]; rfl
      refine step_app13 (.tmp 31) (.tmp 38) rfl (by kernel_rfl) hr ?_
      refine hK.out _ _ e0 (fun h7 => ?_)
      clear hK K
      (try simp only [Act.put, List.setIfInBounds_toArray, List.set_cons_zero, List.set_cons_succ])
      refine wpAnyH_take (i := 14) (oi := ?_) (v := ?_) ?_ (by kernel_rfl) (by kernel_rfl) (by kernel_rfl) ?_ ?_ h7 ?_
      rotate_left 2
      · simp only [List.getElem?_toArray, List.getElem?_cons_zero, List.getElem?_cons_succ]; rfl
      · exact fun _ _ _ h => h
      · refine Or.inl ⟨by rfl, ?_⟩
        intro w hSw
        (try dsimp only at hSw)
        go_simp
        (try with_reducible rfl)
      (try simp only [Act.put, List.setIfInBounds_toArray, List.set_cons_zero, List.set_cons_succ])
      refine wpAnyH_take (i := 15) (oi := ?_) (v := ?_) ?_ (by kernel_rfl) (by kernel_rfl) (by kernel_rfl) ?_ ?_ h7 ?_
      rotate_left 2
      · simp only [List.getElem?_toArray, List.getElem?_cons_zero, List.getElem?_cons_succ]; rfl
      · exact fun _ _ _ h => h
      · refine Or.inl ⟨by rfl, ?_⟩
        intro w hSw
        (try dsimp only at hSw)
        go_simp
        (try with_reducible rfl)
      (try simp only [Act.put, List.setIfInBounds_toArray, List.set_cons_zero, List.set_cons_succ])
      refine wpAnyH_take (i := 16) (oi := ?_) (v := ?_) ?_ (by kernel_rfl) (by kernel_rfl) (by kernel_rfl) ?_ ?_ h7 ?_
      rotate_left 2
      · simp only [List.getElem?_toArray, List.getElem?_cons_zero, List.getElem?_cons_succ]; rfl
      · exact fun _ _ _ h => h
      · refine Or.inl ⟨by rfl, ?_⟩
        intro w hSw
        (try dsimp only at hSw)
        go_simp
        (try with_reducible rfl)
      (try simp only [Act.put, List.setIfInBounds_toArray, List.set_cons_zero, List.set_cons_succ])
      refine wpAnyH_ready (rs := [17]) (by kernel_rfl) (by simp) ?_
      refine AllReadyH.cons (o := ?_) ?_ (fun K hK => ?_) AllReadyH.nil
      rotate_left
      · simp only [List.getElem?_toArray, List.getElem?_cons_zero, List.getElem?_cons_succ]; rfl
      go_simp
      refine hK.out _ _ S10 (fun h8 => ?_)
      clear hK K
      (try simp only [Act.put, List.setIfInBounds_toArray, List.set_cons_zero, List.set_cons_succ])
      refine wpAnyH_done (by kernel_rfl) ?_ _
      refine NoPanic.normal ?_
      clear h0 hr S7 S8 S10 L7 L8
      by_cases h173 : z = 173
      · have F2 := Lib.hid (FIN.out true (decide_eq_true h173).symm)
        have g3 : (z == (((⟨#[194, 173]⟩ : ByteArray)[1]'(by decide)).toNat : Int)) = true := by show (z == 173) = true; simpa using h173
        clear FIN h173
        go_wp2_with fail
        go_ret
        exact F2.out
      · have F2 := Lib.hid (FIN.out false (decide_eq_false h173).symm)
        have g3 : (z == (((⟨#[194, 173]⟩ : ByteArray)[1]'(by decide)).toNat : Int)) = false := by show (z == 173) = false; simpa using h173
        clear FIN h173
        go_wp2_with fail
        go_ret
        exact F2.out
  | false =>
    by_cases hb : b = 194
    · have HR := Lib.hid (show takeT ⟨cs, ss, false⟩ b = (⟨cs, ss, true⟩, true) by rw [takeT, if_neg (by simp), if_pos hb])
      rw [HR.out]
      have hz2 : z = 194 := by rw [← hz, hb]; rfl
      have hz3 : (z == (((⟨#[194, 173]⟩ : ByteArray)[0]'(by decide)).toNat : Int)) = true := by show (z == 194) = true; simpa using hz2
      have FIN := Lib.hid (show TakeQ w0 g (⟨cs, ss, true⟩, true) (.returned (.bool true)) (wr.setCell ⟨g, 2, none⟩ (.bool true)) from ⟨rfl, _, _, ht.turn true⟩)
      clear HR hz ht hb
      go_enter Tryd.func36, Tryd.ntmps36
      go_wp2_with fail
      go_ret
      exact FIN.out
    · have HR := Lib.hid (show takeT ⟨cs, ss, false⟩ b = (⟨cs ++ [z], ss, false⟩, true) by rw [takeT, if_neg (by simp), if_neg hb, hz])
      rw [HR.out]
      have hz2 : ¬ z = 194 := fun e => hb (by rw [← UInt8.toNat_inj, show (194 : UInt8).toNat = 194 from rfl]; omega)
      have hz3 : (z == (((⟨#[194, 173]⟩ : ByteArray)[0]'(by decide)).toNat : Int)) = false := by show (z == 194) = false; simpa using hz2
      have hw : IntKind.i64.wrap z = z := IntWalk.i64_in _ (by omega)
      have hw' : wrap64 z = z := IntWalk.wrap64_in _ (by omega)
      obtain ⟨v9, w9, hr, k9, t9, bg9⟩ := ht.code z (by omega) 34
      obtain ⟨A9, n9, c9, rfl⟩ : ∃ A9 n9 c9, v9 = .slice A9 n9 c9 := by obtain ⟨A9, c9, _, _, e9, _⟩ := t9.look; exact ⟨_, _, _, e9⟩
      have e0 : w9.cell? ⟨g, 0, none⟩ = some (.slice A cs.length c) := k9.cell 0
      have f0 : w9.frozen? ⟨g, 0, none⟩ = false := k9.free 0
      have FIN := Lib.hid (show TakeQ w0 g (⟨cs ++ [z], ss, false⟩, true) (.returned (.bool true)) (w9.setCell ⟨g, 0, none⟩ (.slice A9 n9 c9)) from ⟨rfl, _, _, t9⟩)
      clear HR hz ht hb t9 bg9 k9
      go_enter Tryd.func36, Tryd.ntmps36
      go_wp2_with (first | (at_builtin; refine wpList_ran rfl _ _ rfl hr ?_) | fail)
      go_ret
      exact FIN.out
end L13
end Go.Proofs.YtbiklbomacjihaaDoor

