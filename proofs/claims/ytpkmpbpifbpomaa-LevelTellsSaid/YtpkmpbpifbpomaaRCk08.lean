/- What is set is expanded again; expanding goes code by code: plain. The document's pairs, plain: what they make is what the landed program learns. What a ligature is made of: the landed expanded, over whatever map, and Expand. The landed Expand. An owned row over calls (XSet08's; for texts that leave XSet08 out). The document's steps of a character. The document's rule of two codes, and whether codes may be set. The document's pairs. The document's Check. -/
import Derived.Test.YtpkmpbpifbpomaaLig08
import Derived.Test.YtpkmpbpifbpomaaChkSet08
import Derived.Deep.RegionHeld3
import Derived.Deep.RegionLaw
import Derived.OpenShut
import Derived.Deep.WholeRow
namespace Go.Proofs.Ytpkmpbpifbpomaa
open Go.RowKit
namespace L08
open L07

theorem exp1_fuel {m : MapN} (hf : ∀ c p, m c = some p → 128 ≤ c ∧ c < 256 ∧ 0 ≤ p.1 ∧ p.1 < c) : ∀ (f : Nat) (c : Int), (∀ p, m c = some p → c < f) → exp1 m (f + 1) c = exp1 m f c
  | 0, c, h => by
    cases hm : m c with
    | none => simp [exp1, hm]
    | some p => have := h p hm; have := hf c p hm; omega
  | f + 1, c, h => by
    rw [exp1, exp1]
    cases hm : m c with
    | none => rfl
    | some p =>
      have h1 := h p hm
      have h2 := hf c p hm
      simp only [exp1_fuel hf f p.1 (fun q hq => by omega)]
theorem Fine.lt {D : FontD} {m : MapN} (F : Fine D m) : ∀ c p, m c = some p → 128 ≤ c ∧ c < 256 ∧ 0 ≤ p.1 ∧ p.1 < c := fun c p h => by
  obtain ⟨a, b, c', d, _⟩ := F.key c p h
  exact ⟨a, b, c', d⟩
theorem expC_none {m : MapN} {c : Int} (h : m c = none) : expC m c = [c] := by simp [expC, exp1, h]
theorem expC_some {D : FontD} {m : MapN} (F : Fine D m) {c : Int} {p : Int × Int} (h : m c = some p) : expC m c = expC m p.1 ++ [p.2] := by
  have e : expC m c = exp1 m 299 p.1 ++ [p.2] := by
    show exp1 m (299 + 1) c = _
    rw [exp1]
    simp only [h]
  rw [e, expC, exp1_fuel F.lt 299 p.1 (fun q hq => by have := F.lt p.1 q hq; omega)]
theorem Fine.low {D : FontD} {m : MapN} (F : Fine D m) {c : Int} (h : c < 128) : m c = none := by
  cases hm : m c with
  | none => rfl
  | some p => have := F.lt c p hm; omega
theorem expL_cons (m : MapN) (c : Int) (l : List Int) : expL m (c :: l) = expC m c ++ expL m l := by simp [expL]
theorem expL_append (m : MapN) (a b : List Int) : expL m (a ++ b) = expL m a ++ expL m b := by simp [expL]

/-- What is set is expanded again. -/
theorem back {D : FontD} {m : MapN} (G : Good D m) : ∀ (r : List Int) (so : Int), hasB D so = true → (∀ x ∈ r, oneB D x = true) → expL m ((glyL D so r).map (·.1)) = expC m so ++ r
  | [], so, _, _ => by simp [glyL, expL]
  | n :: r, so, hs, hr => by
    have hn := hr n (by simp)
    have hr' := fun x hx => hr x (List.mem_cons_of_mem n hx)
    simp only [oneB, Bool.and_eq_true, decide_eq_true_eq] at hn
    have en : expC m n = [n] := expC_none (G.fine.low (by omega))
    cases hq : ruleD D so n with
    | none =>
      simp only [glyL, hq, List.map_cons, expL_cons, back G r n hn.2 hr', en]
      simp
    | some q =>
      obtain ⟨_, _, _, h4, _⟩ := G.step hs hq
      by_cases h2 : D.stp q 2 = 0
      · obtain ⟨h5, h6⟩ := h4 h2
        simp only [glyL, hq, h2, if_true, back G r _ h6 hr', expC_some G.fine h5]
        simp
      · simp only [glyL, hq, h2, if_false, List.map_cons, expL_cons, back G r n hn.2 hr', en]
        simp
theorem glyL_has {D : FontD} {m : MapN} (G : Good D m) : ∀ (r : List Int) (so : Int), hasB D so = true → (∀ x ∈ r, oneB D x = true) → ∀ p ∈ glyL D so r, hasB D p.1 = true
  | [], so, hs, _, p, hp => by simp [glyL] at hp; subst hp; exact hs
  | n :: r, so, hs, hr, p, hp => by
    have hn := hr n (by simp)
    have hr' := fun x hx => hr x (List.mem_cons_of_mem n hx)
    simp only [oneB, Bool.and_eq_true, decide_eq_true_eq] at hn
    cases hq : ruleD D so n with
    | none =>
      simp only [glyL, hq, List.mem_cons] at hp
      rcases hp with rfl | hp
      · exact hs
      · exact glyL_has G r n hn.2 hr' p hp
    | some q =>
      obtain ⟨_, _, _, h4, _⟩ := G.step hs hq
      by_cases h2 : D.stp q 2 = 0
      · simp only [glyL, hq, h2, if_true] at hp
        exact glyL_has G r _ (h4 h2).2 hr' p hp
      · simp only [glyL, hq, h2, if_false, List.mem_cons] at hp
        rcases hp with rfl | hp
        · exact hs
        · exact glyL_has G r n hn.2 hr' p hp
theorem glyL_pos (D : FontD) : ∀ (r : List Int) (so : Int), 0 < (glyL D so r).length
  | [], _ => by simp [glyL]
  | n :: r, so => by
    simp only [glyL]
    split
    · split
      · exact glyL_pos D r _
      · simp
    · simp
theorem setB_iff {D : FontD} {l : List Int} : setB D l = true ↔ ∀ x ∈ l, oneB D x = true := by simp [setB]
theorem backD {D : FontD} {m : MapN} (G : Good D m) {l : List Int} (h : setB D l = true) : expL m ((glyD D l).map (·.1)) = l := by
  rw [setB_iff] at h
  cases l with
  | nil => simp [glyD, expL]
  | cons a r =>
    have ha := h a (by simp)
    simp only [oneB, Bool.and_eq_true, decide_eq_true_eq] at ha
    rw [glyD, back G r a ha.2 (fun x hx => h x (by simp [hx])), expC_none (G.fine.low (by omega))]
    rfl
theorem glyD_has {D : FontD} {m : MapN} (G : Good D m) {l : List Int} (h : setB D l = true) : ∀ p ∈ glyD D l, hasB D p.1 = true := by
  rw [setB_iff] at h
  cases l with
  | nil => simp [glyD]
  | cons a r =>
    have ha := h a (by simp)
    simp only [oneB, Bool.and_eq_true, decide_eq_true_eq] at ha
    exact glyL_has G r a ha.2 (fun x hx => h x (by simp [hx]))

/-- What is expanded stays. -/
theorem exp1_out {D : FontD} {m : MapN} (F : Fine D m) : ∀ (f : Nat) (c : Int), (∀ p, m c = some p → c < f) → ∀ y ∈ exp1 m f c, m y = none
  | 0, c, h, y, hy => by
    simp [exp1] at hy
    subst hy
    cases hm : m y with
    | none => rfl
    | some p => have := h p hm; have := F.lt y p hm; omega
  | f + 1, c, h, y, hy => by
    rw [exp1] at hy
    cases hm : m c with
    | none => simp [hm] at hy; subst hy; exact hm
    | some p =>
      simp only [hm, List.mem_append, List.mem_singleton] at hy
      have h1 := h p hm
      have h2 := F.key c p hm
      rcases hy with hy | rfl
      · exact exp1_out F f p.1 (fun q hq => by omega) y hy
      · exact F.low h2.2.2.2.2.2.1
theorem expL_out {D : FontD} {m : MapN} (F : Fine D m) {l : List Int} : ∀ y ∈ expL m l, m y = none := by
  intro y hy
  obtain ⟨c, _, hc⟩ := List.mem_flatMap.1 hy
  exact exp1_out F 300 c (fun p hp => by have := F.lt c p hp; omega) y hc
theorem expL_stays {m : MapN} : ∀ {l : List Int}, (∀ y ∈ l, m y = none) → expL m l = l
  | [], _ => rfl
  | c :: r, h => by rw [expL_cons, expC_none (h c (by simp)), expL_stays (fun y hy => h y (by simp [hy]))]; rfl
theorem expL_twice {D : FontD} {m : MapN} (F : Fine D m) (l : List Int) : expL m (expL m l) = expL m l := expL_stays (expL_out F)
end L08
end Go.Proofs.Ytpkmpbpifbpomaa

namespace Go.Proofs.Ytpkmpbpifbpomaa
open Go.RowKit
namespace L08
open L07

/-- Which codes have a rule among the first i places. -/
def seenK (D : FontD) (ks : List Nat) : Nat → RuN
  | 0 => fun _ => false
  | i + 1 => ruN D (seenK D ks i) (ks.getD i 0)
abbrev Tri := Int × Int × Int
/-- The rules that make a character, of the first i places. -/
def pairsI (D : FontD) (c : Int) (ks : List Nat) : Nat → List Tri
  | 0 => []
  | i + 1 => pairsI D c ks i ++ (if D.stp (ks.getD i 0) 2 = 0 ∧ seenK D ks i (D.stp (ks.getD i 0) 1) = false then [(c, D.stp (ks.getD i 0) 1, D.stp (ks.getD i 0) 3)] else [])
def mayT (D : FontD) (p : Tri) : Bool := decide (128 ≤ p.2.2) && (decide (p.1 < p.2.2) && (decide (p.2.1 < 128) && hasB D p.2.2))
/-- What pairs make, one by one. -/
def putsL (D : FontD) : List Tri → MapN → Option MapN
  | [], m => some m
  | p :: t, m => if (m p.2.2).isSome = true ∨ mayT D p = false then none else putsL D t (fun y => if y = p.2.2 then some (p.1, p.2.1) else m y)
theorem putsL_append (D : FontD) (b : List Tri) : ∀ (a : List Tri) (m : MapN), putsL D (a ++ b) m = (putsL D a m).bind (putsL D b)
  | [], m => by simp [putsL]
  | p :: t, m => by
    simp only [List.cons_append, putsL]
    split
    · rfl
    · exact putsL_append D b t _
/-- The places of a character's steps. -/
def placesO : List (Option Nat) → List Nat
  | [] => []
  | none :: r => placesO r
  | some k :: r => k :: placesO r
theorem placesO_some : ∀ ks : List Nat, placesO (ks.map some) = ks
  | [] => rfl
  | k :: r => by simp [placesO, placesO_some r]
theorem places_all {D : FontD} : ∀ {l : List (Option Nat)}, (∀ x ∈ l, ∃ k, x = some k ∧ opB D k = true) → l = (placesO l).map some
  | [], _ => rfl
  | none :: r, h => by obtain ⟨k, e, _⟩ := h none (by simp); cases e
  | some k :: r, h => by
    simp only [placesO, List.map_cons]
    rw [← places_all (fun x hx => h x (by simp [hx]))]
theorem take_snoc {l : List Nat} {i : Nat} (h : i < l.length) : l.take (i + 1) = l.take i ++ [l.getD i 0] := by
  rw [List.take_succ_eq_append_getElem h, List.getD, List.getElem?_eq_getElem h]; rfl

/-- What is learnt of steps that all may be is what their pairs make. -/
theorem learn_puts {D : FontD} {c : Int} {ks : List Nat} (hop : ∀ k ∈ ks, opB D k = true) (m0 : MapN) : ∀ i, i ≤ ks.length → learnL D c ((ks.take i).map some) (m0, fun _ => false) = (putsL D (pairsI D c ks i) m0).map fun m => (m, seenK D ks i)
  | 0, _ => by simp [learnL, pairsI, putsL, seenK]
  | i + 1, hi => by
    have hi' : i < ks.length := by omega
    have ho : opB D (ks.getD i 0) = true := by
      rw [List.getD, List.getElem?_eq_getElem hi']
      exact hop _ (List.getElem_mem hi')
    rw [take_snoc hi', List.map_append, List.map_cons, List.map_nil, learnL_snoc, learn_puts hop m0 i (by omega), pairsI, putsL_append]
    cases putsL D (pairsI D c ks i) m0 with
    | none => rfl
    | some m =>
      simp only [Option.map_some, Option.bind_some, learn1]
      rw [if_pos ho]
      by_cases h : D.stp (ks.getD i 0) 2 = 0 ∧ seenK D ks i (D.stp (ks.getD i 0) 1) = false
      · rw [if_pos h, if_pos h]
        simp only [putsL]
        have e : mayT D (c, D.stp (ks.getD i 0) 1, D.stp (ks.getD i 0) 3) = mayB D c (ks.getD i 0) := rfl
        rw [e]
        split
        · rfl
        · rfl
      · rw [if_neg h, if_neg h]
        rfl
def pairsC (D : FontD) (j : Nat) : List Tri := pairsI D (D.first + j) (placesO (seqC D j)) (placesO (seqC D j)).length
def pairsD (D : FontD) : Nat → List Tri
  | 0 => []
  | j + 1 => pairsD D j ++ pairsC D j
def okC (D : FontD) (j : Nat) : Prop := ∀ x ∈ seqC D j, ∃ k, x = some k ∧ opB D k = true
theorem learnC_puts {D : FontD} {j : Nat} (h : okC D j) (m : MapN) : learnC D m j = putsL D (pairsC D j) m := by
  have e := places_all h
  have hop : ∀ k ∈ placesO (seqC D j), opB D k = true := fun k hk => by
    obtain ⟨k', e', ho⟩ := h (some k) (by rw [e]; exact List.mem_map_of_mem hk)
    cases e'; exact ho
  have l := learn_puts (c := D.first + j) hop m _ (Nat.le_refl _)
  rw [List.take_length, ← e] at l
  rw [learnC, l, pairsC]
  cases putsL D (pairsI D (D.first + j) (placesO (seqC D j)) (placesO (seqC D j)).length) m <;> rfl
theorem learnC_no {D : FontD} {j : Nat} (h : ¬ okC D j) (m : MapN) : learnC D m j = none := by
  rw [learnC]
  cases hl : learnL D (D.first + j) (seqC D j) (m, fun _ => false) with
  | none => rfl
  | some s => exact absurd (learnL_all _ _ _ hl) h
theorem makeL_puts {D : FontD} : ∀ n, (∀ j, j < n → okC D j) → makeL D n = putsL D (pairsD D n) (fun _ => none)
  | 0, _ => rfl
  | n + 1, h => by
    rw [makeL, makeL_puts n (fun j hj => h j (by omega)), pairsD, putsL_append]
    cases putsL D (pairsD D n) (fun _ => none) with
    | none => rfl
    | some m => exact learnC_puts (h n (by omega)) m
theorem makeL_no {D : FontD} {j : Nat} (h : ¬ okC D j) : ∀ n, j < n → makeL D n = none
  | 0, hj => by omega
  | n + 1, hj => by
    rw [makeL]
    cases hm : makeL D n with
    | none => rfl
    | some m =>
      by_cases e : j = n
      · subst e; exact learnC_no h m
      · rw [makeL_no h n (by omega)] at hm; cases hm
/-- The map is the pairs. -/
theorem puts_keep {D : FontD} {c : Int} {p : Int × Int} : ∀ (ps : List Tri) (m0 m : MapN), putsL D ps m0 = some m → m0 c = some p → m c = some p ∧ ∀ q ∈ ps, q.2.2 ≠ c
  | [], m0, m, h, hc => by cases h; exact ⟨hc, fun q hq => by simp at hq⟩
  | q :: t, m0, m, h, hc => by
    simp only [putsL] at h
    split at h
    · cases h
    · rename_i hn
      have hq : q.2.2 ≠ c := fun e => hn (.inl (by rw [e, hc]; rfl))
      obtain ⟨h1, h2⟩ := puts_keep t _ m h (show (if c = q.2.2 then some (q.1, q.2.1) else m0 c) = some p by rw [if_neg (fun e => hq e.symm)]; exact hc)
      exact ⟨h1, fun r hr => by rcases List.mem_cons.1 hr with rfl | hr; exact hq; exact h2 r hr⟩
/-- The first pair that makes a code. -/
def findP (c : Int) : List Tri → Option (Int × Int)
  | [] => none
  | p :: t => if p.2.2 = c then some (p.1, p.2.1) else findP c t
theorem puts_find {D : FontD} {c : Int} : ∀ (ps : List Tri) (m0 m : MapN), putsL D ps m0 = some m → m0 c = none → m c = findP c ps
  | [], m0, m, h, hc => by cases h; exact hc
  | q :: t, m0, m, h, hc => by
    simp only [putsL] at h
    split at h
    · cases h
    · by_cases e : q.2.2 = c
      · subst e
        rw [findP, if_pos rfl]
        exact (puts_keep t _ m h (by simp)).1
      · rw [findP, if_neg e]
        exact puts_find t _ m h (by show (if c = q.2.2 then some (q.1, q.2.1) else m0 c) = none; rw [if_neg (fun e' => e e'.symm)]; exact hc)
theorem make_find {D : FontD} {m : MapN} (h : makeD D = some m) (c : Int) : m c = findP c (pairsD D D.nc) := by
  have G := make_good h
  rw [makeD, if_pos G.check, makeL_puts _ (fun j hj => G.all j hj)] at h
  exact puts_find _ _ _ h rfl
end L08
end Go.Proofs.Ytpkmpbpifbpomaa

namespace Go.Proofs.Ytpkmpbpifbpomaa
open Go.RowKit Go.Lib Go.Deep
namespace L08
open L07

/-- An append within a region that draws its order, whose run is known. -/
theorem step_app {P : Program} {ops : Array Oper} {o : Oper} {a : Act} {w w' : World} {K : Act → World → Prop} {Q : Exit → Act → World → Prop} {E : Prop} {t : TypeId} {v : Value} (s x : Operand)
    (ho : o.op = .call { callee := .builtin .append, args := #[s, x], argTypes := #[t, t] }) (hw : Region.wanted o (yielded ops a.tmps) = true) (hrun : (Builtin.append_ #[t, t] o.type #[a.eval s, a.eval x]).run P w = .ok v w')
    (h : K (a.put o.dst v) w') : if Region.wanted o (yielded ops a.tmps) = true then Oper.wp P o a w K Q else E := by
  rw [if_pos hw]
  unfold Oper.wp execOp
  simp only [ho, resolve, invoke, builtin, Sem.run_bind, Sem.run_pure, Result.andThen_ok, List.map_toArray, List.map_cons, List.map_nil, hrun]
  exact h

/-- All blocks but one are as they were. -/
structure Kpt (r : Option Nat) (w w' : World) : Prop where
  size : w.heap.size ≤ w'.heap.size
  same : ∀ b, b < w.heap.size → some b ≠ r → w'.heap[b]? = w.heap[b]?
theorem Kpt.of_grown {r : Option Nat} {w w' : World} (h : w.grownBy w' r) : Kpt r w w' := ⟨h.size, fun b hb hn => h.block b hb hn⟩
theorem Kpt.alloc {r : Option Nat} {w w' : World} (h : Kpt r w w') (o : Obj) : Kpt r w (w'.alloc o) :=
  ⟨Nat.le_trans h.size (by simp), fun b hb hn => (((Ext.refl w').alloc o).block b (Nat.lt_of_lt_of_le hb h.size)).trans (h.same b hb hn)⟩
theorem Kpt.refl (r : Option Nat) (w : World) : Kpt r w w := ⟨Nat.le_refl _, fun _ _ _ => rfl⟩
theorem Kpt.of_ext {r : Option Nat} {w w' : World} (h : Ext w w') : Kpt r w w' := ⟨h.size, fun b hb _ => h.block b hb⟩
/-- The row of the first is the row of the second, or a new one. -/
theorem Kpt.trans {r r' : Option Nat} {a b c : World} (h : Kpt r a b) (k : Kpt r' b c) (hr : r' = r ∨ ∀ n, r' = some n → a.heap.size ≤ n) : Kpt r a c :=
  ⟨Nat.le_trans h.size k.size, fun n hn hne => by
    refine (k.same n (Nat.lt_of_lt_of_le hn h.size) fun e => ?_).trans (h.same n hn hne)
    rcases hr with rfl | hr
    · exact hne e
    · have := hr n e.symm; omega⟩
theorem Kpt.blk {r : Option Nat} {w w' : World} {b : Nat} {t : TypeId} {cs : List Value} (h : Kpt r w w') (hb : Blk w b t cs) (hne : some b ≠ r) : Blk w' b t cs := (h.same b hb.lt hne).trans hb

theorem int_info : (Try.prog.info? 3).map (fun i => (i.zero, i.size, i.bytes)) = some (some (.int .i64 0), 1, 8) := by kernel_rfl
/-- append(own, x). -/
theorem run_put1 {w w0 : World} {v : Value} {k : Nat} {xs : List Value} (hown : w.ownsRow w0.heap.size 3 1 v k xs) (x0 : Ext w0 w) (a : Addr) (x : Int) (hc : w.cell? a = some (.int .i64 x)) (hk : k ≤ 900000000) (ty : TypeId) :
    ∃ v' w', (Builtin.append_ #[25, 25] ty #[v, .slice (some a) 1 1]).run Try.prog w = .ok v' w' ∧ w'.ownsRow w0.heap.size 3 1 v' (k + 1) (xs ++ [.int .i64 x]) ∧ Ext w0 w' ∧ Kpt v.ownBlock w w' ∧ (v'.ownBlock = v.ownBlock ∨ ∀ n, v'.ownBlock = some n → w.heap.size ≤ n) := by
  obtain ⟨i, hi, hz0, hsz', hby⟩ := info_parts int_info
  obtain ⟨v', w', hr, ho, hg, _, hat⟩ := run_append_own_at (P := Try.prog) (w := w) w0.heap.size 25 ty 3 i (.int .i64 0) 1 8 Try.underlying25 hi hz0 hsz' hby rfl (by decide) v k xs hown a 1 1 [.int .i64 x] rfl
    (fun j u hu => by
      cases j with
      | zero => simp at hu; subst hu; simpa [Addr.add] using hc
      | succ j => simp at hu) (by simp [Value.oneCell']) (by unfold maxLen; omega) (by omega) x0.size
  refine ⟨v', w', hr, ho, Below.grown x0 hg x0.size (fun n e => (hown.lt n e).1), Kpt.of_grown hg, ?_⟩
  rcases hat with h | h
  · exact .inl h
  · exact .inr fun n e => by rw [h] at e; cases e; exact Nat.le_refl _

theorem exp1_length (m : MapN) : ∀ (f : Nat) (c : Int), (exp1 m f c).length ≤ f + 1
  | 0, _ => by simp [exp1]
  | f + 1, c => by
    simp only [exp1]
    cases m c with
    | none => simp
    | some p => have := exp1_length m f p.1; simp; omega

/-- What expanded answers. -/
def ExpQ (w0 w : World) (v : Value) (k : Nat) (xs : List Value) (l : List Int) (e : Ending) (w' : World) : Prop :=
  ∃ v', e = .returned v' ∧ w'.ownsRow w0.heap.size 3 1 v' (k + l.length) (xs ++ l.map (.int .i64)) ∧ Ext w0 w' ∧ Kpt v.ownBlock w w' ∧ (v'.ownBlock = v.ownBlock ∨ ∀ n, v'.ownBlock = some n → w.heap.size ≤ n)

set_option maxRecDepth 100000 in
set_option maxHeartbeats 4000000 in
theorem expanded_none (w0 : World) (bm n : Nat) (m : MapN) (hm : MapF w0 bm n m) (c : Int) (hc : -9223372036854775808 ≤ c ∧ c ≤ 9223372036854775807) (hmc : m c = none) (v : Value) (k : Nat) (xs : List Value) (w : World) (x0 : Ext w0 w)
    (hown : w.ownsRow w0.heap.size 3 1 v k xs) (hk : k ≤ 900000000) : Calls Try.prog 53 #[v, .map (some bm), .int .i64 c] w (ExpQ w0 w v k xs [c]) := by
  have hlk := (hm.ext x0).look c hc
  have hp : pairOf m c = (0, 0) := by rw [pairOf, hmc]; rfl
  rw [hmc, hp] at hlk
  have hlk : (Instr.lookup 78 (.map (some bm)) (.int .i64 c) true).run Try.prog w = .ok (.tuple #[.agg #[.int .i64 0, .int .i64 0], .bool false]) w := hlk
  have y : Ext w ((w.alloc (.cells #[.int .i64 0, .int .i64 0] 132)).alloc (.cells #[.int .i64 c] 3)) := ((Ext.refl _).alloc _).alloc _
  have hown2 : ((w.alloc (.cells #[.int .i64 0, .int .i64 0] 132)).alloc (.cells #[.int .i64 c] 3)).ownsRow w0.heap.size 3 1 v k xs := (hown.alloc _).alloc _
  obtain ⟨v', w', hr, ho, hx, hkp, hat⟩ := run_put1 hown2 (x0.trans y) ⟨w.heap.size + 1, 0, none⟩ c (by simp) hk 25
  have HF := Lib.hid (show ExpQ w0 w v k xs [c] (.returned v') w' from ⟨v', rfl, ho, hx, (Kpt.of_ext y).trans hkp (.inl rfl), hat.imp id fun h n e => by have := h n e; simp at this; omega⟩)
  clear hm hown hown2 ho hx hkp hat hp hmc x0
  go_enter Try.func53, Try.ntmps53
  go_wp2_with (at_builtin; refine wpList_ran rfl _ _ rfl hr ?_)
  go_ret
  exact HF.out

set_option maxRecDepth 100000 in
set_option maxHeartbeats 8000000 in
theorem expanded_any (w0 : World) (bm n : Nat) (m : MapN) (hm : MapF w0 bm n m) (hf : ∀ c p, m c = some p → 128 ≤ c ∧ c < 256 ∧ 0 ≤ p.1 ∧ p.1 < c ∧ 0 ≤ p.2 ∧ p.2 < 128) :
    ∀ (f : Nat) (c : Int) (v : Value) (k : Nat) (xs : List Value) (w : World), (∀ p, m c = some p → c < f) → (-9223372036854775808 ≤ c ∧ c ≤ 9223372036854775807) → Ext w0 w → w.ownsRow w0.heap.size 3 1 v k xs → k + f ≤ 800000000 →
      Calls Try.prog 53 #[v, .map (some bm), .int .i64 c] w (ExpQ w0 w v k xs (exp1 m f c))
  | 0, c, v, k, xs, w, hcf, hc, x0, hown, hk => by
    have hmc : m c = none := by
      cases h : m c with
      | none => rfl
      | some p => have := hcf p h; have := hf c p h; omega
    exact expanded_none w0 bm n m hm c hc hmc v k xs w x0 hown (by omega)
  | f + 1, c, v, k, xs, w, hcf, hc, x0, hown, hk => by
    cases hmc : m c with
    | none =>
      rw [show exp1 m (f + 1) c = [c] by simp [exp1, hmc]]
      exact expanded_none w0 bm n m hm c hc hmc v k xs w x0 hown (by omega)
    | some p =>
      obtain ⟨p1, p2⟩ := p
      obtain ⟨c1, c2, c3, c4, c5, c6⟩ := hf c _ hmc
      have hcf' := hcf _ hmc
      rw [show exp1 m (f + 1) c = exp1 m f p1 ++ [p2] by simp [exp1, hmc]]
      have ih := fun w' (x : Ext w0 w') (ho : w'.ownsRow w0.heap.size 3 1 v k xs) => expanded_any w0 bm n m hm hf f p1 v k xs w' (fun q hq => by have := hf p1 q hq; omega) ⟨by omega, by omega⟩ x ho (by omega)
      have IH := Lib.hid ih
      have hL := exp1_length m f p1
      have hlk := (hm.ext x0).look c hc
      have hp : pairOf m c = (p1, p2) := by rw [pairOf, hmc]; rfl
      rw [hmc, hp] at hlk
      have hlk : (Instr.lookup 78 (.map (some bm)) (.int .i64 c) true).run Try.prog w = .ok (.tuple #[.agg #[.int .i64 p1, .int .i64 p2], .bool true]) w := hlk
      generalize exp1 m f p1 = L at *
      clear ih hp hmc hm hf hcf hcf'
      go_enter Try.func53, Try.ntmps53
      go_wp2_with fail
      obtain ⟨W, hW⟩ : ∃ W, W = w.alloc (.cells #[.int .i64 p1, .int .i64 p2] 132) := ⟨_, rfl⟩
      rw [← hW]
      have y : Ext w W := by rw [hW]; exact (Ext.refl _).alloc _
      have kp : Blk W w.heap.size 132 [.int .i64 p1, .int .i64 p2] := by rw [hW]; exact Blk.lit _ _ _ _ rfl
      have hoW : W.ownsRow w0.heap.size 3 1 v k xs := by rw [hW]; exact hown.alloc _
      have hzW : W.heap.size = w.heap.size + 1 := by rw [hW]; simp
      have hvb : some w.heap.size ≠ v.ownBlock := fun e => by have := (hown.lt _ e.symm).2; omega
      have hw0 := x0.size
      clear hW
      have ca : W.cell? ⟨w.heap.size, 0, none⟩ = some (.int .i64 p1) := kp.cell 0
      have cb : W.cell? ⟨w.heap.size, 1, none⟩ = some (.int .i64 p2) := kp.cell 1
      have XW : Ext w0 W.drew := (x0.trans y).drew
      have hoD : W.drew.ownsRow w0.heap.size 3 1 v k xs := hoW.drew
      have kD : Blk W.drew w.heap.size 132 [.int .i64 p1, .int .i64 p2] := kp
      have hzD : W.drew.heap.size = w.heap.size + 1 := hzW
      -- the end: what the call has left, and the append
      have FIN := Lib.hid (fun (w2 : World) (v2 : Value) (a : Addr) (h2 : w2.ownsRow w0.heap.size 3 1 v2 (k + L.length) (xs ++ L.map (.int .i64))) (x2 : Ext w0 w2) (k2 : Kpt v.ownBlock w w2) (e2 : v2.ownBlock = v.ownBlock ∨ ∀ n, v2.ownBlock = some n → w.heap.size ≤ n) (hca : w2.cell? a = some (.int .i64 p2)) =>
        (show ∃ v' w', (Builtin.append_ #[25, 25] 25 #[v2, .slice (some a) 1 1]).run Try.prog w2 = .ok v' w' ∧ ExpQ w0 w v k xs (L ++ [p2]) (.returned v') w' ∧ Kpt v2.ownBlock w2 w' from by
          obtain ⟨v', w', hr, ho, hx, hkp, hat⟩ := run_put1 h2 x2 a p2 hca (by omega) 25
          refine ⟨v', w', hr, ⟨v', rfl, ?_, hx, k2.trans hkp e2, ?_⟩, hkp⟩
          · rw [List.length_append, List.map_append, ← List.append_assoc, ← Nat.add_assoc]; exact ho
          · rcases hat with h | h
            · rw [h]; exact e2
            · exact .inr fun n e => Nat.le_trans k2.size (h n e)))
      have HvB := Lib.hid hvb
      have XW2 := Lib.hid XW
      have HOD := Lib.hid hoD
      clear hvb XW hoD hoW hown x0 hlk kp
      refine wp_region_noPanic ?_
      refine wp_region_held_drew (S := (fun w' => w'.cell? ⟨w.heap.size, 0, none⟩ = some (.int .i64 p1) ∧ w'.cell? ⟨w.heap.size, 1, none⟩ = some (.int .i64 p2))) (by kernel_rfl) ⟨kD.cell 0, kD.cell 1⟩ (fun h0 => ?_)
      refine wpAnyH_take (i := 0) (oi := ?_) (v := ?_) ?_ (by kernel_rfl) (by kernel_rfl) (by kernel_rfl) ?_ ?_ h0 ?_
      rotate_left 2
      · simp only [List.getElem?_toArray, List.getElem?_cons_zero]; rfl
      · exact fun _ _ _ h => h
      · refine Or.inl ⟨by rfl, ?_⟩
        intro w hSw
        (try dsimp only at hSw)
        go_simp
        (try with_reducible rfl)
      (try simp only [Act.put, List.setIfInBounds_toArray, List.set_cons_zero, List.set_cons_succ])
      refine wpAnyH_take (i := 1) (oi := ?_) (v := ?_) ?_ (by kernel_rfl) (by kernel_rfl) (by kernel_rfl) ?_ ?_ h0 ?_
      rotate_left 2
      · simp only [List.getElem?_toArray, List.getElem?_cons_zero, List.getElem?_cons_succ]; rfl
      · exact fun _ _ _ h => h
      · refine Or.inl ⟨by rfl, ?_⟩
        intro w hSw
        (try dsimp only at hSw)
        go_simp
        (try with_reducible rfl)
      (try simp only [Act.put, List.setIfInBounds_toArray, List.set_cons_zero, List.set_cons_succ])
      refine wpAnyH_take (i := 2) (oi := ?_) (v := ?_) ?_ (by kernel_rfl) (by kernel_rfl) (by kernel_rfl) ?_ ?_ h0 ?_
      rotate_left 2
      · simp only [List.getElem?_toArray, List.getElem?_cons_zero, List.getElem?_cons_succ]; rfl
      · exact fun _ _ _ h => h
      · refine Or.inl ⟨by rfl, ?_⟩
        intro w hSw
        (try dsimp only at hSw)
        go_simp
        (try with_reducible rfl)
      (try simp only [Act.put, List.setIfInBounds_toArray, List.set_cons_zero, List.set_cons_succ])
      refine wpAnyH_take (i := 3) (oi := ?_) (v := ?_) ?_ (by kernel_rfl) (by kernel_rfl) (by kernel_rfl) ?_ ?_ h0 ?_
      rotate_left 2
      · simp only [List.getElem?_toArray, List.getElem?_cons_zero, List.getElem?_cons_succ]; rfl
      · exact fun _ _ _ h => h
      · refine Or.inl ⟨by rfl, ?_⟩
        intro w hSw
        (try dsimp only at hSw)
        go_simp
        (try with_reducible rfl)
      (try simp only [Act.put, List.setIfInBounds_toArray, List.set_cons_zero, List.set_cons_succ])
      refine wpAnyH_take (i := 5) (oi := ?_) (v := ?_) ?_ (by kernel_rfl) (by kernel_rfl) (by kernel_rfl) ?_ ?_ h0 ?_
      rotate_left 2
      · simp only [List.getElem?_toArray, List.getElem?_cons_zero, List.getElem?_cons_succ]; rfl
      · exact fun _ _ _ h => h
      · refine Or.inl ⟨by rfl, ?_⟩
        intro w hSw
        (try dsimp only at hSw)
        go_simp
        (try with_reducible rfl)
      (try simp only [Act.put, List.setIfInBounds_toArray, List.set_cons_zero, List.set_cons_succ])
      refine wpAnyH_take (i := 6) (oi := ?_) (v := ?_) ?_ (by kernel_rfl) (by kernel_rfl) (by kernel_rfl) ?_ ?_ h0 ?_
      rotate_left 2
      · simp only [List.getElem?_toArray, List.getElem?_cons_zero, List.getElem?_cons_succ]; rfl
      · exact fun _ _ _ h => h
      · refine Or.inl ⟨by rfl, ?_⟩
        intro w hSw
        (try dsimp only at hSw)
        go_simp
        (try with_reducible rfl)
      (try simp only [Act.put, List.setIfInBounds_toArray, List.set_cons_zero, List.set_cons_succ])
      refine wpAnyH_ready (rs := [4, 7]) (by kernel_rfl) (by simp) ?_
      refine AllReadyH.cons (o := ?_) ?_ (fun K hK => ?_) ?_
      rotate_left
      · simp only [List.getElem?_toArray, List.getElem?_cons_zero, List.getElem?_cons_succ]; rfl
      · go_simp
        refine (IH.out _ XW2.out HOD.out).mono ?_
        rintro e w2 ⟨v2, rfl, ho2, hx2, hk2, he2⟩
        have kq := hk2.blk kD HvB.out
        have k2' : Kpt v.ownBlock w w2 := (Kpt.of_ext y.drew).trans hk2 (.inl rfl)
        have he2' : v2.ownBlock = v.ownBlock ∨ ∀ n, v2.ownBlock = some n → w.heap.size ≤ n := he2.imp id fun h n e => by have := h n e; omega
        have ltq := kq.lt
        obtain ⟨v', w', hr, hq, hkp⟩ := FIN.out (w2.alloc (.cells #[.int .i64 p2] 3)) v2 ⟨w2.heap.size, 0, none⟩ (ho2.alloc _) (hx2.alloc _) (k2'.alloc _) he2' (by simp)
        have hqv : some w.heap.size ≠ v2.ownBlock := fun e => by
          rcases he2 with h | h
          · rw [h] at e; exact HvB.out e
          · have := h _ e.symm; omega
        have kr := hkp.blk (kq.ext ((Ext.refl _).alloc _)) hqv
        refine hK.out _ _ ⟨kq.cell 0, kq.cell 1⟩ (fun h1 => ?_)
        clear hK K
        (try simp only [Act.put, List.setIfInBounds_toArray, List.set_cons_zero, List.set_cons_succ])
        refine wpAnyH_ready (rs := [7]) (by kernel_rfl) (by simp) ?_
        refine AllReadyH.cons (o := ?_) ?_ (fun K hK => ?_) AllReadyH.nil
        rotate_left
        · simp only [List.getElem?_toArray, List.getElem?_cons_zero, List.getElem?_cons_succ]; rfl
        go_simp
        refine hK.out _ _ ⟨((kq.ext ((Ext.refl _).alloc _))).cell 0, ((kq.ext ((Ext.refl _).alloc _))).cell 1⟩ (fun h2 => ?_)
        clear hK K
        (try simp only [Act.put, List.setIfInBounds_toArray, List.set_cons_zero, List.set_cons_succ])
        refine wpAnyH_ready (rs := [8]) (by kernel_rfl) (by simp) ?_
        refine AllReadyH.cons (o := ?_) ?_ (fun K hK => ?_) AllReadyH.nil
        rotate_left
        · simp only [List.getElem?_toArray, List.getElem?_cons_zero, List.getElem?_cons_succ]; rfl
        refine step_app (.tmp 25) (.tmp 28) rfl (by kernel_rfl) hr ?_
        refine hK.out _ _ ⟨kr.cell 0, kr.cell 1⟩ (fun h3 => ?_)
        clear hK K
        (try simp only [Act.put, List.setIfInBounds_toArray, List.set_cons_zero, List.set_cons_succ])
        refine wpAnyH_take (i := 9) (oi := ?_) (v := ?_) ?_ (by kernel_rfl) (by kernel_rfl) (by kernel_rfl) ?_ ?_ h3 ?_
        rotate_left 2
        · simp only [List.getElem?_toArray, List.getElem?_cons_zero, List.getElem?_cons_succ]; rfl
        · exact fun _ _ _ h => h
        · refine Or.inl ⟨by rfl, ?_⟩
          intro w hSw
          (try dsimp only at hSw)
          go_simp
          (try with_reducible rfl)
        (try simp only [Act.put, List.setIfInBounds_toArray, List.set_cons_zero, List.set_cons_succ])
        refine wpAnyH_done (by kernel_rfl) ?_ _
        refine NoPanic.normal ?_
        clear h0 h1 h2 h3 hr
        go_wp2_with fail
        go_ret
        exact hq
      · refine AllReadyH.cons (o := ?_) ?_ (fun K hK => ?_) AllReadyH.nil
        rotate_left
        · simp only [List.getElem?_toArray, List.getElem?_cons_zero, List.getElem?_cons_succ]; rfl
        go_simp
        have kE := kD.ext ((Ext.refl W.drew).alloc (.cells #[.int .i64 p2] 3))
        refine hK.out _ _ ⟨kE.cell 0, kE.cell 1⟩ (fun h1 => ?_)
        clear hK K
        (try simp only [Act.put, List.setIfInBounds_toArray, List.set_cons_zero, List.set_cons_succ])
        refine wpAnyH_ready (rs := [4]) (by kernel_rfl) (by simp) ?_
        refine AllReadyH.cons (o := ?_) ?_ (fun K hK => ?_) AllReadyH.nil
        rotate_left
        · simp only [List.getElem?_toArray, List.getElem?_cons_zero, List.getElem?_cons_succ]; rfl
        go_simp
        refine (IH.out (W.drew.alloc (.cells #[.int .i64 p2] 3)) (XW2.out.alloc _) (HOD.out.alloc _)).mono ?_
        rintro e w2 ⟨v2, rfl, ho2, hx2, hk2, he2⟩
        have kN : Blk (W.drew.alloc (.cells #[.int .i64 p2] 3)) (w.heap.size + 1) 3 [.int .i64 p2] := Blk.lit _ _ _ _ hzD.symm
        have hvN : some (w.heap.size + 1) ≠ v.ownBlock := fun e => by have := (HOD.out.lt _ e.symm).2; omega
        have kq := hk2.blk kE HvB.out
        have kn := hk2.blk kN hvN
        have k2' : Kpt v.ownBlock w w2 := (Kpt.of_ext (y.drew.alloc _)).trans hk2 (.inl rfl)
        have hzE : (W.drew.alloc (.cells #[.int .i64 p2] 3)).heap.size = w.heap.size + 2 := by simp; omega
        have he2' : v2.ownBlock = v.ownBlock ∨ ∀ n, v2.ownBlock = some n → w.heap.size ≤ n := he2.imp id fun h n e => by have := h n e; omega
        obtain ⟨v', w', hr, hq, hkp⟩ := FIN.out w2 v2 ⟨w.heap.size + 1, 0, none⟩ ho2 hx2 k2' he2' (kn.cell 0)
        have hqv : some w.heap.size ≠ v2.ownBlock := fun e => by
          rcases he2 with h | h
          · rw [h] at e; exact HvB.out e
          · have := h _ e.symm; omega
        have kr := hkp.blk kq hqv
        refine hK.out _ _ ⟨kq.cell 0, kq.cell 1⟩ (fun h2 => ?_)
        clear hK K
        (try simp only [Act.put, List.setIfInBounds_toArray, List.set_cons_zero, List.set_cons_succ])
        refine wpAnyH_ready (rs := [8]) (by kernel_rfl) (by simp) ?_
        refine AllReadyH.cons (o := ?_) ?_ (fun K hK => ?_) AllReadyH.nil
        rotate_left
        · simp only [List.getElem?_toArray, List.getElem?_cons_zero, List.getElem?_cons_succ]; rfl
        refine step_app (.tmp 25) (.tmp 28) rfl (by kernel_rfl) hr ?_
        refine hK.out _ _ ⟨kr.cell 0, kr.cell 1⟩ (fun h3 => ?_)
        clear hK K
        (try simp only [Act.put, List.setIfInBounds_toArray, List.set_cons_zero, List.set_cons_succ])
        refine wpAnyH_take (i := 9) (oi := ?_) (v := ?_) ?_ (by kernel_rfl) (by kernel_rfl) (by kernel_rfl) ?_ ?_ h3 ?_
        rotate_left 2
        · simp only [List.getElem?_toArray, List.getElem?_cons_zero, List.getElem?_cons_succ]; rfl
        · exact fun _ _ _ h => h
        · refine Or.inl ⟨by rfl, ?_⟩
          intro w hSw
          (try dsimp only at hSw)
          go_simp
          (try with_reducible rfl)
        (try simp only [Act.put, List.setIfInBounds_toArray, List.set_cons_zero, List.set_cons_succ])
        refine wpAnyH_done (by kernel_rfl) ?_ _
        refine NoPanic.normal ?_
        clear h0 h1 h2 h3 hr
        go_wp2_with fail
        go_ret
        exact hq
end L08
end Go.Proofs.Ytpkmpbpifbpomaa

namespace Go.Proofs.Ytpkmpbpifbpomaa
open Go.RowKit Go.Lib
namespace L08
open L07

/-- What one owns is a slice, and is seen. -/
theorem own_slice {w : World} {base : Nat} {e : TypeId} {size n : Nat} {v : Value} {xs : List Value} (h : w.ownsRow base e size v n xs) : ∃ A c, v = .slice A n c ∧ n ≤ c ∧ c ≤ maxLen ∧ Seen w.heap.size w A xs := by
  obtain ⟨A, c, rfl, hs⟩ := own_seen h
  obtain ⟨_, ⟨e1, h1⟩ | ⟨g, cap, cur, e1, _, _, hc, hm, _⟩⟩ := h
  · cases e1
    exact ⟨none, 0, rfl, Nat.le_refl _, by simp [maxLen], hs⟩
  · cases e1
    exact ⟨_, c, rfl, hc, hm, hs⟩
/-- The codes of which codes are made, or its error. -/
def expandR (D : FontD) (l : List Int) : List Int × Int := match makeD D with
  | none => ([], 70)
  | some m => (expL m l, 0)
def IntsQ (w : World) (r : List Int × Int) (e : Ending) (w' : World) : Prop :=
  Ext w w' ∧ ∃ A c, e = .returned (.tuple #[.slice A r.1.length c, .int .i64 r.2]) ∧ r.1.length ≤ c ∧ c ≤ maxLen ∧ SeenF w' A r.1.length (fun j => r.1.getD j 0)
theorem expL_take (m : MapN) {l : List Int} {k : Nat} (hk : k < l.length) : expL m (l.take (k + 1)) = expL m (l.take k) ++ expC m (l.getD k 0) := by
  rw [List.take_succ_eq_append_getElem hk, List.getD, List.getElem?_eq_getElem hk]
  simp only [expL, List.flatMap_append, List.flatMap_cons, List.flatMap_nil, List.append_nil, Option.getD_some]
theorem Fine.hf {D : FontD} {m : MapN} (h : Fine D m) : ∀ c p, m c = some p → 128 ≤ c ∧ c < 256 ∧ 0 ≤ p.1 ∧ p.1 < c ∧ 0 ≤ p.2 ∧ p.2 < 128 := fun c p e => by
  obtain ⟨a, b, c', d, e', f, _⟩ := h.key c p e
  exact ⟨a, b, c', d, e', f⟩

set_option maxRecDepth 100000 in
set_option maxHeartbeats 8000000 in
theorem lexpand_any (D : FontD) (P : FontP) (A : Option Addr) (l : List Int) (cp : Nat) (w : World) (ok : FontOk D P) (sn : SeenFont w D P) (hl : SeenF w A l.length (fun j => l.getD j 0)) (hb : ∀ j, -9223372036854775808 ≤ l.getD j 0 ∧ l.getD j 0 ≤ 9223372036854775807) (hn : l.length ≤ 1000000) :
    Calls Try.prog 19 #[fontV D P, .slice A l.length cp] w (IntsQ w (expandR D l)) := by
  have W0 : Ext w (w.alloc (.cells #[.int .i64 D.sum, .int .i64 D.design, .int .i64 D.first, .slice P.xc D.nc P.zc, .slice P.xw D.nw P.zw, .slice P.xh D.nh P.zh, .slice P.xd D.nd P.zd, .slice P.xi D.ni P.zi, .slice P.xs D.ns P.zs, .slice P.xk D.nk P.zk, .slice P.xp D.np P.zp] 28)) := (Ext.refl _).alloc _
  have T := Lib.hid (makings_any D P _ ok (sn.ext W0))
  clear ok sn
  obtain ⟨n, hnl⟩ : ∃ n, n = l.length := ⟨_, rfl⟩
  rw [← hnl] at hl hn ⊢
  have HN := Lib.hid hnl
  have HB := Lib.hid hb
  clear hnl hb
  unfold fontV at *
  go_enter Try.func19, Try.ntmps19
  go_wp2_with fail
  refine T.out.mono ?_
  rintro e V ⟨x1, (⟨m, bm, q, hm, rfl, hM⟩ | ⟨hm, rfl⟩)⟩
  · have G := Lib.hid (make_good hm).fine.hf
    have HR := Lib.hid (show expandR D l = (expL m l, 0) by rw [expandR, hm])
    have XV := Lib.hid (W0.trans x1)
    have HM := Lib.hid hM
    have HL := Lib.hid (hl.ext XV.out)
    clear hm x1 hl T W0 hM
    go_wp2_with fail
    go_loopw [8, 20] (fun v i wr => ∃ (vv : Value) (k : Nat), vv = v ∧ k ≤ n ∧ i = .int .i64 k ∧ wr.ownsRow V.heap.size 3 1 v (expL m (l.take k)).length ((expL m (l.take k)).map (.int .i64)) ∧ Ext V wr ∧ (expL m (l.take k)).length ≤ 301 * k) (fun _ i _ => n - (intOf i).toNat)
    case atStart => exact ⟨_, 0, rfl, by omega, rfl, World.ownsRow_nil _ _ _ _, Ext.refl _, by simp [expL]⟩
    case round =>
      obtain ⟨vv, k, hvv, hk, rfl, ho, X, hle⟩ := hrel
      subst hvv
      have HX := Lib.hid X
      by_cases hlt : k < n
      · have hltl : k < l.length := by rw [← HN.out]; exact hlt
        obtain ⟨ad, rfl, hc⟩ := (HL.out.ext X).get hlt
        have HE := Lib.hid (expL_take m hltl)
        have hbk := HB.out k
        have hcl := exp1_length m 300 (l.getD k 0)
        have C := Lib.hid (expanded_any V bm q m HM.out G.out 300 (l.getD k 0) vv _ _ wr (fun p hp => by have := G.out _ p hp; omega) hbk X ho (by omega))
        have HEC : Hid (expC m (l.getD k 0) = exp1 m 300 (l.getD k 0)) := rfl
        have hlen := Lib.hid (show (expL m (l.take k) ++ exp1 m 300 (l.getD k 0)).length ≤ 301 * (k + 1) by rw [List.length_append]; omega)
        clear X ho hcl
        generalize l.getD k 0 = c at *
        go_wp2_with fail
        refine C.out.mono ?_
        rintro e w2 ⟨v2, rfl, ho2, hx2, _, _⟩
        have HO2 := Lib.hid ho2
        clear C ho2 hc
        go_wp2_with fail
        go_roundw
        case rel => exact ⟨_, k + 1, rfl, by omega, by go_num, by rw [HE.out, HEC.out, List.length_append, List.map_append]; exact HO2.out, hx2, by rw [HE.out, HEC.out]; exact hlen.out⟩
        case measure => simp [intOf]; omega
      · obtain rfl : k = n := by omega
        have e : l.take k = l := by rw [HN.out, List.take_length]
        rw [e] at ho
        obtain ⟨A', c', rfl, h1, h2, h3⟩ := own_slice ho
        have HF := Lib.hid (show IntsQ w (expandR D l) (.returned (.tuple #[.slice A' (expL m l).length c', .int .i64 0])) wr from by
          rw [HR.out]
          exact ⟨XV.out.trans X, A', c', rfl, h1, h2, h3.fn⟩)
        generalize (expL m l).length = z at *
        clear ho h3 X e
        go_wp2_with fail
        go_ret2
        exact HF.out
  · have HR := Lib.hid (show expandR D l = ([], 70) by rw [expandR, hm])
    clear hm
    go_wp2_with fail
    go_ret2
    rw [HR.out]
    exact ⟨W0.trans x1, none, 0, rfl, by simp, by simp [maxLen], SeenF.none⟩
end L08
end Go.Proofs.Ytpkmpbpifbpomaa

namespace Go.Proofs.Ytpkmpbpifbpomaa
open Go.RowKit Go.Lib
namespace L08
open L07
theorem ownsRow_ext {w w' : World} {base : Nat} {e : TypeId} {size n : Nat} {v : Value} {xs : List Value} (h : w.ownsRow base e size v n xs) (x : Ext w w') : w'.ownsRow base e size v n xs :=
  Chg.owns (Chg.of_ext (T := NoT) (N := 0) x) h (fun _ _ _ h => h)
end L08
end Go.Proofs.Ytpkmpbpifbpomaa

namespace Go.Proofs.Ytpkmpbpifbpomaa
open Go.RowKit Go.Lib
namespace L08
open L07

/-- What the document's steps answers. -/
def StepsQ (_D : FontD) (l : List (Option Nat)) (w : World) (e : Ending) (w' : World) : Prop :=
  Ext w w' ∧ ∃ (b : Bool) (A : Option Addr) (c : Nat), e = .returned (.tuple #[.slice A (placesO l).length c, .bool b]) ∧ SeenF w' A (placesO l).length (fun j => ((placesO l).getD j 0 : Int)) ∧ (b = true ↔ ∀ x ∈ l, x ≠ none) ∧ ∀ a, A = some a → w.heap.size ≤ a.block
theorem placesO_append : ∀ (a b : List (Option Nat)), placesO (a ++ b) = placesO a ++ placesO b
  | [], _ => rfl
  | none :: r, b => placesO_append r b
  | some k :: r, b => by simp [placesO, placesO_append r b]
theorem nat_row {w : World} {A : Option Addr} {ks : List Nat} (h : Seen w.heap.size w A (ks.map fun n : Nat => Value.int .i64 (n : Int))) : SeenF w A ks.length (fun j => (ks.getD j 0 : Int)) := fun j hj => by
  obtain ⟨ad, e, hb, hc⟩ := Seen.get h (k := j) (by simpa using hj)
  refine ⟨ad, e, hb, ?_⟩
  rw [hc]
  simp [List.getD, hj]

set_option maxRecDepth 100000 in
set_option maxHeartbeats 8000000 in
theorem rsteps_any (D : FontD) (P : FontP) (c0 c1 c2 c3 t r : Int) (w : World) (sn : SeenFont w D P) (hD : checkB D = true) (ht : (t = 0 ∧ r = 0) ∨ (t = 1 ∧ 0 ≤ r ∧ r < D.ns)) :
    Calls Try.prog 57 #[fontV D P, charV c0 c1 c2 c3 t r] w (StepsQ D (seqO D t r) w) := by
  have hns := (check_in hD).ns
  have hs := Lib.hid (fun k hk => ((check_in hD).stp k hk).1)
  unfold fontV charV
  rcases ht with ⟨rfl, rfl⟩ | ⟨rfl, r0, r1⟩
  · go_enter Try.func57, Try.ntmps57
    go_wp2_with fail
    go_ret2
    exact ⟨((Ext.refl _).alloc _).alloc _, true, none, 0, rfl, SeenF.none, by simp [seqO, seqS], fun a h => by cases h⟩
  · obtain ⟨k0, rfl⟩ := Int.eq_ofNat_of_zero_le r0
    have hseq := Lib.hid (show seqO D 1 (k0 : Int) = ([] : List Nat).map some ++ (walkS D (D.ns + 1 + 1) k0).map (·.1) by rw [seqO, seqS, if_neg (by decide)]; rfl)
    generalize hq : seqO D 1 (k0 : Int) = sq at *
    clear hq
    go_enter Try.func57, Try.ntmps57
    go_wp2_with fail
    obtain ⟨V, hV⟩ : ∃ V, V = (w.alloc (.cells #[.int .i64 D.sum, .int .i64 D.design, .int .i64 D.first, .slice P.xc D.nc P.zc, .slice P.xw D.nw P.zw, .slice P.xh D.nh P.zh, .slice P.xd D.nd P.zd, .slice P.xi D.ni P.zi, .slice P.xs D.ns P.zs, .slice P.xk D.nk P.zk, .slice P.xp D.np P.zp] 28)).alloc (.cells #[.int .i64 c0, .int .i64 c1, .int .i64 c2, .int .i64 c3, .int .i64 1, .int .i64 k0] 61) := ⟨_, rfl⟩
    rw [← hV]
    have kF : Blk V w.heap.size 28 [.int .i64 D.sum, .int .i64 D.design, .int .i64 D.first, .slice P.xc D.nc P.zc, .slice P.xw D.nw P.zw, .slice P.xh D.nh P.zh, .slice P.xd D.nd P.zd, .slice P.xi D.ni P.zi, .slice P.xs D.ns P.zs, .slice P.xk D.nk P.zk, .slice P.xp D.np P.zp] := by rw [hV]; exact (Blk.lit _ _ _ _ rfl).ext ((Ext.refl _).alloc _)
    have XV : Ext w V := by rw [hV]; exact ((Ext.refl _).alloc _).alloc _
    clear hV
    have sn := sn.ext XV
    generalize hb0 : w.heap.size = b0 at *
    have hns64 : (D.ns : Int) ≤ 256 := by omega
    go_loopw [6, 7] (fun v i wr => ∃ (vv : Value) (ks : List Nat) (f k : Nat), vv = v ∧ k ≤ 600 ∧ i = .int .i64 k ∧ Hid (sq = ks.map some ++ (walkS D (f + 1) k).map (·.1)) ∧ D.ns < k + f + 1 ∧ ks.length ≤ k ∧ wr.ownsRow V.heap.size 3 1 vv ks.length (ks.map fun n : Nat => Value.int .i64 (n : Int)) ∧ Ext V wr) (fun _ i _ => 1000 - (intOf i).toNat)
    case atStart => exact ⟨_, [], D.ns + 1, k0, rfl, by omega, rfl, hseq, by omega, Nat.zero_le _, World.ownsRow_nil _ _ _ _, Ext.refl _⟩
    case round =>
      obtain ⟨vv, ks, f, k, hvv, hk, rfl, hp, hf, hkl, ho, X⟩ := hrel
      subst hvv
      have kF := kF.ext X
      have q8 : wr.cell? ⟨b0, 8, none⟩ = some (.slice P.xs D.ns P.zs) := kF.cell 8
      have lb := kF.lt
      have HX := Lib.hid X
      by_cases hlt : k < D.ns
      · obtain ⟨ad, hA, e0, _, _, _⟩ := row4 (sn.ext X).os hlt
        obtain ⟨s0, s1⟩ := hs.out k hlt
        have hp := hp.out
        rw [walkS_yes hlt, List.map_cons] at hp
        have HP := Lib.hid hp
        rw [hA] at q8
        obtain ⟨sk, hsk⟩ := Int.eq_ofNat_of_zero_le s0
        have HSK := Lib.hid hsk
        rw [hsk] at e0 s0 s1
        have hlt64 : ¬ (D.ns : Int) ≤ (k : Int) := by omega
        obtain ⟨v', w', hr, ho', hx', hkp, _⟩ := run_put1 (ho.alloc (.cells #[.int .i64 (k : Int)] 3)) (X.alloc _) ⟨wr.heap.size, 0, none⟩ (k : Int) ((Blk.lit wr wr.heap.size 3 #[.int .i64 (k : Int)] rfl).cell 0) (by omega) 25
        have HO := Lib.hid ho'
        have kF2 : Blk w' b0 28 [.int .i64 D.sum, .int .i64 D.design, .int .i64 D.first, .slice P.xc D.nc P.zc, .slice P.xw D.nw P.zw, .slice P.xh D.nh P.zh, .slice P.xd D.nd P.zd, .slice P.xi D.ni P.zi, .slice P.xs D.ns P.zs, .slice P.xk D.nk P.zk, .slice P.xp D.np P.zp] := (hx'.block b0 (by have := (show Blk V b0 _ _ from by assumption).lt; omega)).trans (by assumption)
        have q8' : w'.cell? ⟨b0, 8, none⟩ = some (.slice (some ad) D.ns P.zs) := by rw [← hA]; exact kF2.cell 8
        have e0' : w'.cell? (ad.add (k * 4)) = some (.int .i64 sk) := by
          obtain ⟨ad2, hA2, e02, _, _, _⟩ := row4 (sn.ext hx').os hlt
          rw [hA] at hA2
          cases hA2
          rw [HSK.out] at e02
          exact e02
        clear hp hsk hA ho X kF ho' kF2 hkp
        by_cases h128 : (128 : Int) ≤ sk
        · go_wp2_with (at_builtin; refine wpList_ran rfl _ _ rfl hr ?_)
          have ho2 := HO.out
          rw [show ks.map (fun n : Nat => Value.int .i64 (n : Int)) ++ [.int .i64 (k : Int)] = (ks ++ [k]).map (fun n : Nat => Value.int .i64 (n : Int)) by simp, show ks.length + 1 = (ks ++ [k]).length by simp] at ho2
          have hob := ho2
          obtain ⟨A', c', rfl, _, _, h3⟩ := own_slice ho2
          have e : sq = (ks ++ [k]).map some := by rw [HP.out, HSK.out, if_pos h128]; simp
          go_ret2
          refine ⟨XV.trans hx', true, A', c', ?_, ?_, ?_, fun a h => by subst h; have := (hob.lt a.block rfl).1; have := XV.size; omega⟩
          · rw [e, placesO_some]; simp
          · rw [e, placesO_some]; exact nat_row h3
          · rw [e]
            exact ⟨fun _ x hx => by obtain ⟨n, _, rfl⟩ := List.mem_map.1 hx; simp, fun _ => rfl⟩
        · go_wp2_with (at_builtin; refine wpList_ran rfl _ _ rfl hr ?_)
          go_roundw
          case rel => exact ⟨_, ks ++ [k], f - 1, k + sk + 1, rfl, by omega, by go_num, Lib.hid (by rw [HP.out, HSK.out, if_neg (show ¬ (128 : Int) ≤ (sk : Int) by omega), show f - 1 + 1 = f by omega]; simp), by omega, by simp; omega, by simpa using HO.out, hx'⟩
          case measure => simp [intOf]; omega
      · have hp := hp.out
        rw [walkS_no hlt, List.map_cons, List.map_nil] at hp
        have hob := ho
        obtain ⟨A', c', rfl, _, _, h3⟩ := own_slice ho
        have HF := Lib.hid (show StepsQ D sq w (.returned (.tuple #[.slice A' ks.length c', .bool false])) wr from by
          refine ⟨XV.trans X, false, A', c', ?_, ?_, ?_, fun a h => by subst h; have := (hob.lt a.block rfl).1; have := XV.size; omega⟩
          · rw [hp, placesO_append, placesO_some]; simp [placesO]
          · rw [hp, placesO_append, placesO_some]; simp only [placesO, List.append_nil]; exact nat_row h3
          · rw [hp]; simp)
        have hlt64 : (D.ns : Int) ≤ (k : Int) := by omega
        clear hp h3 ho hob X
        generalize ks.length = kl at *
        go_wp2_with fail
        go_ret2
        exact HF.out
end L08
end Go.Proofs.Ytpkmpbpifbpomaa

namespace Go.Proofs.Ytpkmpbpifbpomaa
open Go.RowKit Go.Lib Go.Deep
namespace L08
open L07

theorem ruleO_places {D : FontD} {b : Int} : ∀ (l : List (Option Nat)), ruleO D b l = ruleO D b ((placesO l).map some)
  | [] => rfl
  | none :: r => ruleO_places r
  | some k :: r => by
    simp only [placesO, List.map_cons, ruleO]
    rw [ruleO_places r]
theorem placesO_length : ∀ (l : List (Option Nat)), (placesO l).length ≤ l.length
  | [] => Nat.le_refl _
  | none :: r => Nat.le_trans (placesO_length r) (by simp)
  | some k :: r => by have := placesO_length r; simp only [placesO, List.length_cons]; omega
theorem seqC_length (D : FontD) (j : Nat) : (seqC D j).length ≤ D.ns + 2 := by
  rw [seqC, seqO, List.length_map]; exact seqS_length _ _ _
theorem placesO_mem {k : Nat} : ∀ {l : List (Option Nat)}, k ∈ placesO l → some k ∈ l
  | none :: r, h => List.mem_cons_of_mem _ (placesO_mem (l := r) h)
  | some k' :: r, h => by
    rcases List.mem_cons.1 h with rfl | h
    · simp
    · exact List.mem_cons_of_mem _ (placesO_mem h)
theorem places_lt {D : FontD} {j : Nat} {i : Nat} (h : i < (placesO (seqC D j)).length) : (placesO (seqC D j)).getD i 0 < D.ns := by
  rw [List.getD, List.getElem?_eq_getElem h]
  exact seqC_lt D j _ (placesO_mem (List.getElem_mem h)) _ rfl
/-- What a function answers whose results are a step's box, and a bool. -/
theorem results_step2 {fn : Func} (h : fn.results = #[.cell 6 69, .tmp 7]) (tmps : Array Value) (W : World) (R : Nat) (t : TypeId) (v0 v1 v2 v3 e : Value) (h6 : tmps[6]? = some (.pointer (some ⟨R, 0, none⟩))) (h7 : tmps[7]? = some e)
    (hb : Blk W R t [v0, v1, v2, v3]) : (results fn tmps).run Try.prog W = .ok (.tuple #[.agg #[v0, v1, v2, v3], e]) W := by
  have r0 : W.cell? ⟨R, 0, none⟩ = some v0 := hb.cell 0
  have r1 : W.cell? ⟨R, 1, none⟩ = some v1 := hb.cell 1
  have r2 : W.cell? ⟨R, 2, none⟩ = some v2 := hb.cell 2
  have r3 : W.cell? ⟨R, 3, none⟩ = some v3 := hb.cell 3
  simp only [results, h]
  simp [go_sem, loadVar, asAddr, *]

set_option maxRecDepth 100000 in
set_option maxHeartbeats 8000000 in
theorem rrule_any (D : FontD) (P : FontP) (a b : Int) (w : World) (sn : SeenFont w D P) (ha : hasB D a = true) :
    Calls Try.prog 90 #[fontV D P, .int .i64 a, .int .i64 b] w (Ret w (ruleV D a b)) := by
  obtain ⟨hD, a1, a2, hj⟩ := has_in ha
  have hf := (check_in hD).first
  have ht := ((check_in hD).chr _ hj).2.2.2.2
  have hnc := (check_in hD).nc
  have hns := (check_in hD).ns
  obtain ⟨j, hja⟩ : ∃ j : Nat, a - D.first = j := ⟨(a - D.first).toNat, by omega⟩
  have hjt : (a - D.first).toNat = j := by omega
  have HR := Lib.hid (show ruleD D a b = ruleO D b ((placesO (seqC D j)).map some) by rw [ruleD, hjt, ruleO_places])
  rw [hjt] at ht hj
  have wa : IntKind.i64.wrap (a - D.first) = (j : Int) := by rw [hja]; exact IntWalk.i64_in _ (by omega)
  have hpl := Nat.le_trans (placesO_length (seqC D j)) (seqC_length D j)
  have LT := Lib.hid (fun i (h : i < (placesO (seqC D j)).length) => places_lt (D := D) (j := j) h)
  have hao : ¬ D.first + (D.nc : Int) ≤ a := by omega
  have hal : ¬ a < D.first := by omega
  clear ha hja hjt
  have HD := Lib.hid hD
  clear hD
  unfold fontV
  go_enter Try.func90, Try.ntmps90
  go_wp2_with fail
  obtain ⟨WA, hWA⟩ : ∃ WA, WA = (w.alloc (.cells #[.int .i64 D.sum, .int .i64 D.design, .int .i64 D.first, .slice P.xc D.nc P.zc, .slice P.xw D.nw P.zw, .slice P.xh D.nh P.zh, .slice P.xd D.nd P.zd, .slice P.xi D.ni P.zi, .slice P.xs D.ns P.zs, .slice P.xk D.nk P.zk, .slice P.xp D.np P.zp] 28)).alloc (.cells #[.int .i64 0, .int .i64 0, .int .i64 0, .int .i64 0] 69) := ⟨_, rfl⟩
  rw [← hWA]
  have kF : Blk WA w.heap.size 28 [.int .i64 D.sum, .int .i64 D.design, .int .i64 D.first, .slice P.xc D.nc P.zc, .slice P.xw D.nw P.zw, .slice P.xh D.nh P.zh, .slice P.xd D.nd P.zd, .slice P.xi D.ni P.zi, .slice P.xs D.ns P.zs, .slice P.xk D.nk P.zk, .slice P.xp D.np P.zp] := by rw [hWA]; exact (Blk.lit _ _ _ _ rfl).ext ((Ext.refl _).alloc _)
  have kR : Blk WA (w.heap.size + 1) 69 [.int .i64 0, .int .i64 0, .int .i64 0, .int .i64 0] := by rw [hWA]; exact Blk.lit _ _ _ _ (by simp)
  have X0 : Ext w WA := by rw [hWA]; exact ((Ext.refl _).alloc _).alloc _
  clear hWA
  have SN := sn.ext X0
  obtain ⟨ad, hA, e0, e1, e2, e3, e4, e5⟩ := row6 SN.oc hj
  generalize hb1 : w.heap.size + 1 = b1 at *
  generalize hb0 : w.heap.size = b0 at *
  have q0 : WA.cell? ⟨b0, 0, none⟩ = some (.int .i64 D.sum) := kF.cell 0
  have q1 : WA.cell? ⟨b0, 1, none⟩ = some (.int .i64 D.design) := kF.cell 1
  have q2 : WA.cell? ⟨b0, 2, none⟩ = some (.int .i64 D.first) := kF.cell 2
  have q3 : WA.cell? ⟨b0, 3, none⟩ = some (.slice P.xc D.nc P.zc) := kF.cell 3
  have q4 : WA.cell? ⟨b0, 4, none⟩ = some (.slice P.xw D.nw P.zw) := kF.cell 4
  have q5 : WA.cell? ⟨b0, 5, none⟩ = some (.slice P.xh D.nh P.zh) := kF.cell 5
  have q6 : WA.cell? ⟨b0, 6, none⟩ = some (.slice P.xd D.nd P.zd) := kF.cell 6
  have q7 : WA.cell? ⟨b0, 7, none⟩ = some (.slice P.xi D.ni P.zi) := kF.cell 7
  have q8 : WA.cell? ⟨b0, 8, none⟩ = some (.slice P.xs D.ns P.zs) := kF.cell 8
  have q9 : WA.cell? ⟨b0, 9, none⟩ = some (.slice P.xk D.nk P.zk) := kF.cell 9
  have q10 : WA.cell? ⟨b0, 10, none⟩ = some (.slice P.xp D.np P.zp) := kF.cell 10
  rw [hA] at q3
  have HA := Lib.hid hA
  clear hA
  have ST := Lib.hid (show Calls Try.prog 57 #[.agg #[.int .i64 D.sum, .int .i64 D.design, .int .i64 D.first, .slice P.xc D.nc P.zc, .slice P.xw D.nw P.zw, .slice P.xh D.nh P.zh, .slice P.xd D.nd P.zd, .slice P.xi D.ni P.zi, .slice P.xs D.ns P.zs, .slice P.xk D.nk P.zk, .slice P.xp D.np P.zp], .agg #[.int .i64 (D.chr j 0), .int .i64 (D.chr j 1), .int .i64 (D.chr j 2), .int .i64 (D.chr j 3), .int .i64 (D.chr j 4), .int .i64 (D.chr j 5)]] WA.drew (StepsQ D (seqC D j) WA.drew) from rsteps_any D P _ _ _ _ _ _ _ (SN.ext ((Ext.refl _).drew)) HD.out (by omega))
  have KS := Lib.hid (fun w' (x : Ext WA w') => show w'.cell? ⟨b0, 0, none⟩ = some (.int .i64 D.sum) ∧ w'.cell? ⟨b0, 1, none⟩ = some (.int .i64 D.design) ∧ w'.cell? ⟨b0, 2, none⟩ = some (.int .i64 D.first) ∧ w'.cell? ⟨b0, 3, none⟩ = some (.slice (some ad) D.nc P.zc) ∧ w'.cell? ⟨b0, 4, none⟩ = some (.slice P.xw D.nw P.zw) ∧ w'.cell? ⟨b0, 5, none⟩ = some (.slice P.xh D.nh P.zh) ∧ w'.cell? ⟨b0, 6, none⟩ = some (.slice P.xd D.nd P.zd) ∧ w'.cell? ⟨b0, 7, none⟩ = some (.slice P.xi D.ni P.zi) ∧ w'.cell? ⟨b0, 8, none⟩ = some (.slice P.xs D.ns P.zs) ∧ w'.cell? ⟨b0, 9, none⟩ = some (.slice P.xk D.nk P.zk) ∧ w'.cell? ⟨b0, 10, none⟩ = some (.slice P.xp D.np P.zp) ∧ w'.cell? (ad.add (j * 6)) = some (.int .i64 (D.chr j 0)) ∧ w'.cell? ⟨(ad.add (j * 6)).block, (ad.add (j * 6)).off + 1, none⟩ = some (.int .i64 (D.chr j 1)) ∧ w'.cell? ⟨(ad.add (j * 6)).block, (ad.add (j * 6)).off + 2, none⟩ = some (.int .i64 (D.chr j 2)) ∧ w'.cell? ⟨(ad.add (j * 6)).block, (ad.add (j * 6)).off + 3, none⟩ = some (.int .i64 (D.chr j 3)) ∧ w'.cell? ⟨(ad.add (j * 6)).block, (ad.add (j * 6)).off + 4, none⟩ = some (.int .i64 (D.chr j 4)) ∧ w'.cell? ⟨(ad.add (j * 6)).block, (ad.add (j * 6)).off + 5, none⟩ = some (.int .i64 (D.chr j 5)) from ⟨x.at q0, x.at q1, x.at q2, x.at q3, x.at q4, x.at q5, x.at q6, x.at q7, x.at q8, x.at q9, x.at q10, x.at e0, x.at e1, x.at e2, x.at e3, x.at e4, x.at e5⟩)
  have hjc : (j : Int) < (D.nc : Int) := by omega
  refine wp_region_noPanic ?_
  refine wp_region_held_drew (S := (fun w' => w'.cell? ⟨b0, 0, none⟩ = some (.int .i64 D.sum) ∧ w'.cell? ⟨b0, 1, none⟩ = some (.int .i64 D.design) ∧ w'.cell? ⟨b0, 2, none⟩ = some (.int .i64 D.first) ∧ w'.cell? ⟨b0, 3, none⟩ = some (.slice (some ad) D.nc P.zc) ∧ w'.cell? ⟨b0, 4, none⟩ = some (.slice P.xw D.nw P.zw) ∧ w'.cell? ⟨b0, 5, none⟩ = some (.slice P.xh D.nh P.zh) ∧ w'.cell? ⟨b0, 6, none⟩ = some (.slice P.xd D.nd P.zd) ∧ w'.cell? ⟨b0, 7, none⟩ = some (.slice P.xi D.ni P.zi) ∧ w'.cell? ⟨b0, 8, none⟩ = some (.slice P.xs D.ns P.zs) ∧ w'.cell? ⟨b0, 9, none⟩ = some (.slice P.xk D.nk P.zk) ∧ w'.cell? ⟨b0, 10, none⟩ = some (.slice P.xp D.np P.zp) ∧ w'.cell? (ad.add (j * 6)) = some (.int .i64 (D.chr j 0)) ∧ w'.cell? ⟨(ad.add (j * 6)).block, (ad.add (j * 6)).off + 1, none⟩ = some (.int .i64 (D.chr j 1)) ∧ w'.cell? ⟨(ad.add (j * 6)).block, (ad.add (j * 6)).off + 2, none⟩ = some (.int .i64 (D.chr j 2)) ∧ w'.cell? ⟨(ad.add (j * 6)).block, (ad.add (j * 6)).off + 3, none⟩ = some (.int .i64 (D.chr j 3)) ∧ w'.cell? ⟨(ad.add (j * 6)).block, (ad.add (j * 6)).off + 4, none⟩ = some (.int .i64 (D.chr j 4)) ∧ w'.cell? ⟨(ad.add (j * 6)).block, (ad.add (j * 6)).off + 5, none⟩ = some (.int .i64 (D.chr j 5)))) (by kernel_rfl) (KS.out _ ((Ext.refl _).drew)) (fun h0 => ?_)
  refine wpAnyH_take (i := 0) (oi := ?_) (v := ?_) ?_ (by kernel_rfl) (by kernel_rfl) (by kernel_rfl) ?_ ?_ h0 ?_
  rotate_left 2
  · simp only [List.getElem?_toArray, List.getElem?_cons_zero]; rfl
  · exact fun _ _ _ h => h
  · refine Or.inl ⟨by rfl, ?_⟩
    intro w hSw
    (try dsimp only at hSw)
    go_simp
    (try with_reducible rfl)
  (try simp only [Act.put, List.setIfInBounds_toArray, List.set_cons_zero, List.set_cons_succ])
  refine wpAnyH_take (i := 1) (oi := ?_) (v := ?_) ?_ (by kernel_rfl) (by kernel_rfl) (by kernel_rfl) ?_ ?_ h0 ?_
  rotate_left 2
  · simp only [List.getElem?_toArray, List.getElem?_cons_zero, List.getElem?_cons_succ]; rfl
  · exact fun _ _ _ h => h
  · refine Or.inl ⟨by rfl, ?_⟩
    intro w hSw
    (try dsimp only at hSw)
    go_simp
    (try with_reducible rfl)
  (try simp only [Act.put, List.setIfInBounds_toArray, List.set_cons_zero, List.set_cons_succ])
  refine wpAnyH_take (i := 2) (oi := ?_) (v := ?_) ?_ (by kernel_rfl) (by kernel_rfl) (by kernel_rfl) ?_ ?_ h0 ?_
  rotate_left 2
  · simp only [List.getElem?_toArray, List.getElem?_cons_zero, List.getElem?_cons_succ]; rfl
  · exact fun _ _ _ h => h
  · refine Or.inl ⟨by rfl, ?_⟩
    intro w hSw
    (try dsimp only at hSw)
    go_simp
    (try with_reducible rfl)
  (try simp only [Act.put, List.setIfInBounds_toArray, List.set_cons_zero, List.set_cons_succ])
  refine wpAnyH_take (i := 3) (oi := ?_) (v := ?_) ?_ (by kernel_rfl) (by kernel_rfl) (by kernel_rfl) ?_ ?_ h0 ?_
  rotate_left 2
  · simp only [List.getElem?_toArray, List.getElem?_cons_zero, List.getElem?_cons_succ]; rfl
  · exact fun _ _ _ h => h
  · refine Or.inl ⟨by rfl, ?_⟩
    intro w hSw
    (try dsimp only at hSw)
    go_simp
    (try with_reducible rfl)
  (try simp only [Act.put, List.setIfInBounds_toArray, List.set_cons_zero, List.set_cons_succ])
  refine wpAnyH_take (i := 4) (oi := ?_) (v := ?_) ?_ (by kernel_rfl) (by kernel_rfl) (by kernel_rfl) ?_ ?_ h0 ?_
  rotate_left 2
  · simp only [List.getElem?_toArray, List.getElem?_cons_zero, List.getElem?_cons_succ]; rfl
  · exact fun _ _ _ h => h
  · refine Or.inl ⟨by rfl, ?_⟩
    intro w hSw
    (try dsimp only at hSw)
    go_simp
    (try with_reducible rfl)
  (try simp only [Act.put, List.setIfInBounds_toArray, List.set_cons_zero, List.set_cons_succ])
  refine wpAnyH_take (i := 5) (oi := ?_) (v := ?_) ?_ (by kernel_rfl) (by kernel_rfl) (by kernel_rfl) ?_ ?_ h0 ?_
  rotate_left 2
  · simp only [List.getElem?_toArray, List.getElem?_cons_zero, List.getElem?_cons_succ]; rfl
  · exact fun _ _ _ h => h
  · refine Or.inl ⟨by rfl, ?_⟩
    intro w hSw
    (try dsimp only at hSw)
    go_simp
    (try with_reducible rfl)
  (try simp only [Act.put, List.setIfInBounds_toArray, List.set_cons_zero, List.set_cons_succ])
  refine wpAnyH_take (i := 6) (oi := ?_) (v := ?_) ?_ (by kernel_rfl) (by kernel_rfl) (by kernel_rfl) ?_ ?_ h0 ?_
  rotate_left 2
  · simp only [List.getElem?_toArray, List.getElem?_cons_zero, List.getElem?_cons_succ]; rfl
  · exact fun _ _ _ h => h
  · refine Or.inl ⟨by rfl, ?_⟩
    intro w hSw
    (try dsimp only at hSw)
    go_simp
    (try with_reducible rfl)
  (try simp only [Act.put, List.setIfInBounds_toArray, List.set_cons_zero, List.set_cons_succ])
  refine wpAnyH_take (i := 7) (oi := ?_) (v := ?_) ?_ (by kernel_rfl) (by kernel_rfl) (by kernel_rfl) ?_ ?_ h0 ?_
  rotate_left 2
  · simp only [List.getElem?_toArray, List.getElem?_cons_zero, List.getElem?_cons_succ]; rfl
  · exact fun _ _ _ h => h
  · refine Or.inl ⟨by rfl, ?_⟩
    intro w hSw
    (try dsimp only at hSw)
    go_simp
    (try with_reducible rfl)
  (try simp only [Act.put, List.setIfInBounds_toArray, List.set_cons_zero, List.set_cons_succ])
  refine wpAnyH_take (i := 8) (oi := ?_) (v := ?_) ?_ (by kernel_rfl) (by kernel_rfl) (by kernel_rfl) ?_ ?_ h0 ?_
  rotate_left 2
  · simp only [List.getElem?_toArray, List.getElem?_cons_zero, List.getElem?_cons_succ]; rfl
  · exact fun _ _ _ h => h
  · refine Or.inl ⟨by rfl, ?_⟩
    intro w hSw
    (try dsimp only at hSw)
    go_simp
    (try with_reducible rfl)
  (try simp only [Act.put, List.setIfInBounds_toArray, List.set_cons_zero, List.set_cons_succ])
  refine wpAnyH_ready (rs := [9]) (by kernel_rfl) (by simp) ?_
  refine AllReadyH.cons (o := ?_) ?_ (fun K hK => ?_) AllReadyH.nil
  rotate_left
  · simp only [List.getElem?_toArray, List.getElem?_cons_zero, List.getElem?_cons_succ]; rfl
  go_simp
  rw [← HA.out]
  refine ST.out.mono ?_
  rintro e w1 ⟨x1, cb, A1, c1, rfl, sl, _⟩
  refine hK.out _ _ (KS.out _ (ext_drew x1)) (fun h1 => ?_)
  clear hK K
  refine wpAnyH_take (i := 10) (oi := ?_) (v := ?_) ?_ (by kernel_rfl) (by kernel_rfl) (by kernel_rfl) ?_ ?_ h1 ?_
  rotate_left 2
  · simp only [List.getElem?_toArray, List.getElem?_cons_zero, List.getElem?_cons_succ]; rfl
  · exact fun _ _ _ h => h
  · refine Or.inl ⟨by rfl, ?_⟩
    intro w hSw
    (try dsimp only at hSw)
    go_simp
    (try with_reducible rfl)
  (try simp only [Act.put, List.setIfInBounds_toArray, List.set_cons_zero, List.set_cons_succ])
  refine wpAnyH_take (i := 11) (oi := ?_) (v := ?_) ?_ (by kernel_rfl) (by kernel_rfl) (by kernel_rfl) ?_ ?_ h1 ?_
  rotate_left 2
  · simp only [List.getElem?_toArray, List.getElem?_cons_zero, List.getElem?_cons_succ]; rfl
  · exact fun _ _ _ h => h
  · refine Or.inl ⟨by rfl, ?_⟩
    intro w hSw
    (try dsimp only at hSw)
    go_simp
    (try with_reducible rfl)
  (try simp only [Act.put, List.setIfInBounds_toArray, List.set_cons_zero, List.set_cons_succ])
  refine wpAnyH_take (i := 12) (oi := ?_) (v := ?_) ?_ (by kernel_rfl) (by kernel_rfl) (by kernel_rfl) ?_ ?_ h1 ?_
  rotate_left 2
  · simp only [List.getElem?_toArray, List.getElem?_cons_zero, List.getElem?_cons_succ]; rfl
  · exact fun _ _ _ h => h
  · refine Or.inl ⟨by rfl, ?_⟩
    intro w hSw
    (try dsimp only at hSw)
    go_simp
    (try with_reducible rfl)
  (try simp only [Act.put, List.setIfInBounds_toArray, List.set_cons_zero, List.set_cons_succ])
  refine wpAnyH_take (i := 13) (oi := ?_) (v := ?_) ?_ (by kernel_rfl) (by kernel_rfl) (by kernel_rfl) ?_ ?_ h1 ?_
  rotate_left 2
  · simp only [List.getElem?_toArray, List.getElem?_cons_zero, List.getElem?_cons_succ]; rfl
  · exact fun _ _ _ h => h
  · refine Or.inl ⟨by rfl, ?_⟩
    intro w hSw
    (try dsimp only at hSw)
    go_simp
    (try with_reducible rfl)
  (try simp only [Act.put, List.setIfInBounds_toArray, List.set_cons_zero, List.set_cons_succ])
  refine wpAnyH_take (i := 14) (oi := ?_) (v := ?_) ?_ (by kernel_rfl) (by kernel_rfl) (by kernel_rfl) ?_ ?_ h1 ?_
  rotate_left 2
  · simp only [List.getElem?_toArray, List.getElem?_cons_zero, List.getElem?_cons_succ]; rfl
  · exact fun _ _ _ h => h
  · refine Or.inl ⟨by rfl, ?_⟩
    intro w hSw
    (try dsimp only at hSw)
    go_simp
    (try with_reducible rfl)
  (try simp only [Act.put, List.setIfInBounds_toArray, List.set_cons_zero, List.set_cons_succ])
  refine wpAnyH_done (by kernel_rfl) ?_ _
  refine NoPanic.normal ?_
  clear h0 h1 KS
  have x1 : Ext WA w1 := ext_drew x1
  have SN1 := SN.ext x1
  have kR := kR.ext x1
  have kF := kF.ext x1
  have X1 := X0.trans x1
  generalize placesO (seqC D j) = ks at *
  obtain ⟨q, hq⟩ : ∃ q, q = ks.length := ⟨_, rfl⟩
  rw [← hq] at sl LT ⊢
  have HQ := Lib.hid hq
  have hq300 : q ≤ 300 := by have := HQ.out; omega
  clear hq q0 q1 q2 q3 q4 q5 q6 q7 q8 q9 q10 e0 e1 e2 e3 e4 e5 ST x1 wa
  go_wp2_with fail
  go_loopw [10] (fun i wr => ∃ (k : Nat), k ≤ q ∧ i = .int .i64 k ∧ Hid (ruleO D b ((ks.take k).map some) = none) ∧ Ext w1 wr) (fun i _ => q - (intOf i).toNat)
  case atStart => exact ⟨0, by omega, rfl, rfl, Ext.refl _⟩
  case round =>
    obtain ⟨k, hk, rfl, hno, X⟩ := hrel
    have HX := Lib.hid X
    by_cases hlt : k < q
    · have hltk : k < ks.length := by rw [← HQ.out]; exact hlt
      obtain ⟨al, rfl, hcl⟩ := (sl.ext X).get hlt
      have hp := LT.out k hlt
      obtain ⟨as', hAS, s0, s1, s2, s3⟩ := row4 (SN1.ext X).os hp
      have q8 : wr.cell? ⟨b0, 8, none⟩ = some (.slice P.xs D.ns P.zs) := (kF.ext X).cell 8
      rw [hAS] at q8
      have HT := Lib.hid (take_snoc hltk)
      have hp64 : ((ks.getD k 0 : Nat) : Int) < (D.ns : Int) := by omega
      generalize ks.getD k 0 = p at *
      have HAS := Lib.hid hAS
      have kRr := kR.ext X
      clear hAS X
      by_cases hm : D.stp p 1 = b
      · have hm0 : (D.stp p 1 == b) = true := by simpa using hm
        have YES := Lib.hid (show ruleD D a b = some p by
          rw [HR.out]
          have e : ks.map some = (ks.take (k + 1)).map some ++ (ks.drop (k + 1)).map some := by rw [← List.map_append, List.take_append_drop]
          rw [e]
          refine ruleO_pre _ ?_
          rw [HT.out, List.map_append]
          exact ruleO_yes hm _ hno.out)
        clear hm
        have HKR := Lib.hid kRr
        clear kRr
        go_wp2_with fail
        go_quiet (fail)
        go_wp2_with fail
        generalize hW2 : World.drewN wr _ = W2
        have y2 : Ext wr W2 := by rw [← hW2]; exact (Ext.refl _).drewN _
        clear hW2
        have q8 := y2.at q8; have hcl := y2.at hcl; have s0 := y2.at s0; have s1 := y2.at s1; have s2 := y2.at s2; have s3 := y2.at s3
        have kR2 := HKR.out.ext y2
        have r0 : W2.cell? ⟨b1, 0, none⟩ = some (.int .i64 0) := kR2.cell 0
        have f0 := kR2.free 0
        have r1 : W2.cell? ⟨b1, 1, none⟩ = some (.int .i64 0) := kR2.cell 1
        have f1 := kR2.free 1
        have r2 : W2.cell? ⟨b1, 2, none⟩ = some (.int .i64 0) := kR2.cell 2
        have f2 := kR2.free 2
        have r3 : W2.cell? ⟨b1, 3, none⟩ = some (.int .i64 0) := kR2.cell 3
        have f3 := kR2.free 3
        go_still_tail 8, (by kernel_rfl)
        change wpList _ _ _ _ _ W2.drew
        have kR3 : Blk W2.drew b1 69 [.int .i64 0, .int .i64 0, .int .i64 0, .int .i64 0] := kR2.ext ((Ext.refl _).drew)
        have X5 : Ext w W2.drew := (X1.trans (HX.out.trans y2)).drew
        go_wp2_with fail
        refine bodyPost_ret (results_step2 rfl _ _ b1 69 (.int .i64 (D.stp p 0)) (.int .i64 (D.stp p 1)) (.int .i64 (D.stp p 2)) (.int .i64 (D.stp p 3)) (.bool true) rfl rfl ((((kR3.set 0 (.int .i64 (D.stp p 0))).set 1 (.int .i64 (D.stp p 1))).set 2 (.int .i64 (D.stp p 2))).set 3 (.int .i64 (D.stp p 3)))) rfl ?_
        refine ⟨?_, ?_⟩
        · rw [ruleV, YES.out]
        · exact ((((X5.setCell (by show _ ≤ b1; omega) _).setCell (by show _ ≤ b1; omega) _).setCell (by show _ ≤ b1; omega) _).setCell (by show _ ≤ b1; omega) _)
      · have hm0 : (D.stp p 1 == b) = false := by simpa using hm
        have HN := Lib.hid (show ruleO D b ((ks.take (k + 1)).map some) = none by
          rw [HT.out, List.map_append]
          exact ruleO_no (fun k' e h => by cases e; exact hm h) _ hno.out)
        clear hm kRr
        go_wp2_with fail
        go_quiet (fail)
        go_wp2_with fail
        go_roundw
        case rel => exact ⟨k + 1, by omega, by go_num, HN, HX.out.drewN _⟩
        case measure => simp [intOf]; omega
    · obtain rfl : k = q := by omega
      have NO := Lib.hid (show ruleD D a b = none by
        rw [HR.out]
        have := hno.out
        rw [HQ.out, List.take_length] at this
        exact this)
      have kRr := kR.ext X
      have r0 : wr.cell? ⟨b1, 0, none⟩ = some (.int .i64 0) := kRr.cell 0
      have f0 := kRr.free 0
      have r1 : wr.cell? ⟨b1, 1, none⟩ = some (.int .i64 0) := kRr.cell 1
      have f1 := kRr.free 1
      have r2 : wr.cell? ⟨b1, 2, none⟩ = some (.int .i64 0) := kRr.cell 2
      have f2 := kRr.free 2
      have r3 : wr.cell? ⟨b1, 3, none⟩ = some (.int .i64 0) := kRr.cell 3
      have f3 := kRr.free 3
      clear X
      go_wp2_with fail
      refine bodyPost_ret (results_step2 rfl _ _ b1 69 (.int .i64 0) (.int .i64 0) (.int .i64 0) (.int .i64 0) (.bool false) rfl rfl ((((kRr.set 0 (.int .i64 0)).set 1 (.int .i64 0)).set 2 (.int .i64 0)).set 3 (.int .i64 0))) rfl ?_
      refine ⟨?_, ?_⟩
      · rw [ruleV, NO.out]
      · exact (((((X1.trans HX.out).setCell (by show _ ≤ b1; omega) _).setCell (by show _ ≤ b1; omega) _).setCell (by show _ ≤ b1; omega) _).setCell (by show _ ≤ b1; omega) _)
end L08
end Go.Proofs.Ytpkmpbpifbpomaa

namespace Go.Proofs.Ytpkmpbpifbpomaa
open Go.RowKit Go.Lib Go.Deep
namespace L08
open L07

def flatT (g : List Tri) : List Value := g.flatMap fun p => [.int .i64 p.1, .int .i64 p.2.1, .int .i64 p.2.2]
theorem flatT_snoc (g : List Tri) (p : Tri) : flatT (g ++ [p]) = flatT g ++ [.int .i64 p.1, .int .i64 p.2.1, .int .i64 p.2.2] := by simp [flatT]
def triA (g : List Tri) (i j : Nat) : Int := match j with
  | 0 => (g.getD i (0, 0, 0)).1
  | 1 => (g.getD i (0, 0, 0)).2.1
  | _ => (g.getD i (0, 0, 0)).2.2
theorem flatT_get : ∀ (g : List Tri) (i : Nat), i < g.length → ∀ j, j < 3 → (flatT g)[i * 3 + j]? = some (.int .i64 (triA g i j))
  | [], i, h, _, _ => by simp at h
  | p :: r, 0, _, j, hj => by
    obtain rfl | rfl | rfl : j = 0 ∨ j = 1 ∨ j = 2 := by omega
    all_goals simp [flatT, triA]
  | p :: r, i + 1, h, j, hj => by
    have := flatT_get r i (by simpa using h) j hj
    have e : flatT (p :: r) = .int .i64 p.1 :: .int .i64 p.2.1 :: .int .i64 p.2.2 :: flatT r := rfl
    rw [e, show (i + 1) * 3 + j = i * 3 + j + 1 + 1 + 1 by omega]
    have e2 : triA (p :: r) (i + 1) j = triA r i j := by unfold triA; simp
    rw [e2]
    simpa using this
def SeenT (w : World) (A : Option Addr) (g : List Tri) : Prop := SeenN 3 w A g.length (triA g)
theorem SeenT.ext {w w' : World} {A : Option Addr} {g : List Tri} (h : SeenT w A g) (x : Ext w w') : SeenT w' A g := SeenN.ext h x
theorem seenT_of {w : World} {A : Option Addr} {g : List Tri} (h : Seen w.heap.size w A (flatT g)) : SeenT w A g := fun i hi j hj => h _ _ (flatT_get g i hi j hj)
theorem pair_info : (Try.prog.info? 89).map (fun i => (i.zero, i.size, i.bytes)) = some (some (.agg #[.int .i64 0, .int .i64 0, .int .i64 0]), 3, 24) := by kernel_rfl
/-- append(own, pair). -/
theorem run_putT {w w0 : World} {v : Value} {k : Nat} {xs : List Value} (hown : w.ownsRow w0.heap.size 89 3 v k xs) (x0 : Ext w0 w) (b : Nat) (x y z : Int) (kb : Blk w b 89 [.int .i64 x, .int .i64 y, .int .i64 z]) (hk : k ≤ 900000) (ty : TypeId) :
    ∃ v' w', (Builtin.append_ #[82, 82] ty #[v, .slice (some ⟨b, 0, none⟩) 1 1]).run Try.prog w = .ok v' w' ∧ w'.ownsRow w0.heap.size 89 3 v' (k + 1) (xs ++ [.int .i64 x, .int .i64 y, .int .i64 z]) ∧ Ext w0 w' ∧ Kpt v.ownBlock w w' ∧ (v'.ownBlock = v.ownBlock ∨ ∀ n, v'.ownBlock = some n → w.heap.size ≤ n) := by
  obtain ⟨i, hi, hz0, hsz', hby⟩ := info_parts pair_info
  obtain ⟨v', w', hr, ho, hg, _, hat⟩ := run_append_own_at (P := Try.prog) (w := w) w0.heap.size 82 ty 89 i _ 3 24 Try.underlying82 hi hz0 hsz' hby rfl (by decide) v k xs hown ⟨b, 0, none⟩ 1 1 [.int .i64 x, .int .i64 y, .int .i64 z] rfl
    (fun j u hu => by rw [add_zero_addr, kb.cell j]; exact hu) (by simp [Value.oneCell']) (by unfold maxLen; omega) (by omega) x0.size
  refine ⟨v', w', hr, ho, Below.grown x0 hg x0.size (fun n e => (hown.lt n e).1), Kpt.of_grown hg, ?_⟩
  rcases hat with h | h
  · exact .inl h
  · exact .inr fun n e => by rw [h] at e; cases e; exact Nat.le_refl _
/-- What is seen elsewhere stays. -/
theorem seenF_kpt {w w' : World} {A : Option Addr} {n : Nat} {f : Nat → Int} {r : Option Nat} (h : SeenF w A n f) (k : Kpt r w w') (hne : ∀ a, A = some a → some a.block ≠ r) : SeenF w' A n f := fun j hj => by
  obtain ⟨ad, e, hb, hc⟩ := h j hj
  refine ⟨ad, e, Nat.lt_of_lt_of_le hb k.size, ?_⟩
  refine (World.cell?_of_block (k.same _ (by rw [addr_block]; exact hb) (by rw [addr_block]; exact hne ad e))).trans hc

def PairsQ (D : FontD) (w : World) (e : Ending) (w' : World) : Prop :=
  Ext w w' ∧ ∃ A c, e = .returned (.slice A (pairsD D D.nc).length c) ∧ SeenT w' A (pairsD D D.nc)
theorem pairsI_length (D : FontD) (c : Int) (ks : List Nat) : ∀ i, (pairsI D c ks i).length ≤ i
  | 0 => Nat.le_refl _
  | i + 1 => by
    have := pairsI_length D c ks i
    rw [pairsI, List.length_append]
    split <;> simp <;> omega

set_option maxRecDepth 100000 in
set_option maxHeartbeats 8000000 in
theorem rpairs_any (D : FontD) (P : FontP) (w : World) (sn : SeenFont w D P) (hD : checkB D = true) :
    Calls Try.prog 54 #[fontV D P] w (PairsQ D w) := by
  have W0 : Ext w (w.alloc (.cells #[.int .i64 D.sum, .int .i64 D.design, .int .i64 D.first, .slice P.xc D.nc P.zc, .slice P.xw D.nw P.zw, .slice P.xh D.nh P.zh, .slice P.xd D.nd P.zd, .slice P.xi D.ni P.zi, .slice P.xs D.ns P.zs, .slice P.xk D.nk P.zk, .slice P.xp D.np P.zp] 28)) := (Ext.refl _).alloc _
  have kF : Blk (w.alloc (.cells #[.int .i64 D.sum, .int .i64 D.design, .int .i64 D.first, .slice P.xc D.nc P.zc, .slice P.xw D.nw P.zw, .slice P.xh D.nh P.zh, .slice P.xd D.nd P.zd, .slice P.xi D.ni P.zi, .slice P.xs D.ns P.zs, .slice P.xk D.nk P.zk, .slice P.xp D.np P.zp] 28)) w.heap.size 28 [.int .i64 D.sum, .int .i64 D.design, .int .i64 D.first, .slice P.xc D.nc P.zc, .slice P.xw D.nw P.zw, .slice P.xh D.nh P.zh, .slice P.xd D.nd P.zd, .slice P.xi D.ni P.zi, .slice P.xs D.ns P.zs, .slice P.xk D.nk P.zk, .slice P.xp D.np P.zp] := Blk.lit _ _ _ _ rfl
  have IN := Lib.hid (check_in hD)
  have hnc := (check_in hD).nc
  have hf := (check_in hD).first
  have hns := (check_in hD).ns
  have SN := Lib.hid (fun w' (x : Ext (w.alloc (.cells #[.int .i64 D.sum, .int .i64 D.design, .int .i64 D.first, .slice P.xc D.nc P.zc, .slice P.xw D.nw P.zw, .slice P.xh D.nh P.zh, .slice P.xd D.nd P.zd, .slice P.xi D.ni P.zi, .slice P.xs D.ns P.zs, .slice P.xk D.nk P.zk, .slice P.xp D.np P.zp] 28)) w') => (sn.ext W0).ext x)
  have HD := Lib.hid hD
  clear sn hD
  unfold fontV
  go_enter Try.func54, Try.ntmps54
  go_wp2_with fail
  generalize (w.alloc (.cells #[.int .i64 D.sum, .int .i64 D.design, .int .i64 D.first, .slice P.xc D.nc P.zc, .slice P.xw D.nw P.zw, .slice P.xh D.nh P.zh, .slice P.xd D.nd P.zd, .slice P.xi D.ni P.zi, .slice P.xs D.ns P.zs, .slice P.xk D.nk P.zk, .slice P.xp D.np P.zp] 28)) = V at *
  generalize w.heap.size = B at *
  have hnc64 : (D.nc : Int) ≤ 256 := by omega
  go_loopw [3, 4] (fun v i wr => ∃ (vv : Value) (j : Nat), vv = v ∧ j ≤ D.nc ∧ i = .int .i64 j ∧ wr.ownsRow V.heap.size 89 3 vv (pairsD D j).length (flatT (pairsD D j)) ∧ Ext V wr ∧ (pairsD D j).length ≤ 300 * j) (fun _ i _ => D.nc - (intOf i).toNat)
  case atStart => exact ⟨_, 0, rfl, by omega, rfl, World.ownsRow_nil _ _ _ _, Ext.refl _, by simp [pairsD]⟩
  case round =>
    obtain ⟨vv, j, hvv, hj, rfl, ho, X, hlen⟩ := hrel
    subst hvv
    obtain ⟨wp, rfl⟩ : ∃ wp : World, wp = wr := ⟨_, rfl⟩
    by_cases hlt : j < D.nc
    · have k1 := kF.ext X
      have q0 : wp.cell? ⟨B, 0, none⟩ = some (.int .i64 D.sum) := k1.cell 0
      have q1 : wp.cell? ⟨B, 1, none⟩ = some (.int .i64 D.design) := k1.cell 1
      have q2 : wp.cell? ⟨B, 2, none⟩ = some (.int .i64 D.first) := k1.cell 2
      have q3 : wp.cell? ⟨B, 3, none⟩ = some (.slice P.xc D.nc P.zc) := k1.cell 3
      have q4 : wp.cell? ⟨B, 4, none⟩ = some (.slice P.xw D.nw P.zw) := k1.cell 4
      have q5 : wp.cell? ⟨B, 5, none⟩ = some (.slice P.xh D.nh P.zh) := k1.cell 5
      have q6 : wp.cell? ⟨B, 6, none⟩ = some (.slice P.xd D.nd P.zd) := k1.cell 6
      have q7 : wp.cell? ⟨B, 7, none⟩ = some (.slice P.xi D.ni P.zi) := k1.cell 7
      have q8 : wp.cell? ⟨B, 8, none⟩ = some (.slice P.xs D.ns P.zs) := k1.cell 8
      have q9 : wp.cell? ⟨B, 9, none⟩ = some (.slice P.xk D.nk P.zk) := k1.cell 9
      have q10 : wp.cell? ⟨B, 10, none⟩ = some (.slice P.xp D.np P.zp) := k1.cell 10
      have lb := k1.lt
      obtain ⟨ad, hA, e0, e1, e2, e3, e4, e5⟩ := row6 (SN.out _ X).oc hlt
      rw [hA] at q3
      have HA := Lib.hid hA
      have ht := (IN.out.chr _ hlt).2.2.2.2
      have KS := Lib.hid (fun w' (x : Ext wp w') => show w'.cell? ⟨B, 0, none⟩ = some (.int .i64 D.sum) ∧ w'.cell? ⟨B, 1, none⟩ = some (.int .i64 D.design) ∧ w'.cell? ⟨B, 2, none⟩ = some (.int .i64 D.first) ∧ w'.cell? ⟨B, 3, none⟩ = some (.slice (some ad) D.nc P.zc) ∧ w'.cell? ⟨B, 4, none⟩ = some (.slice P.xw D.nw P.zw) ∧ w'.cell? ⟨B, 5, none⟩ = some (.slice P.xh D.nh P.zh) ∧ w'.cell? ⟨B, 6, none⟩ = some (.slice P.xd D.nd P.zd) ∧ w'.cell? ⟨B, 7, none⟩ = some (.slice P.xi D.ni P.zi) ∧ w'.cell? ⟨B, 8, none⟩ = some (.slice P.xs D.ns P.zs) ∧ w'.cell? ⟨B, 9, none⟩ = some (.slice P.xk D.nk P.zk) ∧ w'.cell? ⟨B, 10, none⟩ = some (.slice P.xp D.np P.zp) ∧ w'.cell? (ad.add (j * 6)) = some (.int .i64 (D.chr j 0)) ∧ w'.cell? ⟨(ad.add (j * 6)).block, (ad.add (j * 6)).off + 1, none⟩ = some (.int .i64 (D.chr j 1)) ∧ w'.cell? ⟨(ad.add (j * 6)).block, (ad.add (j * 6)).off + 2, none⟩ = some (.int .i64 (D.chr j 2)) ∧ w'.cell? ⟨(ad.add (j * 6)).block, (ad.add (j * 6)).off + 3, none⟩ = some (.int .i64 (D.chr j 3)) ∧ w'.cell? ⟨(ad.add (j * 6)).block, (ad.add (j * 6)).off + 4, none⟩ = some (.int .i64 (D.chr j 4)) ∧ w'.cell? ⟨(ad.add (j * 6)).block, (ad.add (j * 6)).off + 5, none⟩ = some (.int .i64 (D.chr j 5)) from ⟨x.at q0, x.at q1, x.at q2, x.at q3, x.at q4, x.at q5, x.at q6, x.at q7, x.at q8, x.at q9, x.at q10, x.at e0, x.at e1, x.at e2, x.at e3, x.at e4, x.at e5⟩)
      have ST := Lib.hid (show Calls Try.prog 57 #[.agg #[.int .i64 D.sum, .int .i64 D.design, .int .i64 D.first, .slice P.xc D.nc P.zc, .slice P.xw D.nw P.zw, .slice P.xh D.nh P.zh, .slice P.xd D.nd P.zd, .slice P.xi D.ni P.zi, .slice P.xs D.ns P.zs, .slice P.xk D.nk P.zk, .slice P.xp D.np P.zp], .agg #[.int .i64 (D.chr j 0), .int .i64 (D.chr j 1), .int .i64 (D.chr j 2), .int .i64 (D.chr j 3), .int .i64 (D.chr j 4), .int .i64 (D.chr j 5)]] wp.drew (StepsQ D (seqC D j) wp.drew) from rsteps_any D P _ _ _ _ _ _ _ (SN.out _ X.drew) HD.out (by omega))
      have hpl := Nat.le_trans (placesO_length (seqC D j)) (seqC_length D j)
      have LT := Lib.hid (fun i (h : i < (placesO (seqC D j)).length) => places_lt (D := D) (j := j) h)
      have HPD := Lib.hid (show pairsD D (j + 1) = pairsD D j ++ pairsI D (D.first + j) (placesO (seqC D j)) (placesO (seqC D j)).length from rfl)
      have hj64 : (j : Int) < (D.nc : Int) := by omega
      have HO := Lib.hid ho
      have HX := Lib.hid X
      clear q0 q1 q2 q4 q5 q6 q7 q8 q9 q10 e0 e1 e2 e3 e4 e5 hA ho X ht
      go_wp2_with fail
      refine wp_region_noPanic ?_
      refine wp_region_held_drew (S := (fun w' => w'.cell? ⟨B, 0, none⟩ = some (.int .i64 D.sum) ∧ w'.cell? ⟨B, 1, none⟩ = some (.int .i64 D.design) ∧ w'.cell? ⟨B, 2, none⟩ = some (.int .i64 D.first) ∧ w'.cell? ⟨B, 3, none⟩ = some (.slice (some ad) D.nc P.zc) ∧ w'.cell? ⟨B, 4, none⟩ = some (.slice P.xw D.nw P.zw) ∧ w'.cell? ⟨B, 5, none⟩ = some (.slice P.xh D.nh P.zh) ∧ w'.cell? ⟨B, 6, none⟩ = some (.slice P.xd D.nd P.zd) ∧ w'.cell? ⟨B, 7, none⟩ = some (.slice P.xi D.ni P.zi) ∧ w'.cell? ⟨B, 8, none⟩ = some (.slice P.xs D.ns P.zs) ∧ w'.cell? ⟨B, 9, none⟩ = some (.slice P.xk D.nk P.zk) ∧ w'.cell? ⟨B, 10, none⟩ = some (.slice P.xp D.np P.zp) ∧ w'.cell? (ad.add (j * 6)) = some (.int .i64 (D.chr j 0)) ∧ w'.cell? ⟨(ad.add (j * 6)).block, (ad.add (j * 6)).off + 1, none⟩ = some (.int .i64 (D.chr j 1)) ∧ w'.cell? ⟨(ad.add (j * 6)).block, (ad.add (j * 6)).off + 2, none⟩ = some (.int .i64 (D.chr j 2)) ∧ w'.cell? ⟨(ad.add (j * 6)).block, (ad.add (j * 6)).off + 3, none⟩ = some (.int .i64 (D.chr j 3)) ∧ w'.cell? ⟨(ad.add (j * 6)).block, (ad.add (j * 6)).off + 4, none⟩ = some (.int .i64 (D.chr j 4)) ∧ w'.cell? ⟨(ad.add (j * 6)).block, (ad.add (j * 6)).off + 5, none⟩ = some (.int .i64 (D.chr j 5)))) (by kernel_rfl) (KS.out _ ((Ext.refl _).drew)) (fun h0 => ?_)
      refine wpAnyH_take (i := 0) (oi := ?_) (v := ?_) ?_ (by kernel_rfl) (by kernel_rfl) (by kernel_rfl) ?_ ?_ h0 ?_
      rotate_left 2
      · simp only [List.getElem?_toArray, List.getElem?_cons_zero]; rfl
      · exact fun _ _ _ h => h
      · refine Or.inl ⟨by rfl, ?_⟩
        intro w hSw
        (try dsimp only at hSw)
        go_simp
        (try with_reducible rfl)
      (try simp only [Act.put, List.setIfInBounds_toArray, List.set_cons_zero, List.set_cons_succ])
      refine wpAnyH_take (i := 1) (oi := ?_) (v := ?_) ?_ (by kernel_rfl) (by kernel_rfl) (by kernel_rfl) ?_ ?_ h0 ?_
      rotate_left 2
      · simp only [List.getElem?_toArray, List.getElem?_cons_zero, List.getElem?_cons_succ]; rfl
      · exact fun _ _ _ h => h
      · refine Or.inl ⟨by rfl, ?_⟩
        intro w hSw
        (try dsimp only at hSw)
        go_simp
        (try with_reducible rfl)
      (try simp only [Act.put, List.setIfInBounds_toArray, List.set_cons_zero, List.set_cons_succ])
      refine wpAnyH_take (i := 2) (oi := ?_) (v := ?_) ?_ (by kernel_rfl) (by kernel_rfl) (by kernel_rfl) ?_ ?_ h0 ?_
      rotate_left 2
      · simp only [List.getElem?_toArray, List.getElem?_cons_zero, List.getElem?_cons_succ]; rfl
      · exact fun _ _ _ h => h
      · refine Or.inl ⟨by rfl, ?_⟩
        intro w hSw
        (try dsimp only at hSw)
        go_simp
        (try with_reducible rfl)
      (try simp only [Act.put, List.setIfInBounds_toArray, List.set_cons_zero, List.set_cons_succ])
      refine wpAnyH_take (i := 3) (oi := ?_) (v := ?_) ?_ (by kernel_rfl) (by kernel_rfl) (by kernel_rfl) ?_ ?_ h0 ?_
      rotate_left 2
      · simp only [List.getElem?_toArray, List.getElem?_cons_zero, List.getElem?_cons_succ]; rfl
      · exact fun _ _ _ h => h
      · refine Or.inl ⟨by rfl, ?_⟩
        intro w hSw
        (try dsimp only at hSw)
        go_simp
        (try with_reducible rfl)
      (try simp only [Act.put, List.setIfInBounds_toArray, List.set_cons_zero, List.set_cons_succ])
      refine wpAnyH_take (i := 4) (oi := ?_) (v := ?_) ?_ (by kernel_rfl) (by kernel_rfl) (by kernel_rfl) ?_ ?_ h0 ?_
      rotate_left 2
      · simp only [List.getElem?_toArray, List.getElem?_cons_zero, List.getElem?_cons_succ]; rfl
      · exact fun _ _ _ h => h
      · refine Or.inl ⟨by rfl, ?_⟩
        intro w hSw
        (try dsimp only at hSw)
        go_simp
        (try with_reducible rfl)
      (try simp only [Act.put, List.setIfInBounds_toArray, List.set_cons_zero, List.set_cons_succ])
      refine wpAnyH_take (i := 5) (oi := ?_) (v := ?_) ?_ (by kernel_rfl) (by kernel_rfl) (by kernel_rfl) ?_ ?_ h0 ?_
      rotate_left 2
      · simp only [List.getElem?_toArray, List.getElem?_cons_zero, List.getElem?_cons_succ]; rfl
      · exact fun _ _ _ h => h
      · refine Or.inl ⟨by rfl, ?_⟩
        intro w hSw
        (try dsimp only at hSw)
        go_simp
        (try with_reducible rfl)
      (try simp only [Act.put, List.setIfInBounds_toArray, List.set_cons_zero, List.set_cons_succ])
      refine wpAnyH_ready (rs := [6]) (by kernel_rfl) (by simp) ?_
      refine AllReadyH.cons (o := ?_) ?_ (fun K hK => ?_) AllReadyH.nil
      rotate_left
      · simp only [List.getElem?_toArray, List.getElem?_cons_zero, List.getElem?_cons_succ]; rfl
      go_simp
      rw [← HA.out]
      refine ST.out.mono ?_
      rintro e w1 ⟨x1, cb, A1, c1, rfl, sl, hcb, hA1⟩
      refine hK.out _ _ (KS.out _ (ext_drew x1)) (fun h1 => ?_)
      clear hK K
      refine wpAnyH_take (i := 7) (oi := ?_) (v := ?_) ?_ (by kernel_rfl) (by kernel_rfl) (by kernel_rfl) ?_ ?_ h1 ?_
      rotate_left 2
      · simp only [List.getElem?_toArray, List.getElem?_cons_zero, List.getElem?_cons_succ]; rfl
      · exact fun _ _ _ h => h
      · refine Or.inl ⟨by rfl, ?_⟩
        intro w hSw
        (try dsimp only at hSw)
        go_simp
        (try with_reducible rfl)
      (try simp only [Act.put, List.setIfInBounds_toArray, List.set_cons_zero, List.set_cons_succ])
      refine wpAnyH_take (i := 8) (oi := ?_) (v := ?_) ?_ (by kernel_rfl) (by kernel_rfl) (by kernel_rfl) ?_ ?_ h1 ?_
      rotate_left 2
      · simp only [List.getElem?_toArray, List.getElem?_cons_zero, List.getElem?_cons_succ]; rfl
      · exact fun _ _ _ h => h
      · refine Or.inl ⟨by rfl, ?_⟩
        intro w hSw
        (try dsimp only at hSw)
        go_simp
        (try with_reducible rfl)
      (try simp only [Act.put, List.setIfInBounds_toArray, List.set_cons_zero, List.set_cons_succ])
      refine wpAnyH_take (i := 9) (oi := ?_) (v := ?_) ?_ (by kernel_rfl) (by kernel_rfl) (by kernel_rfl) ?_ ?_ h1 ?_
      rotate_left 2
      · simp only [List.getElem?_toArray, List.getElem?_cons_zero, List.getElem?_cons_succ]; rfl
      · exact fun _ _ _ h => h
      · refine Or.inl ⟨by rfl, ?_⟩
        intro w hSw
        (try dsimp only at hSw)
        go_simp
        (try with_reducible rfl)
      (try simp only [Act.put, List.setIfInBounds_toArray, List.set_cons_zero, List.set_cons_succ])
      refine wpAnyH_take (i := 10) (oi := ?_) (v := ?_) ?_ (by kernel_rfl) (by kernel_rfl) (by kernel_rfl) ?_ ?_ h1 ?_
      rotate_left 2
      · simp only [List.getElem?_toArray, List.getElem?_cons_zero, List.getElem?_cons_succ]; rfl
      · exact fun _ _ _ h => h
      · refine Or.inl ⟨by rfl, ?_⟩
        intro w hSw
        (try dsimp only at hSw)
        go_simp
        (try with_reducible rfl)
      (try simp only [Act.put, List.setIfInBounds_toArray, List.set_cons_zero, List.set_cons_succ])
      refine wpAnyH_take (i := 11) (oi := ?_) (v := ?_) ?_ (by kernel_rfl) (by kernel_rfl) (by kernel_rfl) ?_ ?_ h1 ?_
      rotate_left 2
      · simp only [List.getElem?_toArray, List.getElem?_cons_zero, List.getElem?_cons_succ]; rfl
      · exact fun _ _ _ h => h
      · refine Or.inl ⟨by rfl, ?_⟩
        intro w hSw
        (try dsimp only at hSw)
        go_simp
        (try with_reducible rfl)
      (try simp only [Act.put, List.setIfInBounds_toArray, List.set_cons_zero, List.set_cons_succ])
      refine wpAnyH_done (by kernel_rfl) ?_ _
      refine NoPanic.normal ?_
      clear h0 h1 KS ST

      have x1 : Ext wp w1 := ext_drew x1
      have hA1 : ∀ a, A1 = some a → wp.heap.size ≤ a.block := hA1
      have ho1 := ownsRow_ext HO.out x1
      have hvb : ∀ a, A1 = some a → vv.ownBlock ≠ some a.block := fun a h e => by have := (HO.out.lt _ e).2; have := hA1 a h; omega
      generalize placesO (seqC D j) = ks at *
      obtain ⟨q, hq⟩ : ∃ q, q = ks.length := ⟨_, rfl⟩
      rw [← hq] at sl LT HPD hpl ⊢
      have hq300 : (q : Int) ≤ 258 := by omega
      have HX1 := Lib.hid (HX.out.trans x1)
      clear hcb hA1 hq lb k1 x1 q3
      go_wp2_with fail
      go_loopw [3, 7] (fun v i wr => ∃ (vv : Value) (k : Nat), vv = v ∧ k ≤ q ∧ i = .int .i64 k ∧ wr.ownsRow V.heap.size 89 3 vv (pairsD D j ++ pairsI D (D.first + j) ks k).length (flatT (pairsD D j ++ pairsI D (D.first + j) ks k)) ∧ Ext V wr ∧ SeenF wr A1 q (fun i => (ks.getD i 0 : Int)) ∧ Hid (∀ a, A1 = some a → vv.ownBlock ≠ some a.block)) (fun _ i _ => q - (intOf i).toNat)
      case atStart => exact ⟨_, 0, rfl, by omega, rfl, by simpa [pairsI] using ho1, HX1.out, sl, Lib.hid hvb⟩
      case round =>
        obtain ⟨vv, i, hvv, hi, rfl, ho, X, sl, hvb⟩ := hrel
        subst hvv
        obtain ⟨wk, rfl⟩ : ∃ wk : World, wk = wr := ⟨_, rfl⟩
        by_cases hik : i < q
        · have hp := LT.out i hik
          obtain ⟨al, rfl, hcl⟩ := sl.get hik
          obtain ⟨as', hAS, s0, s1, s2, s3⟩ := row4 (SN.out _ X).os hp
          have q8 : wk.cell? ⟨B, 8, none⟩ = some (.slice P.xs D.ns P.zs) := (kF.ext X).cell 8
          have q2 : wk.cell? ⟨B, 2, none⟩ = some (.int .i64 D.first) := (kF.ext X).cell 2
          rw [hAS] at q8
          have HPI : Hid (pairsI D (D.first + j) ks (i + 1) = pairsI D (D.first + j) ks i ++ (if D.stp (ks.getD i 0) 2 = 0 ∧ seenK D ks i (D.stp (ks.getD i 0) 1) = false then [(D.first + (j : Int), D.stp (ks.getD i 0) 1, D.stp (ks.getD i 0) 3)] else [])) := rfl
          obtain ⟨⟨_, _⟩, ⟨b10, b11⟩, ⟨b20, b21⟩, ⟨b30, b31⟩⟩ := IN.out.stp _ hp
          have hp64 : ((ks.getD i 0 : Nat) : Int) < (D.ns : Int) := by omega
          have hns64 : (D.ns : Int) ≤ 256 := by omega
          have hpi := pairsI_length D (D.first + j) ks i
          generalize ks.getD i 0 = p at *
          generalize D.stp p 0 = t0 at *
          generalize ht1 : D.stp p 1 = t1 at *
          generalize D.stp p 2 = t2 at *
          generalize D.stp p 3 = t3 at *
          have KS := Lib.hid (fun w' (x : Ext wk w') => show w'.cell? ⟨B, 8, none⟩ = some (.slice (some as') D.ns P.zs) ∧ w'.cell? (al.add i) = some (.int .i64 (p : Int)) ∧ w'.cell? (as'.add (p * 4)) = some (.int .i64 t0) ∧ w'.cell? ⟨(as'.add (p * 4)).block, (as'.add (p * 4)).off + 1, none⟩ = some (.int .i64 t1) ∧ w'.cell? ⟨(as'.add (p * 4)).block, (as'.add (p * 4)).off + 2, none⟩ = some (.int .i64 t2) ∧ w'.cell? ⟨(as'.add (p * 4)).block, (as'.add (p * 4)).off + 3, none⟩ = some (.int .i64 t3) from ⟨x.at q8, x.at hcl, x.at s0, x.at s1, x.at s2, x.at s3⟩)
          have HO2 := Lib.hid ho
          have HX2 := Lib.hid X
          have HAS := Lib.hid hAS
          have HSL := Lib.hid sl
          have hik64 : (i : Int) < (q : Int) := by omega
          clear ho X hAS sl q8 hcl s0 s1 s2 s3 ht1
          go_wp2_with fail
          refine wp_region_noPanic ?_
          refine wp_region_held_drew (S := (fun w' => w'.cell? ⟨B, 8, none⟩ = some (.slice (some as') D.ns P.zs) ∧ w'.cell? (al.add i) = some (.int .i64 (p : Int)) ∧ w'.cell? (as'.add (p * 4)) = some (.int .i64 t0) ∧ w'.cell? ⟨(as'.add (p * 4)).block, (as'.add (p * 4)).off + 1, none⟩ = some (.int .i64 t1) ∧ w'.cell? ⟨(as'.add (p * 4)).block, (as'.add (p * 4)).off + 2, none⟩ = some (.int .i64 t2) ∧ w'.cell? ⟨(as'.add (p * 4)).block, (as'.add (p * 4)).off + 3, none⟩ = some (.int .i64 t3))) (by kernel_rfl) (KS.out _ ((Ext.refl _).drew)) (fun h0 => ?_)
          refine wpAnyH_take (i := 0) (oi := ?_) (v := ?_) ?_ (by kernel_rfl) (by kernel_rfl) (by kernel_rfl) ?_ ?_ h0 ?_
          rotate_left 2
          · simp only [List.getElem?_toArray, List.getElem?_cons_zero]; rfl
          · exact fun _ _ _ h => h
          · refine Or.inl ⟨by rfl, ?_⟩
            intro w hSw
            (try dsimp only at hSw)
            go_simp
            (try with_reducible rfl)
          (try simp only [Act.put, List.setIfInBounds_toArray, List.set_cons_zero, List.set_cons_succ])
          refine wpAnyH_take (i := 1) (oi := ?_) (v := ?_) ?_ (by kernel_rfl) (by kernel_rfl) (by kernel_rfl) ?_ ?_ h0 ?_
          rotate_left 2
          · simp only [List.getElem?_toArray, List.getElem?_cons_zero, List.getElem?_cons_succ]; rfl
          · exact fun _ _ _ h => h
          · refine Or.inl ⟨by rfl, ?_⟩
            intro w hSw
            (try dsimp only at hSw)
            go_simp
            (try with_reducible rfl)
          (try simp only [Act.put, List.setIfInBounds_toArray, List.set_cons_zero, List.set_cons_succ])
          refine wpAnyH_take (i := 2) (oi := ?_) (v := ?_) ?_ (by kernel_rfl) (by kernel_rfl) (by kernel_rfl) ?_ ?_ h0 ?_
          rotate_left 2
          · simp only [List.getElem?_toArray, List.getElem?_cons_zero, List.getElem?_cons_succ]; rfl
          · exact fun _ _ _ h => h
          · refine Or.inl ⟨by rfl, ?_⟩
            intro w hSw
            (try dsimp only at hSw)
            go_simp
            (try with_reducible rfl)
          (try simp only [Act.put, List.setIfInBounds_toArray, List.set_cons_zero, List.set_cons_succ])
          refine wpAnyH_take (i := 3) (oi := ?_) (v := ?_) ?_ (by kernel_rfl) (by kernel_rfl) (by kernel_rfl) ?_ ?_ h0 ?_
          rotate_left 2
          · simp only [List.getElem?_toArray, List.getElem?_cons_zero, List.getElem?_cons_succ]; rfl
          · exact fun _ _ _ h => h
          · refine Or.inl ⟨by rfl, ?_⟩
            intro w hSw
            (try dsimp only at hSw)
            go_simp
            (try with_reducible rfl)
          (try simp only [Act.put, List.setIfInBounds_toArray, List.set_cons_zero, List.set_cons_succ])
          refine wpAnyH_take (i := 4) (oi := ?_) (v := ?_) ?_ (by kernel_rfl) (by kernel_rfl) (by kernel_rfl) ?_ ?_ h0 ?_
          rotate_left 2
          · simp only [List.getElem?_toArray, List.getElem?_cons_zero, List.getElem?_cons_succ]; rfl
          · exact fun _ _ _ h => h
          · refine Or.inl ⟨by rfl, ?_⟩
            intro w hSw
            (try dsimp only at hSw)
            go_simp
            (try with_reducible rfl)
          (try simp only [Act.put, List.setIfInBounds_toArray, List.set_cons_zero, List.set_cons_succ])
          refine wpAnyH_take (i := 5) (oi := ?_) (v := ?_) ?_ (by kernel_rfl) (by kernel_rfl) (by kernel_rfl) ?_ ?_ h0 ?_
          rotate_left 2
          · simp only [List.getElem?_toArray, List.getElem?_cons_zero, List.getElem?_cons_succ]; rfl
          · exact fun _ _ _ h => h
          · refine Or.inl ⟨by rfl, ?_⟩
            intro w hSw
            (try dsimp only at hSw)
            go_simp
            (try with_reducible rfl)
          (try simp only [Act.put, List.setIfInBounds_toArray, List.set_cons_zero, List.set_cons_succ])
          refine wpAnyH_take (i := 6) (oi := ?_) (v := ?_) ?_ (by kernel_rfl) (by kernel_rfl) (by kernel_rfl) ?_ ?_ h0 ?_
          rotate_left 2
          · simp only [List.getElem?_toArray, List.getElem?_cons_zero, List.getElem?_cons_succ]; rfl
          · exact fun _ _ _ h => h
          · refine Or.inl ⟨by rfl, ?_⟩
            intro w hSw
            (try dsimp only at hSw)
            go_simp
            (try with_reducible rfl)
          (try simp only [Act.put, List.setIfInBounds_toArray, List.set_cons_zero, List.set_cons_succ])
          refine wpAnyH_take (i := 7) (oi := ?_) (v := ?_) ?_ (by kernel_rfl) (by kernel_rfl) (by kernel_rfl) ?_ ?_ h0 ?_
          rotate_left 2
          · simp only [List.getElem?_toArray, List.getElem?_cons_zero, List.getElem?_cons_succ]; rfl
          · exact fun _ _ _ h => h
          · refine Or.inl ⟨by rfl, ?_⟩
            intro w hSw
            (try dsimp only at hSw)
            go_simp
            (try with_reducible rfl)
          (try simp only [Act.put, List.setIfInBounds_toArray, List.set_cons_zero, List.set_cons_succ])
          refine wpAnyH_ready (rs := [8]) (by kernel_rfl) (by simp) ?_
          refine AllReadyH.cons (o := ?_) ?_ (fun K hK => ?_) AllReadyH.nil
          rotate_left
          · simp only [List.getElem?_toArray, List.getElem?_cons_zero, List.getElem?_cons_succ]; rfl
          go_simp
          refine hK.out _ _ (KS.out _ ((Ext.refl _).drew.alloc _)) (fun h1 => ?_)
          clear hK K
          (try simp only [Act.put, List.setIfInBounds_toArray, List.set_cons_zero, List.set_cons_succ])
          refine wpAnyH_ready (rs := [9]) (by kernel_rfl) (by simp) ?_
          refine AllReadyH.cons (o := ?_) ?_ (fun K hK => ?_) AllReadyH.nil
          rotate_left
          · simp only [List.getElem?_toArray, List.getElem?_cons_zero, List.getElem?_cons_succ]; rfl
          go_simp
          refine hK.out _ _ (KS.out _ ((Ext.refl _).drew.alloc _)) (fun h2 => ?_)
          clear hK K
          (try simp only [Act.put, List.setIfInBounds_toArray, List.set_cons_zero, List.set_cons_succ])
          refine wpAnyH_done (by kernel_rfl) ?_ _
          refine NoPanic.normal ?_
          clear h0 h1 h2
          have X3 : Ext wk (World.drew (wk.alloc (.cells #[.int .i64 t0, .int .i64 t1, .int .i64 t2, .int .i64 t3] 69))) := ((Ext.refl _).alloc _).drew
          have kO : Blk (World.drew (wk.alloc (.cells #[.int .i64 t0, .int .i64 t1, .int .i64 t2, .int .i64 t3] 69))) wk.heap.size 69 [.int .i64 t0, .int .i64 t1, .int .i64 t2, .int .i64 t3] := (Blk.lit _ _ _ _ rfl).ext ((Ext.refl _).drew)
          generalize World.drew (wk.alloc (.cells #[.int .i64 t0, .int .i64 t1, .int .i64 t2, .int .i64 t3] 69)) = w3 at *
          have HAL : Hid (al.block < wk.heap.size) := by
            obtain ⟨ad', e', hb', _⟩ := HSL.out i hik
            cases e'
            exact Lib.hid hb'
          have HSZ : Hid (wk.heap.size ≤ w3.heap.size) := Lib.hid X3.size
          obtain ⟨O, hO⟩ : ∃ O, O = wk.heap.size := ⟨_, rfl⟩
          rw [← hO] at kO ⊢
          clear KS hO
          go_wp2_with fail
          go_loopw [9, 10] (fun v n wr => ∃ (a : Nat) (fb : Bool), a ≤ i ∧ v = .bool fb ∧ Hid (seenK D ks a t1 = !fb) ∧ n = .int .i64 a ∧ Ext w3 wr) (fun _ n _ => i - (intOf n).toNat)
          case atStart => exact ⟨0, true, by omega, rfl, Lib.hid rfl, rfl, Ext.refl _⟩
          case round =>
            obtain ⟨a, fb, ha, rfl, hsb, rfl, X⟩ := hrel
            have HX5 := Lib.hid X
            obtain ⟨wo, rfl⟩ : ∃ wo : World, wo = wr := ⟨_, rfl⟩
            have YX := Lib.hid (X3.trans X)
            by_cases hai : a < i
            · have hpa := LT.out a (by omega)
              obtain ⟨al', el, hca⟩ := (HSL.out.ext YX.out).get (show a < q by omega)
              obtain rfl : al = al' := Option.some.inj el
              obtain ⟨as2, hAS2, r0, r1, r2, r3⟩ := row4 (SN.out _ (HX2.out.trans YX.out)).os hpa
              obtain rfl : as' = as2 := Option.some.inj (HAS.out.symm.trans hAS2)
              have q8 : wo.cell? ⟨B, 8, none⟩ = some (.slice (some as') D.ns P.zs) := by rw [← HAS.out]; exact (kF.ext (HX2.out.trans YX.out)).cell 8
              have o1 : wo.cell? ⟨O, 1, none⟩ = some (.int .i64 t1) := (kO.ext X).cell 1
              have HSK : Hid (seenK D ks (a + 1) t1 = if t1 = D.stp (ks.getD a 0) 1 then true else seenK D ks a t1) := Lib.hid rfl
              have hpa64 : ((ks.getD a 0 : Nat) : Int) < (D.ns : Int) := by omega
              have hai64 : (a : Int) < (i : Int) := by omega
              have haq : a < q := by omega
              have haq64 : (a : Int) < (q : Int) := by omega
              generalize ks.getD a 0 = pa at *
              generalize D.stp pa 0 = e0 at *
              generalize D.stp pa 1 = e1 at *
              generalize D.stp pa 2 = e2 at *
              generalize D.stp pa 3 = e3 at *
              clear el hAS2 X
              cases fb
              · have HV : Hid (seenK D ks (a + 1) t1 = !false) := Lib.hid (by rw [HSK.out]; split; rfl; exact hsb.out)
                go_wp2_with fail
                go_quiet (fail)
                go_wp2_with fail
                go_roundw
                case rel => exact ⟨a + 1, false, by omega, rfl, HV, by go_num, HX5.out.drewN _⟩
                case measure => simp [intOf]; omega
              · by_cases hst : e1 = t1
                · have HV : Hid (seenK D ks (a + 1) t1 = !false) := Lib.hid (by rw [HSK.out, if_pos hst.symm]; rfl)
                  have hst1 : (e1 != t1) = false := by simpa using hst
                  clear hst
                  go_wp2_with fail
                  go_quiet (fail)
                  go_wp2_with fail
                  go_roundw
                  case rel => exact ⟨a + 1, false, by omega, rfl, HV, by go_num, HX5.out.drewN _⟩
                  case measure => simp [intOf]; omega
                · have HV : Hid (seenK D ks (a + 1) t1 = !true) := Lib.hid (by rw [HSK.out, if_neg (fun h => hst h.symm)]; exact hsb.out)
                  have hst1 : (e1 != t1) = true := by simpa using hst
                  clear hst
                  go_wp2_with fail
                  go_quiet (fail)
                  go_wp2_with fail
                  go_roundw
                  case rel => exact ⟨a + 1, true, by omega, rfl, HV, by go_num, HX5.out.drewN _⟩
                  case measure => simp [intOf]; omega
            · obtain rfl : a = i := by omega
              have o1 : wo.cell? ⟨O, 1, none⟩ = some (.int .i64 t1) := (kO.ext X).cell 1
              have o2 : wo.cell? ⟨O, 2, none⟩ = some (.int .i64 t2) := (kO.ext X).cell 2
              have o3 : wo.cell? ⟨O, 3, none⟩ = some (.int .i64 t3) := (kO.ext X).cell 3
              have q2 : wo.cell? ⟨B, 2, none⟩ = some (.int .i64 D.first) := (kF.ext (HX2.out.trans YX.out)).cell 2
              have wc : IntKind.i64.wrap (D.first + (j : Int)) = D.first + (j : Int) := IntWalk.i64_in _ (by omega)
              have HOW := Lib.hid (ownsRow_ext HO2.out YX.out)
              have HSW := Lib.hid (HSL.out.ext YX.out)
              clear X
              by_cases h2 : t2 = 0
              · have h20 : (t2 == 0) = true := by simpa using h2
                cases fb
                · have HLN := Lib.hid (show pairsD D j ++ pairsI D (D.first + j) ks (a + 1) = pairsD D j ++ pairsI D (D.first + j) ks a by rw [HPI.out, if_neg (fun h => by rw [hsb.out] at h; exact Bool.noConfusion h.2), List.append_nil])
                  clear h2
                  go_wp2_with fail
                  go_roundw
                  case rel => exact ⟨_, a + 1, rfl, by omega, by go_num, by rw [HLN.out]; exact HOW.out, HX2.out.trans YX.out, HSW.out, hvb⟩
                  case measure => simp [intOf]; omega
                · have HLL := Lib.hid (show pairsD D j ++ pairsI D (D.first + j) ks (a + 1) = (pairsD D j ++ pairsI D (D.first + j) ks a) ++ [(D.first + (j : Int), t1, t3)] by rw [HPI.out, if_pos ⟨h2, hsb.out⟩, List.append_assoc])
                  have kN : Blk (wo.alloc (.cells #[.int .i64 (D.first + (j : Int)), .int .i64 t1, .int .i64 t3] 89)) wo.heap.size 89 [.int .i64 (D.first + (j : Int)), .int .i64 t1, .int .i64 t3] := Blk.lit _ _ _ _ rfl
                  have hlk : (pairsD D j ++ pairsI D (D.first + j) ks a).length ≤ 900000 := by rw [List.length_append]; omega
                  obtain ⟨v', w', hrun, ho', hx', kp, hbl⟩ := run_putT (HOW.out.alloc (.cells #[.int .i64 (D.first + (j : Int)), .int .i64 t1, .int .i64 t3] 89)) ((HX2.out.trans YX.out).alloc _) wo.heap.size _ _ _ kN hlk 82
                  have HO' := Lib.hid ho'
                  have HS' := Lib.hid (seenF_kpt (HSW.out.ext ((Ext.refl _).alloc (.cells #[.int .i64 (D.first + (j : Int)), .int .i64 t1, .int .i64 t3] 89))) kp (fun a e h => hvb.out a e h.symm))
                  have HB' : Hid (∀ a, some al = some a → v'.ownBlock ≠ some a.block) := Lib.hid (fun a e h => by
                    rcases hbl with hb | hb
                    · exact hvb.out a e (hb.symm.trans h)
                    · have h1 := hb _ h
                      obtain rfl : al = a := Option.some.inj e
                      have h2 := HAL.out
                      have h3 := YX.out.size
                      have h4 := ((Ext.refl wo).alloc (.cells #[.int .i64 (D.first + (j : Int)), .int .i64 t1, .int .i64 t3] 89)).size
                      omega)
                  clear ho' kN hlk hbl kp h2
                  go_wp2_with (at_builtin; refine wpList_ran rfl _ _ rfl hrun ?_)
                  go_roundw
                  case rel => exact ⟨_, a + 1, rfl, by omega, by go_num, by rw [HLL.out, flatT_snoc, List.length_append]; exact HO'.out, hx', HS'.out, HB'⟩
                  case measure => simp [intOf]; omega
              · have h20 : (t2 == 0) = false := by simpa using h2
                have HLN := Lib.hid (show pairsD D j ++ pairsI D (D.first + j) ks (a + 1) = pairsD D j ++ pairsI D (D.first + j) ks a by rw [HPI.out, if_neg (fun h => h2 h.1), List.append_nil])
                clear h2
                cases fb
                all_goals
                  go_wp2_with fail
                  go_roundw
                  case rel => exact ⟨_, a + 1, rfl, by omega, by go_num, by rw [HLN.out]; exact HOW.out, HX2.out.trans YX.out, HSW.out, hvb⟩
                  case measure => simp [intOf]; omega
        · obtain rfl : i = q := by omega
          have hpi := pairsI_length D (D.first + j) ks i
          have HF := Lib.hid (show (pairsD D (j + 1)).length ≤ 300 * (j + 1) by rw [HPD.out, List.length_append]; omega)
          have HOW := Lib.hid ho
          have HXW := Lib.hid X
          clear ho X sl
          go_wp2_with fail
          go_roundw
          case rel => exact ⟨_, j + 1, rfl, by omega, by go_num, by rw [HPD.out]; exact HOW.out, HXW.out, HF.out⟩
          case measure => simp [intOf]; omega
    · obtain rfl : j = D.nc := by omega
      obtain ⟨A', c', rfl, _, _, h3⟩ := own_slice ho
      have HF := Lib.hid (show PairsQ D w (.returned (.slice A' (pairsD D D.nc).length c')) wp from ⟨W0.trans X, A', c', rfl, seenT_of h3⟩)
      have k1 := kF.ext X
      have q0 : wp.cell? ⟨B, 0, none⟩ = some (.int .i64 D.sum) := k1.cell 0
      have q1 : wp.cell? ⟨B, 1, none⟩ = some (.int .i64 D.design) := k1.cell 1
      have q2 : wp.cell? ⟨B, 2, none⟩ = some (.int .i64 D.first) := k1.cell 2
      have q3 : wp.cell? ⟨B, 3, none⟩ = some (.slice P.xc D.nc P.zc) := k1.cell 3
      have q4 : wp.cell? ⟨B, 4, none⟩ = some (.slice P.xw D.nw P.zw) := k1.cell 4
      have q5 : wp.cell? ⟨B, 5, none⟩ = some (.slice P.xh D.nh P.zh) := k1.cell 5
      have q6 : wp.cell? ⟨B, 6, none⟩ = some (.slice P.xd D.nd P.zd) := k1.cell 6
      have q7 : wp.cell? ⟨B, 7, none⟩ = some (.slice P.xi D.ni P.zi) := k1.cell 7
      have q8 : wp.cell? ⟨B, 8, none⟩ = some (.slice P.xs D.ns P.zs) := k1.cell 8
      have q9 : wp.cell? ⟨B, 9, none⟩ = some (.slice P.xk D.nk P.zk) := k1.cell 9
      have q10 : wp.cell? ⟨B, 10, none⟩ = some (.slice P.xp D.np P.zp) := k1.cell 10
      generalize (pairsD D D.nc).length = z at *
      clear ho h3 X
      go_wp2_with fail
      go_ret
      exact HF.out
end L08
end Go.Proofs.Ytpkmpbpifbpomaa

namespace Go.Proofs.Ytpkmpbpifbpomaa
open Go.RowKit Go.Lib Go.Deep
namespace L08
open L07

theorem lig_no {D : FontD} {j : Nat} (hj : j < D.nc) (h : ¬ okC D j) : ligB D = false := by
  rw [ligB, makeD]
  split
  · rw [makeL_no h _ hj]; rfl
  · rfl
theorem lig_head {D : FontD} (h : checkB D = false) : ligB D = false := by
  rw [ligB, makeD, if_neg (by rw [h]; exact Bool.noConfusion)]; rfl
theorem lig_puts {D : FontD} (h : checkB D = true) (ha : ∀ j, j < D.nc → okC D j) : ligB D = (putsL D (pairsD D D.nc) (fun _ => none)).isSome := by
  rw [ligB, makeD, if_pos h, makeL_puts _ ha]
theorem opB_row {D : FontD} {k : Nat} : opB D k = (decide (D.stp k 2 = 0) || (decide (128 ≤ D.stp k 2) && decide (256 * (D.stp k 2 - 128) + D.stp k 3 < D.nk))) := rfl
theorem okC_no {D : FontD} {j i : Nat} (hi : i < (placesO (seqC D j)).length) (h : opB D ((placesO (seqC D j)).getD i 0) = false) : ¬ okC D j := fun ho => by
  rw [List.getD, List.getElem?_eq_getElem hi] at h
  obtain ⟨k, e, hk⟩ := ho _ (placesO_mem (List.getElem_mem hi))
  cases e
  rw [Option.getD_some] at h
  rw [h] at hk
  exact Bool.noConfusion hk
theorem okC_yes {D : FontD} {j : Nat} (hn : ∀ x ∈ seqC D j, x ≠ none) (h : ∀ i, i < (placesO (seqC D j)).length → opB D ((placesO (seqC D j)).getD i 0) = true) : okC D j := fun x hx => by
  cases x with
  | none => exact absurd rfl (hn _ hx)
  | some k =>
    refine ⟨k, rfl, ?_⟩
    have hm : ∀ {l : List (Option Nat)}, some k ∈ l → k ∈ placesO l := by
      intro l
      induction l with
      | nil => intro h; cases h
      | cons y r ih =>
        intro h
        cases y with
        | none => exact ih (by simpa using h)
        | some k' =>
          rcases List.mem_cons.1 h with e | e
          · cases e; exact List.mem_cons_self ..
          · exact List.mem_cons_of_mem _ (ih e)
    obtain ⟨i, hi, e⟩ := List.getElem_of_mem (hm hx)
    have := h i hi
    rw [List.getD, List.getElem?_eq_getElem hi, Option.getD_some, e] at this
    exact this

theorem zero256s : ∃ Z : Array Value, (∀ w, (zeroValue 87).run Try.prog w = .ok (.agg Z) w) ∧ Z.size = 256 ∧ (∀ w : World, (storeCells ⟨w.heap.size, 0, none⟩ Z.toList 0).run Try.prog (w.alloc (.cells Z 87)) = .ok () (w.alloc (.cells Z 87))) ∧ ∀ j : Nat, j < 256 → Z[j]? = some (.bool false) := by
  refine ⟨Array.replicate 256 (.bool false), fun w => by kernel_rfl, by simp, fun w => ?_, fun j hj => by simp [hj]⟩
  refine run_storeCells_new w _ _ _ ?_ rfl (by decide +kernel)
  rw [Array.size_replicate]
  kernel_rfl
theorem row3 {w : World} {A : Option Addr} {n : Nat} {f : Nat → Nat → Int} (h : SeenN 3 w A n f) {k : Nat} (hk : k < n) :
    ∃ ad, A = some ad ∧ w.cell? (ad.add (k * 3)) = some (.int .i64 (f k 0)) ∧ w.cell? ⟨(ad.add (k * 3)).block, (ad.add (k * 3)).off + 1, none⟩ = some (.int .i64 (f k 1)) ∧ w.cell? ⟨(ad.add (k * 3)).block, (ad.add (k * 3)).off + 2, none⟩ = some (.int .i64 (f k 2)) := by
  obtain ⟨ad, rfl, _, h0⟩ := h k hk 0 (by omega)
  have g : ∀ j, j < 3 → w.cell? (ad.add (k * 3 + j)) = some (.int .i64 (f k j)) := fun j hj => by
    obtain ⟨ad', e, _, hc⟩ := h k hk j hj
    obtain rfl : ad = ad' := by simpa using e
    exact hc
  have g1 := g 1 (by omega); have g2 := g 2 (by omega)
  rw [← addr_add] at g1 g2
  exact ⟨ad, rfl, h0, g1, g2⟩
theorem pairsI_in {D : FontD} (IN : FontIn D) {c : Int} {ks : List Nat} (hk : ∀ i, i < ks.length → ks.getD i 0 < D.ns) : ∀ i, i ≤ ks.length → ∀ p ∈ pairsI D c ks i, 0 ≤ p.2.2 ∧ p.2.2 < 256
  | 0, _, p, h => by cases h
  | i + 1, hi, p, h => by
    rw [pairsI] at h
    rcases List.mem_append.1 h with h | h
    · exact pairsI_in IN hk i (by omega) p h
    · split at h
      · obtain rfl := List.mem_singleton.1 h
        exact (IN.stp _ (hk i (by omega))).2.2.2
      · cases h
theorem pairsD_in {D : FontD} (IN : FontIn D) : ∀ n, ∀ p ∈ pairsD D n, 0 ≤ p.2.2 ∧ p.2.2 < 256
  | 0, p, h => by cases h
  | n + 1, p, h => by
    rw [pairsD] at h
    rcases List.mem_append.1 h with h | h
    · exact pairsD_in IN n p h
    · exact pairsI_in IN (fun i hi => places_lt hi) _ (Nat.le_refl _) p h
theorem pairsD_length {D : FontD} (h : D.ns ≤ 256) : ∀ n, (pairsD D n).length ≤ 300 * n
  | 0 => by simp [pairsD]
  | n + 1 => by
    have h0 := pairsD_length h n
    have h1 := pairsI_length D (D.first + n) (placesO (seqC D n)) (placesO (seqC D n)).length
    have h2 := Nat.le_trans (placesO_length (seqC D n)) (seqC_length D n)
    rw [pairsD, pairsC, List.length_append]; omega
theorem puts_no {D : FontD} {ps : List Tri} {i : Nat} (hi : i < ps.length) {m : MapN} (h : putsL D (ps.take i) (fun _ => none) = some m) {a b c : Int} (he : (a, b, c) = ps.getD i (0, 0, 0)) (hb : (m c).isSome = true ∨ mayT D (a, b, c) = false) : (putsL D ps (fun _ => none)).isSome = false := by
  have e : ps = ps.take i ++ ((a, b, c) :: ps.drop (i + 1)) := by
    rw [he, List.getD, List.getElem?_eq_getElem hi, Option.getD_some, ← List.drop_eq_getElem_cons hi, List.take_append_drop]
  refine (congrArg (fun l => (putsL D l (fun _ => none)).isSome) e).trans ?_
  show (putsL D (ps.take i ++ _) _).isSome = false
  rw [putsL_append, h, Option.bind_some, putsL, if_pos hb]; rfl
theorem puts_yes {D : FontD} {ps : List Tri} {i : Nat} (hi : i < ps.length) {m : MapN} (h : putsL D (ps.take i) (fun _ => none) = some m) {a b c : Int} (he : (a, b, c) = ps.getD i (0, 0, 0)) (hb : ¬ ((m c).isSome = true ∨ mayT D (a, b, c) = false)) : putsL D (ps.take (i + 1)) (fun _ => none) = some (fun y => if y = c then some (a, b) else m y) := by
  have e : ps.take (i + 1) = ps.take i ++ [(a, b, c)] := by
    rw [he, List.getD, List.getElem?_eq_getElem hi, Option.getD_some, List.take_succ_eq_append_getElem hi]
  rw [e, putsL_append, h, Option.bind_some, putsL, if_neg hb]; rfl

set_option maxRecDepth 100000 in
set_option maxHeartbeats 3000000 in
theorem rcheck_any (D : FontD) (P : FontP) (w : World) (ok : FontOk D P) (sn : SeenFont w D P) :
    Calls Try.prog 24 #[fontV D P] w (Ret w (.bool (ligB D))) := by
  have W0 : Ext w (w.alloc (.cells #[.int .i64 D.sum, .int .i64 D.design, .int .i64 D.first, .slice P.xc D.nc P.zc, .slice P.xw D.nw P.zw, .slice P.xh D.nh P.zh, .slice P.xd D.nd P.zd, .slice P.xi D.ni P.zi, .slice P.xs D.ns P.zs, .slice P.xk D.nk P.zk, .slice P.xp D.np P.zp] 28)) := (Ext.refl _).alloc _
  have kF : Blk (w.alloc (.cells #[.int .i64 D.sum, .int .i64 D.design, .int .i64 D.first, .slice P.xc D.nc P.zc, .slice P.xw D.nw P.zw, .slice P.xh D.nh P.zh, .slice P.xd D.nd P.zd, .slice P.xi D.ni P.zi, .slice P.xs D.ns P.zs, .slice P.xk D.nk P.zk, .slice P.xp D.np P.zp] 28)) w.heap.size 28 [.int .i64 D.sum, .int .i64 D.design, .int .i64 D.first, .slice P.xc D.nc P.zc, .slice P.xw D.nw P.zw, .slice P.xh D.nh P.zh, .slice P.xd D.nd P.zd, .slice P.xi D.ni P.zi, .slice P.xs D.ns P.zs, .slice P.xk D.nk P.zk, .slice P.xp D.np P.zp] := Blk.lit _ _ _ _ rfl
  have SN := Lib.hid (fun w' (x : Ext (w.alloc (.cells #[.int .i64 D.sum, .int .i64 D.design, .int .i64 D.first, .slice P.xc D.nc P.zc, .slice P.xw D.nw P.zw, .slice P.xh D.nh P.zh, .slice P.xd D.nd P.zd, .slice P.xi D.ni P.zi, .slice P.xs D.ns P.zs, .slice P.xk D.nk P.zk, .slice P.xp D.np P.zp] 28)) w') => (sn.ext W0).ext x)
  have T := Lib.hid (check_any D P _ ok (sn.ext W0))
  have HAS := Lib.hid (fun (n : Int) w' (x : Ext (w.alloc (.cells #[.int .i64 D.sum, .int .i64 D.design, .int .i64 D.first, .slice P.xc D.nc P.zc, .slice P.xw D.nw P.zw, .slice P.xh D.nh P.zh, .slice P.xd D.nd P.zd, .slice P.xi D.ni P.zi, .slice P.xs D.ns P.zs, .slice P.xk D.nk P.zk, .slice P.xp D.np P.zp] 28)) w') (hn : -9223372036854775808 ≤ n ∧ n ≤ 9223372036854775807) => show Calls Try.prog 37 #[.agg #[.int .i64 D.sum, .int .i64 D.design, .int .i64 D.first, .slice P.xc D.nc P.zc, .slice P.xw D.nw P.zw, .slice P.xh D.nh P.zh, .slice P.xd D.nd P.zd, .slice P.xi D.ni P.zi, .slice P.xs D.ns P.zs, .slice P.xk D.nk P.zk, .slice P.xp D.np P.zp], .int .i64 n] w' (Ret w' (.bool (hasB D n))) from rhas_any D P n w' ok (sn.ext (W0.trans x)) hn)
  clear sn ok
  unfold fontV at *
  go_enter Try.func24, Try.ntmps24
  go_wp2_with fail
  refine T.out.mono ?_
  rintro e w1 ⟨rfl, x1⟩
  generalize (w.alloc (.cells #[.int .i64 D.sum, .int .i64 D.design, .int .i64 D.first, .slice P.xc D.nc P.zc, .slice P.xw D.nw P.zw, .slice P.xh D.nh P.zh, .slice P.xd D.nd P.zd, .slice P.xi D.ni P.zi, .slice P.xs D.ns P.zs, .slice P.xk D.nk P.zk, .slice P.xp D.np P.zp] 28)) = V at *
  generalize w.heap.size = B at *
  cases hc : checkB D with
  | false =>
    have HN := Lib.hid (lig_head hc)
    go_wp2_with fail
    go_ret
    exact ⟨ret_bool HN.out.symm, W0.trans x1⟩
  | true =>
  have IN := Lib.hid (check_in hc)
  have hnc := (check_in hc).nc
  have hf := (check_in hc).first
  have hns := (check_in hc).ns
  have hnk := (check_in hc).nk
  have HD := Lib.hid hc
  have HX1 := Lib.hid x1
  clear hc T
  have hnc64 : (D.nc : Int) ≤ 256 := by omega
  go_wp2_with fail
  go_loopw [4] (fun i wr => ∃ (j : Nat), j ≤ D.nc ∧ i = .int .i64 j ∧ Hid (∀ j', j' < j → okC D j') ∧ Ext V wr) (fun i _ => D.nc - (intOf i).toNat)
  case atStart => exact ⟨0, by omega, rfl, Lib.hid (fun j' h => absurd h (Nat.not_lt_zero _)), HX1.out⟩
  case round =>
    obtain ⟨j, hj, rfl, hall, X⟩ := hrel
    obtain ⟨wp, rfl⟩ : ∃ wp : World, wp = wr := ⟨_, rfl⟩
    by_cases hlt : j < D.nc
    · have k1 := kF.ext X
      have q0 : wp.cell? ⟨B, 0, none⟩ = some (.int .i64 D.sum) := k1.cell 0
      have q1 : wp.cell? ⟨B, 1, none⟩ = some (.int .i64 D.design) := k1.cell 1
      have q2 : wp.cell? ⟨B, 2, none⟩ = some (.int .i64 D.first) := k1.cell 2
      have q3 : wp.cell? ⟨B, 3, none⟩ = some (.slice P.xc D.nc P.zc) := k1.cell 3
      have q4 : wp.cell? ⟨B, 4, none⟩ = some (.slice P.xw D.nw P.zw) := k1.cell 4
      have q5 : wp.cell? ⟨B, 5, none⟩ = some (.slice P.xh D.nh P.zh) := k1.cell 5
      have q6 : wp.cell? ⟨B, 6, none⟩ = some (.slice P.xd D.nd P.zd) := k1.cell 6
      have q7 : wp.cell? ⟨B, 7, none⟩ = some (.slice P.xi D.ni P.zi) := k1.cell 7
      have q8 : wp.cell? ⟨B, 8, none⟩ = some (.slice P.xs D.ns P.zs) := k1.cell 8
      have q9 : wp.cell? ⟨B, 9, none⟩ = some (.slice P.xk D.nk P.zk) := k1.cell 9
      have q10 : wp.cell? ⟨B, 10, none⟩ = some (.slice P.xp D.np P.zp) := k1.cell 10
      have lb := k1.lt
      obtain ⟨ad, hA, e0, e1, e2, e3, e4, e5⟩ := row6 (SN.out _ X).oc hlt
      rw [hA] at q3
      have HA := Lib.hid hA
      have ht := (IN.out.chr _ hlt).2.2.2.2
      have KS := Lib.hid (fun w' (x : Ext wp w') => show w'.cell? ⟨B, 0, none⟩ = some (.int .i64 D.sum) ∧ w'.cell? ⟨B, 1, none⟩ = some (.int .i64 D.design) ∧ w'.cell? ⟨B, 2, none⟩ = some (.int .i64 D.first) ∧ w'.cell? ⟨B, 3, none⟩ = some (.slice (some ad) D.nc P.zc) ∧ w'.cell? ⟨B, 4, none⟩ = some (.slice P.xw D.nw P.zw) ∧ w'.cell? ⟨B, 5, none⟩ = some (.slice P.xh D.nh P.zh) ∧ w'.cell? ⟨B, 6, none⟩ = some (.slice P.xd D.nd P.zd) ∧ w'.cell? ⟨B, 7, none⟩ = some (.slice P.xi D.ni P.zi) ∧ w'.cell? ⟨B, 8, none⟩ = some (.slice P.xs D.ns P.zs) ∧ w'.cell? ⟨B, 9, none⟩ = some (.slice P.xk D.nk P.zk) ∧ w'.cell? ⟨B, 10, none⟩ = some (.slice P.xp D.np P.zp) ∧ w'.cell? (ad.add (j * 6)) = some (.int .i64 (D.chr j 0)) ∧ w'.cell? ⟨(ad.add (j * 6)).block, (ad.add (j * 6)).off + 1, none⟩ = some (.int .i64 (D.chr j 1)) ∧ w'.cell? ⟨(ad.add (j * 6)).block, (ad.add (j * 6)).off + 2, none⟩ = some (.int .i64 (D.chr j 2)) ∧ w'.cell? ⟨(ad.add (j * 6)).block, (ad.add (j * 6)).off + 3, none⟩ = some (.int .i64 (D.chr j 3)) ∧ w'.cell? ⟨(ad.add (j * 6)).block, (ad.add (j * 6)).off + 4, none⟩ = some (.int .i64 (D.chr j 4)) ∧ w'.cell? ⟨(ad.add (j * 6)).block, (ad.add (j * 6)).off + 5, none⟩ = some (.int .i64 (D.chr j 5)) from ⟨x.at q0, x.at q1, x.at q2, x.at q3, x.at q4, x.at q5, x.at q6, x.at q7, x.at q8, x.at q9, x.at q10, x.at e0, x.at e1, x.at e2, x.at e3, x.at e4, x.at e5⟩)
      have ST := Lib.hid (show Calls Try.prog 57 #[.agg #[.int .i64 D.sum, .int .i64 D.design, .int .i64 D.first, .slice P.xc D.nc P.zc, .slice P.xw D.nw P.zw, .slice P.xh D.nh P.zh, .slice P.xd D.nd P.zd, .slice P.xi D.ni P.zi, .slice P.xs D.ns P.zs, .slice P.xk D.nk P.zk, .slice P.xp D.np P.zp], .agg #[.int .i64 (D.chr j 0), .int .i64 (D.chr j 1), .int .i64 (D.chr j 2), .int .i64 (D.chr j 3), .int .i64 (D.chr j 4), .int .i64 (D.chr j 5)]] wp.drew (StepsQ D (seqC D j) wp.drew) from rsteps_any D P _ _ _ _ _ _ _ (SN.out _ X.drew) HD.out (by omega))
      have hpl := Nat.le_trans (placesO_length (seqC D j)) (seqC_length D j)
      have LT := Lib.hid (fun i (h : i < (placesO (seqC D j)).length) => places_lt (D := D) (j := j) h)
      have NO := Lib.hid (fun i (h : i < (placesO (seqC D j)).length) (ho : opB D ((placesO (seqC D j)).getD i 0) = false) => (lig_no hlt (okC_no h ho)).symm)
      have YES := Lib.hid (fun (hn : ∀ x ∈ seqC D j, x ≠ none) (h : ∀ i, i < (placesO (seqC D j)).length → opB D ((placesO (seqC D j)).getD i 0) = true) => okC_yes hn h)
      have hj64 : (j : Int) < (D.nc : Int) := by omega
      have HX := Lib.hid X
      clear q0 q1 q2 q4 q5 q6 q7 q8 q9 q10 e0 e1 e2 e3 e4 e5 hA ht X
      go_wp2_with fail
      refine wp_region_noPanic ?_
      refine wp_region_held_drew (S := (fun w' => w'.cell? ⟨B, 0, none⟩ = some (.int .i64 D.sum) ∧ w'.cell? ⟨B, 1, none⟩ = some (.int .i64 D.design) ∧ w'.cell? ⟨B, 2, none⟩ = some (.int .i64 D.first) ∧ w'.cell? ⟨B, 3, none⟩ = some (.slice (some ad) D.nc P.zc) ∧ w'.cell? ⟨B, 4, none⟩ = some (.slice P.xw D.nw P.zw) ∧ w'.cell? ⟨B, 5, none⟩ = some (.slice P.xh D.nh P.zh) ∧ w'.cell? ⟨B, 6, none⟩ = some (.slice P.xd D.nd P.zd) ∧ w'.cell? ⟨B, 7, none⟩ = some (.slice P.xi D.ni P.zi) ∧ w'.cell? ⟨B, 8, none⟩ = some (.slice P.xs D.ns P.zs) ∧ w'.cell? ⟨B, 9, none⟩ = some (.slice P.xk D.nk P.zk) ∧ w'.cell? ⟨B, 10, none⟩ = some (.slice P.xp D.np P.zp) ∧ w'.cell? (ad.add (j * 6)) = some (.int .i64 (D.chr j 0)) ∧ w'.cell? ⟨(ad.add (j * 6)).block, (ad.add (j * 6)).off + 1, none⟩ = some (.int .i64 (D.chr j 1)) ∧ w'.cell? ⟨(ad.add (j * 6)).block, (ad.add (j * 6)).off + 2, none⟩ = some (.int .i64 (D.chr j 2)) ∧ w'.cell? ⟨(ad.add (j * 6)).block, (ad.add (j * 6)).off + 3, none⟩ = some (.int .i64 (D.chr j 3)) ∧ w'.cell? ⟨(ad.add (j * 6)).block, (ad.add (j * 6)).off + 4, none⟩ = some (.int .i64 (D.chr j 4)) ∧ w'.cell? ⟨(ad.add (j * 6)).block, (ad.add (j * 6)).off + 5, none⟩ = some (.int .i64 (D.chr j 5)))) (by kernel_rfl) (KS.out _ ((Ext.refl _).drew)) (fun h0 => ?_)
      refine wpAnyH_take (i := 0) (oi := ?_) (v := ?_) ?_ (by kernel_rfl) (by kernel_rfl) (by kernel_rfl) ?_ ?_ h0 ?_
      rotate_left 2
      · simp only [List.getElem?_toArray, List.getElem?_cons_zero]; rfl
      · exact fun _ _ _ h => h
      · refine Or.inl ⟨by rfl, ?_⟩
        intro w hSw
        (try dsimp only at hSw)
        go_simp
        (try with_reducible rfl)
      (try simp only [Act.put, List.setIfInBounds_toArray, List.set_cons_zero, List.set_cons_succ])
      refine wpAnyH_take (i := 1) (oi := ?_) (v := ?_) ?_ (by kernel_rfl) (by kernel_rfl) (by kernel_rfl) ?_ ?_ h0 ?_
      rotate_left 2
      · simp only [List.getElem?_toArray, List.getElem?_cons_zero, List.getElem?_cons_succ]; rfl
      · exact fun _ _ _ h => h
      · refine Or.inl ⟨by rfl, ?_⟩
        intro w hSw
        (try dsimp only at hSw)
        go_simp
        (try with_reducible rfl)
      (try simp only [Act.put, List.setIfInBounds_toArray, List.set_cons_zero, List.set_cons_succ])
      refine wpAnyH_take (i := 2) (oi := ?_) (v := ?_) ?_ (by kernel_rfl) (by kernel_rfl) (by kernel_rfl) ?_ ?_ h0 ?_
      rotate_left 2
      · simp only [List.getElem?_toArray, List.getElem?_cons_zero, List.getElem?_cons_succ]; rfl
      · exact fun _ _ _ h => h
      · refine Or.inl ⟨by rfl, ?_⟩
        intro w hSw
        (try dsimp only at hSw)
        go_simp
        (try with_reducible rfl)
      (try simp only [Act.put, List.setIfInBounds_toArray, List.set_cons_zero, List.set_cons_succ])
      refine wpAnyH_take (i := 3) (oi := ?_) (v := ?_) ?_ (by kernel_rfl) (by kernel_rfl) (by kernel_rfl) ?_ ?_ h0 ?_
      rotate_left 2
      · simp only [List.getElem?_toArray, List.getElem?_cons_zero, List.getElem?_cons_succ]; rfl
      · exact fun _ _ _ h => h
      · refine Or.inl ⟨by rfl, ?_⟩
        intro w hSw
        (try dsimp only at hSw)
        go_simp
        (try with_reducible rfl)
      (try simp only [Act.put, List.setIfInBounds_toArray, List.set_cons_zero, List.set_cons_succ])
      refine wpAnyH_take (i := 4) (oi := ?_) (v := ?_) ?_ (by kernel_rfl) (by kernel_rfl) (by kernel_rfl) ?_ ?_ h0 ?_
      rotate_left 2
      · simp only [List.getElem?_toArray, List.getElem?_cons_zero, List.getElem?_cons_succ]; rfl
      · exact fun _ _ _ h => h
      · refine Or.inl ⟨by rfl, ?_⟩
        intro w hSw
        (try dsimp only at hSw)
        go_simp
        (try with_reducible rfl)
      (try simp only [Act.put, List.setIfInBounds_toArray, List.set_cons_zero, List.set_cons_succ])
      refine wpAnyH_take (i := 5) (oi := ?_) (v := ?_) ?_ (by kernel_rfl) (by kernel_rfl) (by kernel_rfl) ?_ ?_ h0 ?_
      rotate_left 2
      · simp only [List.getElem?_toArray, List.getElem?_cons_zero, List.getElem?_cons_succ]; rfl
      · exact fun _ _ _ h => h
      · refine Or.inl ⟨by rfl, ?_⟩
        intro w hSw
        (try dsimp only at hSw)
        go_simp
        (try with_reducible rfl)
      (try simp only [Act.put, List.setIfInBounds_toArray, List.set_cons_zero, List.set_cons_succ])
      refine wpAnyH_ready (rs := [6]) (by kernel_rfl) (by simp) ?_
      refine AllReadyH.cons (o := ?_) ?_ (fun K hK => ?_) AllReadyH.nil
      rotate_left
      · simp only [List.getElem?_toArray, List.getElem?_cons_zero, List.getElem?_cons_succ]; rfl
      go_simp
      rw [← HA.out]
      refine ST.out.mono ?_
      rintro e w1 ⟨x1, cb, A1, c1, rfl, sl, hcb, _⟩
      refine hK.out _ _ (KS.out _ (ext_drew x1)) (fun h1 => ?_)
      clear hK K
      refine wpAnyH_take (i := 7) (oi := ?_) (v := ?_) ?_ (by kernel_rfl) (by kernel_rfl) (by kernel_rfl) ?_ ?_ h1 ?_
      rotate_left 2
      · simp only [List.getElem?_toArray, List.getElem?_cons_zero, List.getElem?_cons_succ]; rfl
      · exact fun _ _ _ h => h
      · refine Or.inl ⟨by rfl, ?_⟩
        intro w hSw
        (try dsimp only at hSw)
        go_simp
        (try with_reducible rfl)
      (try simp only [Act.put, List.setIfInBounds_toArray, List.set_cons_zero, List.set_cons_succ])
      refine wpAnyH_take (i := 8) (oi := ?_) (v := ?_) ?_ (by kernel_rfl) (by kernel_rfl) (by kernel_rfl) ?_ ?_ h1 ?_
      rotate_left 2
      · simp only [List.getElem?_toArray, List.getElem?_cons_zero, List.getElem?_cons_succ]; rfl
      · exact fun _ _ _ h => h
      · refine Or.inl ⟨by rfl, ?_⟩
        intro w hSw
        (try dsimp only at hSw)
        go_simp
        (try with_reducible rfl)
      (try simp only [Act.put, List.setIfInBounds_toArray, List.set_cons_zero, List.set_cons_succ])
      refine wpAnyH_take (i := 9) (oi := ?_) (v := ?_) ?_ (by kernel_rfl) (by kernel_rfl) (by kernel_rfl) ?_ ?_ h1 ?_
      rotate_left 2
      · simp only [List.getElem?_toArray, List.getElem?_cons_zero, List.getElem?_cons_succ]; rfl
      · exact fun _ _ _ h => h
      · refine Or.inl ⟨by rfl, ?_⟩
        intro w hSw
        (try dsimp only at hSw)
        go_simp
        (try with_reducible rfl)
      (try simp only [Act.put, List.setIfInBounds_toArray, List.set_cons_zero, List.set_cons_succ])
      refine wpAnyH_take (i := 10) (oi := ?_) (v := ?_) ?_ (by kernel_rfl) (by kernel_rfl) (by kernel_rfl) ?_ ?_ h1 ?_
      rotate_left 2
      · simp only [List.getElem?_toArray, List.getElem?_cons_zero, List.getElem?_cons_succ]; rfl
      · exact fun _ _ _ h => h
      · refine Or.inl ⟨by rfl, ?_⟩
        intro w hSw
        (try dsimp only at hSw)
        go_simp
        (try with_reducible rfl)
      (try simp only [Act.put, List.setIfInBounds_toArray, List.set_cons_zero, List.set_cons_succ])
      refine wpAnyH_take (i := 11) (oi := ?_) (v := ?_) ?_ (by kernel_rfl) (by kernel_rfl) (by kernel_rfl) ?_ ?_ h1 ?_
      rotate_left 2
      · simp only [List.getElem?_toArray, List.getElem?_cons_zero, List.getElem?_cons_succ]; rfl
      · exact fun _ _ _ h => h
      · refine Or.inl ⟨by rfl, ?_⟩
        intro w hSw
        (try dsimp only at hSw)
        go_simp
        (try with_reducible rfl)
      (try simp only [Act.put, List.setIfInBounds_toArray, List.set_cons_zero, List.set_cons_succ])
      refine wpAnyH_done (by kernel_rfl) ?_ _
      refine NoPanic.normal ?_
      clear h0 h1 KS ST

      have x1 : Ext wp w1 := ext_drew x1
      have HX2 := Lib.hid (HX.out.trans x1)
      have HCB := Lib.hid hcb
      clear hcb k1 lb x1 q3
      cases cb
      · have HN := Lib.hid (show false = ligB D from (lig_no hlt (fun ho => by
          refine Bool.noConfusion (HCB.out.2 (fun x hx e => ?_))
          obtain ⟨k, ek, _⟩ := ho x hx
          rw [e] at ek; cases ek)).symm)
        go_wp2_with fail
        go_ret
        exact ⟨ret_bool HN.out, W0.trans HX2.out⟩
      · have HNN := Lib.hid (HCB.out.1 rfl)
        generalize placesO (seqC D j) = ks at *
        obtain ⟨q, hq⟩ : ∃ q, q = ks.length := ⟨_, rfl⟩
        rw [← hq] at sl LT NO YES hpl ⊢
        have hq300 : (q : Int) ≤ 258 := by omega
        clear hq HCB
        go_wp2_with fail
        go_loopw [7] (fun i wr => ∃ (k : Nat), k ≤ q ∧ i = .int .i64 k ∧ Hid (∀ k', k' < k → opB D (ks.getD k' 0) = true) ∧ Ext w1 wr) (fun i _ => q - (intOf i).toNat)
        case atStart => exact ⟨0, by omega, rfl, Lib.hid (fun k' h => absurd h (Nat.not_lt_zero _)), Ext.refl _⟩
        case round =>
          obtain ⟨i, hi, rfl, hop, X⟩ := hrel
          obtain ⟨wk, rfl⟩ : ∃ wk : World, wk = wr := ⟨_, rfl⟩
          by_cases hik : i < q
          · have hp := LT.out i hik
            obtain ⟨al, rfl, hcl⟩ := (sl.ext X).get hik
            obtain ⟨as', hAS, s0, s1, s2, s3⟩ := row4 (SN.out _ (HX2.out.trans X)).os hp
            have q8 : wk.cell? ⟨B, 8, none⟩ = some (.slice P.xs D.ns P.zs) := (kF.ext (HX2.out.trans X)).cell 8
            have q9 : wk.cell? ⟨B, 9, none⟩ = some (.slice P.xk D.nk P.zk) := (kF.ext (HX2.out.trans X)).cell 9
            rw [hAS] at q8
            have NOi := Lib.hid (NO.out i hik)
            have HSUC := Lib.hid (fun (ho : opB D (ks.getD i 0) = true) k' (h : k' < i + 1) => show opB D (ks.getD k' 0) = true from by
              rcases Nat.lt_succ_iff_lt_or_eq.1 h with h | h
              · exact hop.out k' h
              · rw [h]; exact ho)
            obtain ⟨⟨_, _⟩, ⟨_, _⟩, ⟨b20, b21⟩, ⟨b30, b31⟩⟩ := IN.out.stp _ hp
            have hp64 : ((ks.getD i 0 : Nat) : Int) < (D.ns : Int) := by omega
            have OPE := Lib.hid (opB_row (D := D) (k := ks.getD i 0))
            generalize opB D (ks.getD i 0) = ob at *
            generalize ks.getD i 0 = p at *
            generalize D.stp p 0 = t0 at *
            generalize D.stp p 1 = t1 at *
            generalize D.stp p 2 = t2 at *
            generalize D.stp p 3 = t3 at *
            have KS := Lib.hid (fun w' (x : Ext wk w') => show w'.cell? ⟨B, 8, none⟩ = some (.slice (some as') D.ns P.zs) ∧ w'.cell? (al.add i) = some (.int .i64 (p : Int)) ∧ w'.cell? (as'.add (p * 4)) = some (.int .i64 t0) ∧ w'.cell? ⟨(as'.add (p * 4)).block, (as'.add (p * 4)).off + 1, none⟩ = some (.int .i64 t1) ∧ w'.cell? ⟨(as'.add (p * 4)).block, (as'.add (p * 4)).off + 2, none⟩ = some (.int .i64 t2) ∧ w'.cell? ⟨(as'.add (p * 4)).block, (as'.add (p * 4)).off + 3, none⟩ = some (.int .i64 t3) from ⟨x.at q8, x.at hcl, x.at s0, x.at s1, x.at s2, x.at s3⟩)
            have HX3 := Lib.hid X
            have hik64 : (i : Int) < (q : Int) := by omega
            clear X hAS q8 hcl s0 s1 s2 s3
            go_wp2_with fail
            refine wp_region_noPanic ?_
            refine wp_region_held_drew (S := (fun w' => w'.cell? ⟨B, 8, none⟩ = some (.slice (some as') D.ns P.zs) ∧ w'.cell? (al.add i) = some (.int .i64 (p : Int)) ∧ w'.cell? (as'.add (p * 4)) = some (.int .i64 t0) ∧ w'.cell? ⟨(as'.add (p * 4)).block, (as'.add (p * 4)).off + 1, none⟩ = some (.int .i64 t1) ∧ w'.cell? ⟨(as'.add (p * 4)).block, (as'.add (p * 4)).off + 2, none⟩ = some (.int .i64 t2) ∧ w'.cell? ⟨(as'.add (p * 4)).block, (as'.add (p * 4)).off + 3, none⟩ = some (.int .i64 t3))) (by kernel_rfl) (KS.out _ ((Ext.refl _).drew)) (fun h0 => ?_)
            refine wpAnyH_take (i := 0) (oi := ?_) (v := ?_) ?_ (by kernel_rfl) (by kernel_rfl) (by kernel_rfl) ?_ ?_ h0 ?_
            rotate_left 2
            · simp only [List.getElem?_toArray, List.getElem?_cons_zero]; rfl
            · exact fun _ _ _ h => h
            · refine Or.inl ⟨by rfl, ?_⟩
              intro w hSw
              (try dsimp only at hSw)
              go_simp
              (try with_reducible rfl)
            (try simp only [Act.put, List.setIfInBounds_toArray, List.set_cons_zero, List.set_cons_succ])
            refine wpAnyH_take (i := 1) (oi := ?_) (v := ?_) ?_ (by kernel_rfl) (by kernel_rfl) (by kernel_rfl) ?_ ?_ h0 ?_
            rotate_left 2
            · simp only [List.getElem?_toArray, List.getElem?_cons_zero, List.getElem?_cons_succ]; rfl
            · exact fun _ _ _ h => h
            · refine Or.inl ⟨by rfl, ?_⟩
              intro w hSw
              (try dsimp only at hSw)
              go_simp
              (try with_reducible rfl)
            (try simp only [Act.put, List.setIfInBounds_toArray, List.set_cons_zero, List.set_cons_succ])
            refine wpAnyH_take (i := 2) (oi := ?_) (v := ?_) ?_ (by kernel_rfl) (by kernel_rfl) (by kernel_rfl) ?_ ?_ h0 ?_
            rotate_left 2
            · simp only [List.getElem?_toArray, List.getElem?_cons_zero, List.getElem?_cons_succ]; rfl
            · exact fun _ _ _ h => h
            · refine Or.inl ⟨by rfl, ?_⟩
              intro w hSw
              (try dsimp only at hSw)
              go_simp
              (try with_reducible rfl)
            (try simp only [Act.put, List.setIfInBounds_toArray, List.set_cons_zero, List.set_cons_succ])
            refine wpAnyH_take (i := 3) (oi := ?_) (v := ?_) ?_ (by kernel_rfl) (by kernel_rfl) (by kernel_rfl) ?_ ?_ h0 ?_
            rotate_left 2
            · simp only [List.getElem?_toArray, List.getElem?_cons_zero, List.getElem?_cons_succ]; rfl
            · exact fun _ _ _ h => h
            · refine Or.inl ⟨by rfl, ?_⟩
              intro w hSw
              (try dsimp only at hSw)
              go_simp
              (try with_reducible rfl)
            (try simp only [Act.put, List.setIfInBounds_toArray, List.set_cons_zero, List.set_cons_succ])
            refine wpAnyH_take (i := 4) (oi := ?_) (v := ?_) ?_ (by kernel_rfl) (by kernel_rfl) (by kernel_rfl) ?_ ?_ h0 ?_
            rotate_left 2
            · simp only [List.getElem?_toArray, List.getElem?_cons_zero, List.getElem?_cons_succ]; rfl
            · exact fun _ _ _ h => h
            · refine Or.inl ⟨by rfl, ?_⟩
              intro w hSw
              (try dsimp only at hSw)
              go_simp
              (try with_reducible rfl)
            (try simp only [Act.put, List.setIfInBounds_toArray, List.set_cons_zero, List.set_cons_succ])
            refine wpAnyH_take (i := 5) (oi := ?_) (v := ?_) ?_ (by kernel_rfl) (by kernel_rfl) (by kernel_rfl) ?_ ?_ h0 ?_
            rotate_left 2
            · simp only [List.getElem?_toArray, List.getElem?_cons_zero, List.getElem?_cons_succ]; rfl
            · exact fun _ _ _ h => h
            · refine Or.inl ⟨by rfl, ?_⟩
              intro w hSw
              (try dsimp only at hSw)
              go_simp
              (try with_reducible rfl)
            (try simp only [Act.put, List.setIfInBounds_toArray, List.set_cons_zero, List.set_cons_succ])
            refine wpAnyH_take (i := 6) (oi := ?_) (v := ?_) ?_ (by kernel_rfl) (by kernel_rfl) (by kernel_rfl) ?_ ?_ h0 ?_
            rotate_left 2
            · simp only [List.getElem?_toArray, List.getElem?_cons_zero, List.getElem?_cons_succ]; rfl
            · exact fun _ _ _ h => h
            · refine Or.inl ⟨by rfl, ?_⟩
              intro w hSw
              (try dsimp only at hSw)
              go_simp
              (try with_reducible rfl)
            (try simp only [Act.put, List.setIfInBounds_toArray, List.set_cons_zero, List.set_cons_succ])
            refine wpAnyH_take (i := 7) (oi := ?_) (v := ?_) ?_ (by kernel_rfl) (by kernel_rfl) (by kernel_rfl) ?_ ?_ h0 ?_
            rotate_left 2
            · simp only [List.getElem?_toArray, List.getElem?_cons_zero, List.getElem?_cons_succ]; rfl
            · exact fun _ _ _ h => h
            · refine Or.inl ⟨by rfl, ?_⟩
              intro w hSw
              (try dsimp only at hSw)
              go_simp
              (try with_reducible rfl)
            (try simp only [Act.put, List.setIfInBounds_toArray, List.set_cons_zero, List.set_cons_succ])
            refine wpAnyH_ready (rs := [8]) (by kernel_rfl) (by simp) ?_
            refine AllReadyH.cons (o := ?_) ?_ (fun K hK => ?_) AllReadyH.nil
            rotate_left
            · simp only [List.getElem?_toArray, List.getElem?_cons_zero, List.getElem?_cons_succ]; rfl
            go_simp
            refine hK.out _ _ (KS.out _ ((Ext.refl _).drew.alloc _)) (fun h1 => ?_)
            clear hK K
            (try simp only [Act.put, List.setIfInBounds_toArray, List.set_cons_zero, List.set_cons_succ])
            refine wpAnyH_ready (rs := [9]) (by kernel_rfl) (by simp) ?_
            refine AllReadyH.cons (o := ?_) ?_ (fun K hK => ?_) AllReadyH.nil
            rotate_left
            · simp only [List.getElem?_toArray, List.getElem?_cons_zero, List.getElem?_cons_succ]; rfl
            go_simp
            refine hK.out _ _ (KS.out _ ((Ext.refl _).drew.alloc _)) (fun h2 => ?_)
            clear hK K
            (try simp only [Act.put, List.setIfInBounds_toArray, List.set_cons_zero, List.set_cons_succ])
            refine wpAnyH_done (by kernel_rfl) ?_ _
            refine NoPanic.normal ?_
            clear h0 h1 h2

            have X3 : Ext wk (World.drew (wk.alloc (.cells #[.int .i64 t0, .int .i64 t1, .int .i64 t2, .int .i64 t3] 69))) := ((Ext.refl _).alloc _).drew
            have kO : Blk (World.drew (wk.alloc (.cells #[.int .i64 t0, .int .i64 t1, .int .i64 t2, .int .i64 t3] 69))) wk.heap.size 69 [.int .i64 t0, .int .i64 t1, .int .i64 t2, .int .i64 t3] := (Blk.lit _ _ _ _ rfl).ext ((Ext.refl _).drew)
            have q9 := X3.at q9
            generalize World.drew (wk.alloc (.cells #[.int .i64 t0, .int .i64 t1, .int .i64 t2, .int .i64 t3] 69)) = w3 at *
            obtain ⟨O, hO⟩ : ∃ O, O = wk.heap.size := ⟨_, rfl⟩
            rw [← hO] at kO ⊢
            have o2 : w3.cell? ⟨O, 2, none⟩ = some (.int .i64 t2) := kO.cell 2
            have o3 : w3.cell? ⟨O, 3, none⟩ = some (.int .i64 t3) := kO.cell 3
            have HX4 := Lib.hid (HX3.out.trans X3)
            clear KS hO X3
            have hw1 : IntKind.i64.wrap (t2 - 128) = t2 - 128 := IntWalk.i64_in _ (by omega)
            have hw2 : IntKind.i64.wrap (256 * (t2 - 128)) = 256 * (t2 - 128) := IntWalk.i64_in _ (by omega)
            have hw3 : IntKind.i64.wrap (256 * (t2 - 128) + t3) = 256 * (t2 - 128) + t3 := IntWalk.i64_in _ (by omega)
            by_cases h2 : t2 = 0
            · have h20 : (t2 != 0) = false := by simpa using h2
              have HO := Lib.hid (HSUC.out (by rw [OPE.out]; simp [h2]))
              clear h2
              go_wp2_with fail
              go_roundw
              case rel => exact ⟨i + 1, by omega, by go_num, HO, HX4.out⟩
              case measure => simp [intOf]; omega
            · have h20 : (t2 != 0) = true := by simpa using h2
              by_cases h3 : t2 < 128
              · have HN := Lib.hid (show false = ligB D from NOi.out (by rw [OPE.out]; simp [h2]; omega))
                clear h2
                go_wp2_with fail
                go_ret
                exact ⟨ret_bool HN.out, W0.trans (HX2.out.trans HX4.out)⟩
              · by_cases h4 : (D.nk : Int) ≤ 256 * (t2 - 128) + t3
                · have HN := Lib.hid (show false = ligB D from NOi.out (by rw [OPE.out]; simp [h2]; omega))
                  clear h2
                  go_wp2_with fail
                  go_ret
                  exact ⟨ret_bool HN.out, W0.trans (HX2.out.trans HX4.out)⟩
                · have HO := Lib.hid (HSUC.out (by rw [OPE.out]; simp [h2]; omega))
                  clear h2
                  go_wp2_with fail
                  go_roundw
                  case rel => exact ⟨i + 1, by omega, by go_num, HO, HX4.out⟩
                  case measure => simp [intOf]; omega
          · obtain rfl : i = q := by omega
            have HOK := Lib.hid (YES.out HNN.out hop.out)
            have HXW := Lib.hid (HX2.out.trans X)
            clear X sl
            go_wp2_with fail
            go_roundw
            case rel => exact ⟨j + 1, by omega, by go_num, Lib.hid (fun j' h => by
              rcases Nat.lt_succ_iff_lt_or_eq.1 h with h | h
              · exact hall.out j' h
              · rw [h]; exact HOK.out), HXW.out⟩
            case measure => simp [intOf]; omega
    · obtain rfl : j = D.nc := by omega
      have HL := Lib.hid (lig_puts HD.out hall.out)
      have TP := Lib.hid (show Calls Try.prog 54 #[.agg #[.int .i64 D.sum, .int .i64 D.design, .int .i64 D.first, .slice P.xc D.nc P.zc, .slice P.xw D.nw P.zw, .slice P.xh D.nh P.zh, .slice P.xd D.nd P.zd, .slice P.xi D.ni P.zi, .slice P.xs D.ns P.zs, .slice P.xk D.nk P.zk, .slice P.xp D.np P.zp]] wp (PairsQ D wp) from rpairs_any D P _ (SN.out _ X) HD.out)
      have PIN := Lib.hid (pairsD_in IN.out D.nc)
      have k1 := kF.ext X
      have q0 : wp.cell? ⟨B, 0, none⟩ = some (.int .i64 D.sum) := k1.cell 0
      have q1 : wp.cell? ⟨B, 1, none⟩ = some (.int .i64 D.design) := k1.cell 1
      have q2 : wp.cell? ⟨B, 2, none⟩ = some (.int .i64 D.first) := k1.cell 2
      have q3 : wp.cell? ⟨B, 3, none⟩ = some (.slice P.xc D.nc P.zc) := k1.cell 3
      have q4 : wp.cell? ⟨B, 4, none⟩ = some (.slice P.xw D.nw P.zw) := k1.cell 4
      have q5 : wp.cell? ⟨B, 5, none⟩ = some (.slice P.xh D.nh P.zh) := k1.cell 5
      have q6 : wp.cell? ⟨B, 6, none⟩ = some (.slice P.xd D.nd P.zd) := k1.cell 6
      have q7 : wp.cell? ⟨B, 7, none⟩ = some (.slice P.xi D.ni P.zi) := k1.cell 7
      have q8 : wp.cell? ⟨B, 8, none⟩ = some (.slice P.xs D.ns P.zs) := k1.cell 8
      have q9 : wp.cell? ⟨B, 9, none⟩ = some (.slice P.xk D.nk P.zk) := k1.cell 9
      have q10 : wp.cell? ⟨B, 10, none⟩ = some (.slice P.xp D.np P.zp) := k1.cell 10
      have HX := Lib.hid X
      clear X
      go_wp2_with fail
      refine TP.out.mono ?_
      rintro e w2 ⟨x2, A, cp, rfl, sp⟩
      have HX2 := Lib.hid (HX.out.trans x2)
      have PL := pairsD_length hns D.nc
      generalize pairsD D D.nc = ps at *
      obtain ⟨n, hn⟩ : ∃ n, n = ps.length := ⟨_, rfl⟩
      have SP := Lib.hid (fun w' (x : Ext w2 w') => show SeenN 3 w' A n (triA ps) from by rw [hn]; exact sp.ext x)
      rw [← hn]
      have hn64 : (n : Int) ≤ 76800 := by omega
      have HN := Lib.hid hn
      obtain ⟨Z, hZ, hZs, hZt, hZ0⟩ := zero256s
      have hst := hZt w2
      clear hZt
      have HZ0 := Lib.hid hZ0
      clear hZ0 TP q0 q1 q2 q3 q4 q5 q6 q7 q8 q9 q10 k1 x2 hn sp PL
      go_wp2_with fail
      have kU : RowB (w2.alloc (.cells Z 87)) w2.heap.size 256 (fun _ => false) := rowB_lit _ _ _ _ _ _ rfl HZ0.out
      have XV : Ext w2 (w2.alloc (.cells Z 87)) := (Ext.refl _).alloc _
      clear hst
      generalize w2.alloc (.cells Z 87) = w3 at *
      obtain ⟨R, hR⟩ : ∃ R, R = w2.heap.size := ⟨_, rfl⟩
      rw [← hR] at kU ⊢
      have HR := Lib.hid (Nat.le_of_eq hR.symm)
      clear hR hZ HZ0 hZs
      go_loopw [11] (fun v wr => ∃ (i : Nat) (m : MapN), i ≤ n ∧ v = .int .i64 i ∧ Hid (putsL D (ps.take i) (fun _ => none) = some m) ∧ RowB wr R 256 (fun y => (m y).isSome) ∧ Ext w2 wr) (fun v _ => n - (intOf v).toNat)
      case atStart => exact ⟨0, fun _ => none, by omega, rfl, Lib.hid rfl, kU, XV⟩
      case round =>
        obtain ⟨i, m, hi, rfl, hp, hU, X⟩ := hrel
        obtain ⟨wk, rfl⟩ : ∃ wk : World, wk = wr := ⟨_, rfl⟩
        by_cases hin : i < n
        · have hil : i < ps.length := by rw [← HN.out]; exact hin
          obtain ⟨al, rfl, c0, c1, c2⟩ := row3 (SP.out _ X) hin
          have k1 := kF.ext (HX2.out.trans X)
          have q0 : wk.cell? ⟨B, 0, none⟩ = some (.int .i64 D.sum) := k1.cell 0
          have q1 : wk.cell? ⟨B, 1, none⟩ = some (.int .i64 D.design) := k1.cell 1
          have q2 : wk.cell? ⟨B, 2, none⟩ = some (.int .i64 D.first) := k1.cell 2
          have q3 : wk.cell? ⟨B, 3, none⟩ = some (.slice P.xc D.nc P.zc) := k1.cell 3
          have q4 : wk.cell? ⟨B, 4, none⟩ = some (.slice P.xw D.nw P.zw) := k1.cell 4
          have q5 : wk.cell? ⟨B, 5, none⟩ = some (.slice P.xh D.nh P.zh) := k1.cell 5
          have q6 : wk.cell? ⟨B, 6, none⟩ = some (.slice P.xd D.nd P.zd) := k1.cell 6
          have q7 : wk.cell? ⟨B, 7, none⟩ = some (.slice P.xi D.ni P.zi) := k1.cell 7
          have q8 : wk.cell? ⟨B, 8, none⟩ = some (.slice P.xs D.ns P.zs) := k1.cell 8
          have q9 : wk.cell? ⟨B, 9, none⟩ = some (.slice P.xk D.nk P.zk) := k1.cell 9
          have q10 : wk.cell? ⟨B, 10, none⟩ = some (.slice P.xp D.np P.zp) := k1.cell 10
          have lb := k1.lt
          obtain ⟨⟨pa, pb, pm⟩, hpe⟩ : ∃ p, p = ps.getD i (0, 0, 0) := ⟨_, rfl⟩
          rw [show triA ps i 0 = pa by show (ps.getD i (0, 0, 0)).1 = pa; rw [← hpe]] at c0
          rw [show triA ps i 1 = pb by show (ps.getD i (0, 0, 0)).2.1 = pb; rw [← hpe]] at c1
          rw [show triA ps i 2 = pm by show (ps.getD i (0, 0, 0)).2.2 = pm; rw [← hpe]] at c2
          have NO := Lib.hid (fun hb => (HL.out.trans (puts_no hil hp.out hpe hb)).symm)
          have YES := Lib.hid (fun hb => puts_yes hil hp.out hpe hb)
          obtain ⟨pm0, pm1⟩ : 0 ≤ pm ∧ pm < 256 := PIN.out (pa, pb, pm) (by rw [hpe, List.getD, List.getElem?_eq_getElem hil, Option.getD_some]; exact List.getElem_mem hil)
          have C1 : ∀ d os, Calls Try.prog 37 #[.agg #[.int .i64 D.sum, .int .i64 D.design, .int .i64 D.first, .slice P.xc D.nc P.zc, .slice P.xw D.nw P.zw, .slice P.xh D.nh P.zh, .slice P.xd D.nd P.zd, .slice P.xi D.ni P.zi, .slice P.xs D.ns P.zs, .slice P.xk D.nk P.zk, .slice P.xp D.np P.zp], .int .i64 pm] (Sort.grow (redrawn wk d) os) (Ret (Sort.grow (redrawn wk d) os) (.bool (hasB D pm))) := fun d os => HAS.out pm _ ((HX2.out.trans X).trans (below_regrown _ _ _)) (by omega)
          have g0 := cell_regrown q0; have g1 := cell_regrown q1; have g2 := cell_regrown q2; have g3 := cell_regrown q3; have g4 := cell_regrown q4; have g5 := cell_regrown q5; have g6 := cell_regrown q6; have g7 := cell_regrown q7; have g8 := cell_regrown q8; have g9 := cell_regrown q9; have g10 := cell_regrown q10
          have gc0 := cell_regrown c0; have gc1 := cell_regrown c1; have gc2 := cell_regrown c2
          have hin64 : (i : Int) < (n : Int) := by omega
          have HX5 := Lib.hid X
          clear X hil
          go_wp2_with fail
          refine wp_region_quiet_below (by kernel_rfl) (by kernel_rfl) ?_
          repeat (go_big_quiet_step (with_reducible exact rg (C1 _ _)))
          refine wpQuiet_nil ?_
          intro _ hw'
          obtain ⟨⟨dq, osq⟩, hw''⟩ := hw'
          subst hw''
          have z : Ext wk (Sort.grow (redrawn wk dq) osq) := below_regrown _ _ _
          have c0 := z.at c0; have c1 := z.at c1; have c2 := z.at c2
          have hU := hU.ext z
          clear C1 g0 g1 g2 g3 g4 g5 g6 g7 g8 g9 g10 gc0 gc1 gc2 q0 q1 q2 q3 q4 q5 q6 q7 q8 q9 q10 k1 lb
          generalize Sort.grow (redrawn wk dq) osq = w4 at *
          have X4 := Lib.hid (HX2.out.trans (HX5.out.trans z))
          have X5 := Lib.hid (HX5.out.trans z)
          cases hh : hasB D pm with
          | false =>
            have H := Lib.hid (NO.out (Or.inr (by simp [mayT, hh])))
            clear hh z
            go_wp2_with fail
            go_quiet (fail)
            go_wp2_with fail
            go_ret
            exact ⟨ret_bool H.out, W0.trans (X4.out.drewN _)⟩
          | true =>
            by_cases h1 : pm < 128
            · have d1 : decide (pm < 128) = true := by simpa using h1
              have H := Lib.hid (NO.out (Or.inr (by simp [mayT, hh]; omega)))
              clear hh z
              go_wp2_with fail
              go_quiet (fail)
              go_wp2_with fail
              go_ret
              exact ⟨ret_bool H.out, W0.trans (X4.out.drewN _)⟩
            · have d1 : decide (pm < 128) = false := by simpa using h1
              by_cases h2 : pm ≤ pa
              · have d2 : decide (pm ≤ pa) = true := by simpa using h2
                have H := Lib.hid (NO.out (Or.inr (by simp [mayT, hh]; omega)))
                clear hh z
                go_wp2_with fail
                go_quiet (fail)
                go_wp2_with fail
                go_ret
                exact ⟨ret_bool H.out, W0.trans (X4.out.drewN _)⟩
              · have d2 : decide (pm ≤ pa) = false := by simpa using h2
                by_cases h3 : 128 ≤ pb
                · have d3 : decide (128 ≤ pb) = true := by simpa using h3
                  have H := Lib.hid (NO.out (Or.inr (by simp [mayT, hh]; omega)))
                  clear hh z
                  go_wp2_with fail
                  go_quiet (fail)
                  go_wp2_with fail
                  go_ret
                  exact ⟨ret_bool H.out, W0.trans (X4.out.drewN _)⟩
                · have d3 : decide (128 ≤ pb) = false := by simpa using h3
                  obtain ⟨mk, rfl⟩ := Int.eq_ofNat_of_zero_le pm0
                  have hmk : mk < 256 := by omega
                  obtain ⟨uu, u1⟩ := hU mk hmk
                  have u0 : w4.cell? ⟨R, mk, none⟩ = some (.bool (m (mk : Int)).isSome) := uu
                  clear uu
                  cases hr : (m (mk : Int)).isSome with
                  | true =>
                    rw [hr] at u0
                    have H := Lib.hid (NO.out (Or.inl hr))
                    clear hh z
                    go_wp2_with fail
                    go_quiet (fail)
                    go_wp2_with fail
                    go_ret
                    exact ⟨ret_bool H.out, W0.trans (X4.out.drewN _)⟩
                  | false =>
                    rw [hr] at u0
                    have HY := Lib.hid (YES.out (by simp [mayT, hh, hr]; omega))
                    clear hh z hr
                    have HU := Lib.hid hU
                    clear hU
                    go_wp2_with fail
                    go_quiet (fail)
                    have X6 := Lib.hid (fun k => X5.out.drewN k)
                    have HU := Lib.hid (fun k => (HU.out.ext ((Ext.refl w4).drewN k)).set mk true)
                    go_wp2_with fail
                    go_roundw
                    case rel =>
                      refine ⟨i + 1, _, by omega, by go_num, HY, ?_, (X6.out _).setCell (by show _ ≤ R; exact HR.out) _⟩
                      intro j hj
                      refine ⟨(HU.out _ j hj).1.trans ?_, (HU.out _ j hj).2⟩
                      by_cases e : (j : Int) = (mk : Int) <;> simp [e]
                    case measure => simp [intOf]; omega
        · obtain rfl : i = n := by omega
          have HT := Lib.hid (show true = ligB D by
            rw [HL.out]
            have := hp.out
            rw [HN.out, List.take_length] at this
            rw [this]; rfl)
          have HX5 := Lib.hid X
          clear X
          go_wp2_with fail
          go_ret
          exact ⟨ret_bool HT.out, W0.trans (HX2.out.trans HX5.out)⟩
end L08
end Go.Proofs.Ytpkmpbpifbpomaa

