/- A range over a function whose function ranges itself over another one: what the rounds keep may not mind the records of loops that began later. Any program. -/
import Derived.Test.YtaieafmgeheomaaDoorFrame
import Derived.RangeFuncNested
namespace Go.Proofs.YtaieafmgeheomaaDoor
open Go.RowKit

/-- The two blocks of a loop: the one for deferred calls, at D, and behind it the record. -/
structure Booked (D : Nat) (r : Loop) (W : World) : Prop where
  loop : W.heap[D + 1]? = some (.loop r)
  calls : W.heap[D]? = some (.deferred (some []))
theorem Booked.lt {D : Nat} {r : Loop} {W : World} (h : Booked D r W) : D + 1 < W.heap.size := (Array.getElem?_eq_some_iff.1 h.loop).1
theorem Booked.grown {D : Nat} {r : Loop} {W W' : World} {row : Option Nat} (h : Booked D r W) (g : W.grownBy W' row) (hr : ∀ k, row = some k → D + 2 ≤ k) : Booked D r W' :=
  ⟨(g.block _ h.lt fun e => by have := hr _ e.symm; omega).trans h.loop, (g.block _ (by have := h.lt; omega) fun e => by have := hr _ e.symm; omega).trans h.calls⟩
theorem Booked.kept {D : Nat} {r : Loop} {W W' : World} (h : Booked D r W) (k : KeepsFrom D W W') : Booked D r W' := ⟨k.same _ _ (by omega) h.loop rfl, k.same _ _ (Nat.le_refl _) h.calls rfl⟩
theorem Booked.turn {D : Nat} {r : Loop} {W : World} (h : Booked D r W) (r' : Loop) : Booked D r' (W.putObj (D + 1) (.loop r')) := ⟨World.putObj_heap_same h.lt, (World.putObj_heap_other (by omega)).trans h.calls⟩

theorem range_over {α : Type} {F : Fence} {n : Nat} {P : Program} {g : Operand} {ps : Array Tmp} {assign body : Code} {Q : Exit → Act → World → Prop} {a : Act} {w : World} (hro : F.round = none) (h1 : 1 ≤ n)
    {gf : Nat} {lb : Array Value} (hg : a.eval g = .func (.func gf) #[] lb) (hF : F.fn gf) (eg : ∀ args w, (callFunc gf args).run P w = .ok (.enter gf args) w)
    {encs : α → Array Value} (hps : ∀ x, (encs x).size = ps.size) {V : α → World → Prop} {Kp : World → World → Prop} {S Sp : List α → Prop} {N : Nat}
    (I : List α → World → Prop) (Ix : Code → List α → World → Prop) (Ax : α → Act → World → Prop)
    (hI : OwnFrom w.heap.size I) (hIx : ∀ c, OwnFrom w.heap.size (Ix c)) (hAx : ∀ x a', OwnFrom w.heap.size fun (_ : Unit) W => Ax x a' W)
    (hKt : ∀ {A B C : World}, Kp A B → Kp B C → Kp A C) (hKb : ∀ (W : World) (r r' : Loop), W.heap[w.heap.size + 1]? = some (.loop r) → Kp W (W.putObj (w.heap.size + 1) (.loop r')))
    (h0 : I [] w)
    (hcall : ∀ (W : World) (J Jx : List α → World → Prop), Ext w W → W.heap.size = w.heap.size + 2 → OwnFrom W.heap.size J → OwnFrom W.heap.size Jx →
      (∀ pre x W1, J pre W1 → V x W1 → pre.length < N → YieldAt F (n - 1 - 1) P (w.heap.size + 1) (encs x) W1 fun e W' => (e = .returned (.bool true) ∧ J (pre ++ [x]) W' ∧ Kp W1 W' ∧ KeepsFrom (w.heap.size + 2) W1 W') ∨ (e = .returned (.bool false) ∧ Jx (pre ++ [x]) W' ∧ KeepsFrom (w.heap.size + 2) W1 W')) →
      J [] W → CallsIn F (n - 1) P gf (#[.func (.yield (w.heap.size + 1)) #[] #[]] ++ lb) W fun e W' => (∃ v, e = .returned v) ∧ ((∃ xs, S xs ∧ J xs W') ∨ ∃ pre, Sp pre ∧ Jx pre W'))
    (hassign : ∀ (pre : List α) (x : α) (W : World) (K : Act → World → Prop), I pre W → V x W → (∀ a' W', KeepsFrom w.heap.size W W' → Kp W W' → I pre W' → Ax x a' W' → K a' W') →
      assign.wpIn (F.inRound (w.heap.size + 1)) (n - 1 - 1) P (Exit.then K (fun _ _ _ => False)) { tmps := (ps.zip (encs x)).foldl (fun t (p, v) => t.setIfInBounds p v) a.tmps, defers := [] } W)
    (hbody : ∀ (pre : List α) (x : α) (a' : Act) (W : World), I pre W → Ax x a' W → pre.length < N → body.wpIn (F.inRound (w.heap.size + 1)) (n - 1 - 1) P (ownPostG w.heap.size Kp I Ix (pre ++ [x]) W) a' W)
    (hdone : ∀ (xs : List α) (W : World), S xs → I xs W → W.heap[w.heap.size]? = some (.deferred (some [])) → Q .normal { a with defers := { target := .collected w.heap.size, args := #[] } :: a.defers } W)
    (hstop : ∀ (c : Code) (pre : List α) (W : World), Sp pre → Ix c pre W → W.heap[w.heap.size]? = some (.deferred (some [])) → c.wpIn F n P Q { a with defers := { target := .collected w.heap.size, args := #[] } :: a.defers } W) :
    (Code.rangeFunc g ps assign body).wpIn F n P Q a w := by
  refine wpIn_rangeFunc fun fn hfn => ?_
  rw [hro]
  obtain ⟨mk, hmk⟩ : ∃ mk : LoopState → Option Code → Loop, ∀ s j, mk s j = { state := s, pending := j, fn, tmps := a.tmps, params := ps, assign, body, defers := w.heap.size } := ⟨_, fun _ _ => rfl⟩
  obtain ⟨W1, hW1⟩ : ∃ W1, W1 = (w.alloc (.deferred (some []))).alloc (.loop (mk .ready none)) := ⟨_, rfl⟩
  have hs1 : W1.heap.size = w.heap.size + 2 := by rw [hW1]; simp
  have x1 : Ext w W1 := by rw [hW1]; exact ((Ext.refl w).alloc _).alloc _
  have b1 : Booked w.heap.size (mk .ready none) W1 := by
    rw [hW1]
    refine ⟨?_, ?_⟩
    · have := World.alloc_heap_new (w.alloc (.deferred (some []))) (.loop (mk .ready none))
      rwa [World.size_alloc] at this
    · exact (Below.heap_alloc _ _ _ (by simp)).trans (World.alloc_heap_new w _)
  have i1 : I [] W1 := by rw [hW1]; exact hI.alloc _ (hI.alloc _ h0)
  -- what stays where blocks of later loops turn
  have own : ∀ (T : List α → World → Prop) (R : List α → World → Prop), OwnFrom w.heap.size T → (∀ s A B row, R s A → A.grownBy B row → (∀ r, row = some r → w.heap.size + 2 ≤ r) → R s B) → OwnFrom W1.heap.size fun s W => T s W ∧ R s W := fun T R hT hR s A B row h g hr =>
    ⟨hT s A B row h.1 g fun r e => ⟨by have := (hr r e).1; omega, (hr r e).2⟩, hR s A B row h.2 g fun r e => by have := (hr r e).1; omega⟩
  refine ⟨w.heap.size + 1, [{ target := .collected w.heap.size, args := #[] }], W1, { target := .fn (.func gf) lb, args := #[.func (.yield (w.heap.size + 1)) #[] #[]] }, W1, gf, #[.func (.yield (w.heap.size + 1)) #[] #[]] ++ lb, W1, ?_, ?_, fun f' hf' => ?_, ?_, fun _ => h1, ?_⟩
  · rw [hW1, hmk]; exact run_enterLoop_outer _ _ _ _ _
  · simp only [resolve, hg]; simp [go_sem]
  · simp only [Target.leads, Option.some.injEq] at hf'; subst hf'; exact hF
  · simp [invoke, go_sem, eg]
  refine (hcall W1 (fun s W => I s W ∧ Booked w.heap.size (mk .ready none) W) (fun s W => True ∧ ∃ c, Ix c s W ∧ Booked w.heap.size (mk .done (some c)) W) x1 hs1
    (own _ (fun _ W => Booked w.heap.size (mk .ready none) W) hI fun _ _ _ _ h g hr => h.grown g hr)
    (fun s A B row h g hr => by
      obtain ⟨_, c, hc, hb⟩ := h
      exact ⟨trivial, c, hIx c s A B row hc g (fun r e => ⟨by have := (hr r e).1; omega, (hr r e).2⟩), hb.grown g fun r e => by have := (hr r e).1; omega⟩) ?_ ⟨i1, b1⟩).mono ?_
  · -- a round
    rintro pre x W ⟨hi, hb⟩ hv hlen
    have hy := run_yield (P := P) (args := encs x) hb.loop (by rw [hmk]; exact hps x)
    rw [hmk] at hy
    refine ⟨fn, _, assign, body, hy, roundIn_of_wpIn hfn (hassign pre x W _ hi hv fun a' Wa ka kp ia ax => ?_)⟩
    have hb := hb.kept ka
    have hb2 := hb.turn { mk .ready none with state := .busy }
    refine ⟨_, run_beginRound hb.loop (by rw [hmk]), wpIn_mono (hbody pre x a' _ (hI.putObj _ ia (by omega) hb.loop rfl) ((hAx x a').putObj (s := ()) _ ax (by omega) hb.loop rfl) hlen) ?_⟩
    have k2 : Kp W (Wa.putObj (w.heap.size + 1) (.loop { mk .ready none with state := .busy })) := hKt kp (hKb _ _ _ hb.loop)
    have mono : ∀ X Y, KeepsFrom w.heap.size X Y → KeepsFrom (w.heap.size + 2) X Y := fun X Y h => ⟨h.size, fun k o hk => h.same k o (by omega)⟩
    have rec_ : ∀ (X : World) (o : Obj), KeepsFrom (w.heap.size + 2) X (X.putObj (w.heap.size + 1) o) := fun X o => ⟨by simp, fun k o' hk ho _ => (World.putObj_heap_other (by omega)).trans ho⟩
    -- how a round ends
    have fin : ∀ (j : Option Code) (W3 : World), KeepsFrom w.heap.size (Wa.putObj (w.heap.size + 1) (.loop { mk .ready none with state := .busy })) W3 →
        ∃ W4, (Instr.endRound (w.heap.size + 1) j).run P W3 = .ok (.bool j.isNone) W4 ∧ Booked w.heap.size (mk (if j.isNone then .ready else .done) j) W4 ∧ Kp W3 W4 ∧ KeepsFrom (w.heap.size + 2) W W4 ∧
          ∀ (T : List α → World → Prop) s, OwnFrom w.heap.size T → T s W3 → T s W4 := fun j W3 k3 => by
      have hb3 := hb2.kept k3
      refine ⟨_, run_endRound (P := P) j hb3.loop, ?_, hKb _ _ _ hb3.loop, ((((mono _ _ ka).trans (rec_ _ _)).trans (mono _ _ k3)).trans (rec_ _ _)), fun T s hT ht => hT.putObj _ ht (by omega) hb3.loop rfl⟩
      have := hb3.turn (mk (if j.isNone then .ready else .done) j)
      rw [hmk] at this ⊢
      rw [hmk]
      exact this
    rintro e a3 W3 hp
    cases e with
    | normal =>
      obtain ⟨k3, kp3, i3⟩ := hp
      obtain ⟨W4, hr, b4, k4, kf, tr⟩ := fin none W3 k3
      exact ⟨_, W4, hr, .inl ⟨rfl, ⟨tr _ _ hI i3, b4⟩, hKt (hKt k2 kp3) k4, kf⟩⟩
    | ret =>
      obtain ⟨W4, hr, b4, _, kf, tr⟩ := fin (some .ret) W3 hp.1
      exact ⟨_, W4, hr, .inr ⟨rfl, ⟨trivial, .ret, tr _ _ (hIx _) hp.2, b4⟩, kf⟩⟩
    | exit id =>
      obtain ⟨W4, hr, b4, _, kf, tr⟩ := fin (some (.exit id)) W3 hp.1
      exact ⟨_, W4, hr, .inr ⟨rfl, ⟨trivial, .exit id, tr _ _ (hIx _) hp.2, b4⟩, kf⟩⟩
    | goto t =>
      obtain ⟨W4, hr, b4, _, kf, tr⟩ := fin (some (.goto t)) W3 hp.1
      exact ⟨_, W4, hr, .inr ⟨rfl, ⟨trivial, .goto t, tr _ _ (hIx _) hp.2, b4⟩, kf⟩⟩
    | panic ch => exact hp.elim
    | outgrown => exact hp.elim
  · -- behind the rounds
    rintro e W2 ⟨⟨v, rfl⟩, (⟨xs, hS, hi, hb⟩ | ⟨pre, hSp, _, c, hi, hb⟩)⟩
    · have hr := run_endLoop (P := P) hb.loop (by rw [hmk]; simp)
      rw [hmk] at hr
      exact ⟨none, _, hr, hdone xs _ hS (hI.putObj _ hi (by omega) hb.loop rfl) ((World.putObj_heap_other (by omega)).trans hb.calls)⟩
    · have hr := run_endLoop (P := P) hb.loop (by rw [hmk]; simp)
      rw [hmk] at hr
      exact ⟨some c, _, hr, hstop c pre _ hSp ((hIx c).putObj _ hi (by omega) hb.loop rfl) ((World.putObj_heap_other (by omega)).trans hb.calls)⟩
end Go.Proofs.YtaieafmgeheomaaDoor

