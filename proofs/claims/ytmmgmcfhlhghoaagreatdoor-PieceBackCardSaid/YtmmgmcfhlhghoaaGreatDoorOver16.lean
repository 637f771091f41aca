/- A range over a function whose function makes calls that write memory that was there: what the rounds keep stays over these calls, too. Any program. -/
import Derived.Test.YtmmgmcfhlhghoaaGreatDoorGG16
namespace Go.Proofs.YtmmgmcfhlhghoaaGreatDoor
open Go.RowKit

/-- What stays while a loop's own two blocks turn. -/
def OwnOf {β : Type} (D : Nat) (I : β → World → Prop) : Prop :=
  ∀ s W W' row, I s W → W.grownBy W' row → (∀ r, row = some r → (r = D ∨ r = D + 1) ∧ ∃ o : Obj, W.heap[r]? = some o ∧ o.isCells = false) → I s W'
theorem OwnOf.putObj {β : Type} {D : Nat} {I : β → World → Prop} (h : OwnOf D I) {s : β} {W : World} {l : Nat} {o : Obj} (o' : Obj) (hs : I s W) (hB : l = D ∨ l = D + 1) (hl : W.heap[l]? = some o) (ho : o.isCells = false) : I s (W.putObj l o') :=
  h s W _ (some l) hs (grownBy_putObj' W l o') (fun r e => by cases e; exact ⟨hB, o, hl, ho⟩)
theorem range_ask {α : Type} {F : Fence} {n : Nat} {P : Program} {g : Operand} {ps : Array Tmp} {assign body : Code} {Q : Exit → Act → World → Prop} {a : Act} {w : World} (hro : F.round = none) (h1 : 1 ≤ n)
    {gf : Nat} {lb : Array Value} (hg : a.eval g = .func (.func gf) #[] lb) (hF : F.fn gf) (eg : ∀ args w, (callFunc gf args).run P w = .ok (.enter gf args) w)
    {encs : α → Array Value} (hps : ∀ x, (encs x).size = ps.size) {V : α → World → Prop} {Kp : World → World → Prop} {S Sp : List α → Prop} {N : Nat}
    (I : List α → World → Prop) (Ix : Code → List α → World → Prop) (Ax : α → Act → World → Prop)
    (hI : OwnOf w.heap.size I) (hIx : ∀ c, OwnOf w.heap.size (Ix c)) (hAx : ∀ x a', OwnFrom w.heap.size fun (_ : Unit) W => Ax x a' W)
    (hKt : ∀ {A B C : World}, Kp A B → Kp B C → Kp A C) (hKb : ∀ (W : World) (r r' : Loop), W.heap[w.heap.size + 1]? = some (.loop r) → Kp W (W.putObj (w.heap.size + 1) (.loop r')))
    {Stp : World → World → Prop} (hIS : ∀ pre W W', I pre W → Stp W W' → I pre W') (hBk : ∀ r W W', Booked w.heap.size r W → Stp W W' → Booked w.heap.size r W')
    (h0 : ∀ W, Ext w W → W.heap.size = w.heap.size + 2 → I [] W)
    (hcall : ∀ (W : World) (J Jx : List α → World → Prop), Ext w W → W.heap.size = w.heap.size + 2 → (∀ pre W1, J pre W1 → I pre W1) → (∀ pre W1 W2, J pre W1 → Stp W1 W2 → J pre W2) →
      (∀ pre x W1, J pre W1 → V x W1 → pre.length < N → YieldAt F (n - 1 - 1) P (w.heap.size + 1) (encs x) W1 fun e W' => (e = .returned (.bool true) ∧ J (pre ++ [x]) W' ∧ Kp W1 W' ∧ KeepsFrom (w.heap.size + 2) W1 W') ∨ (e = .returned (.bool false) ∧ Jx (pre ++ [x]) W' ∧ KeepsFrom (w.heap.size + 2) W1 W')) →
      J [] W → CallsIn F (n - 1) P gf (#[.func (.yield (w.heap.size + 1)) #[] #[]] ++ lb) W fun e W' => (∃ v, e = .returned v) ∧ ((∃ xs, S xs ∧ J xs W') ∨ ∃ pre, Sp pre ∧ Jx pre W'))
    (hassign : ∀ (pre : List α) (x : α) (W : World) (K : Act → World → Prop), I pre W → V x W → (∀ a' W', KeepsFrom w.heap.size W W' → Kp W W' → I pre W' → Ax x a' W' → K a' W') →
      assign.wpIn (F.inRound (w.heap.size + 1)) (n - 1 - 1) P (Exit.then K (fun _ _ _ => False)) { tmps := (ps.zip (encs x)).foldl (fun t (p, v) => t.setIfInBounds p v) a.tmps, defers := [] } W)
    (hbody : ∀ (pre : List α) (x : α) (a' : Act) (W : World), I pre W → Ax x a' W → pre.length < N → body.wpIn (F.inRound (w.heap.size + 1)) (n - 1 - 1) P (ownPostG w.heap.size Kp I Ix (pre ++ [x]) W) a' W)
    (hdone : ∀ (xs : List α) (W : World), S xs → I xs W → W.heap[w.heap.size]? = some (.deferred (some [])) → Q .normal { a with defers := { target := .collected w.heap.size, args := #[] } :: a.defers } W)
    (hstop : ∀ (c : Code) (pre : List α) (W : World), Sp pre → Ix c pre W → W.heap[w.heap.size]? = some (.deferred (some [])) → c.wpIn F n P Q { a with defers := { target := .collected w.heap.size, args := #[] } :: a.defers } W) :
    (Code.rangeFunc g ps assign body).wpIn F n P Q a w := by
  refine wpIn_rangeFunc fun fn hfn => ?_
  rw [hro]
  obtain ⟨mk, hmk⟩ : ∃ mk : LoopState → Option Code → Loop, ∀ s j, mk s j = { state := s, pending := j, fn, tmps := a.tmps, params := ps, assign, body, defers := w.heap.size } := ⟨_, fun _ _ => rfl⟩
  obtain ⟨W1, hW1⟩ : ∃ W1, W1 = (w.alloc (.deferred (some []))).alloc (.loop (mk .ready none)) := ⟨_, rfl⟩
  have hs1 : W1.heap.size = w.heap.size + 2 := by rw [hW1]; simp
  have x1 : Ext w W1 := by rw [hW1]; exact ((Ext.refl w).alloc _).alloc _
  have b1 : Booked w.heap.size (mk .ready none) W1 := by
    rw [hW1]
    refine ⟨?_, ?_⟩
    · have := World.alloc_heap_new (w.alloc (.deferred (some []))) (.loop (mk .ready none))
      rwa [World.size_alloc] at this
    · exact (Below.heap_alloc _ _ _ (by simp)).trans (World.alloc_heap_new w _)
  have i1 : I [] W1 := h0 W1 x1 hs1
  refine ⟨w.heap.size + 1, [{ target := .collected w.heap.size, args := #[] }], W1, { target := .fn (.func gf) lb, args := #[.func (.yield (w.heap.size + 1)) #[] #[]] }, W1, gf, #[.func (.yield (w.heap.size + 1)) #[] #[]] ++ lb, W1, ?_, ?_, fun f' hf' => ?_, ?_, fun _ => h1, ?_⟩
  · rw [hW1, hmk]; exact run_enterLoop_outer _ _ _ _ _
  · simp only [resolve, hg]; simp [go_sem]
  · simp only [Target.leads, Option.some.injEq] at hf'; subst hf'; exact hF
  · simp [invoke, go_sem, eg]
  refine (hcall W1 (fun s W => I s W ∧ Booked w.heap.size (mk .ready none) W) (fun s W => True ∧ ∃ c, Ix c s W ∧ Booked w.heap.size (mk .done (some c)) W) x1 hs1
    (fun s W h => h.1) (fun s W W' h k => ⟨hIS s W W' h.1 k, hBk _ W W' h.2 k⟩) ?_ ⟨i1, b1⟩).mono ?_
  · -- a round
    rintro pre x W ⟨hi, hb⟩ hv hlen
    have hy := run_yield (P := P) (args := encs x) hb.loop (by rw [hmk]; exact hps x)
    rw [hmk] at hy
    refine ⟨fn, _, assign, body, hy, roundIn_of_wpIn hfn (hassign pre x W _ hi hv fun a' Wa ka kp ia ax => ?_)⟩
    have hb := hb.kept ka
    have hb2 := hb.turn { mk .ready none with state := .busy }
    refine ⟨_, run_beginRound hb.loop (by rw [hmk]), wpIn_mono (hbody pre x a' _ (hI.putObj _ ia (by omega) hb.loop rfl) ((hAx x a').putObj (s := ()) _ ax (by omega) hb.loop rfl) hlen) ?_⟩
    have k2 : Kp W (Wa.putObj (w.heap.size + 1) (.loop { mk .ready none with state := .busy })) := hKt kp (hKb _ _ _ hb.loop)
    have mono : ∀ X Y, KeepsFrom w.heap.size X Y → KeepsFrom (w.heap.size + 2) X Y := fun X Y h => ⟨h.size, fun k o hk => h.same k o (by omega)⟩
    have rec_ : ∀ (X : World) (o : Obj), KeepsFrom (w.heap.size + 2) X (X.putObj (w.heap.size + 1) o) := fun X o => ⟨by simp, fun k o' hk ho _ => (World.putObj_heap_other (by omega)).trans ho⟩
    -- how a round ends
    have fin : ∀ (j : Option Code) (W3 : World), KeepsFrom w.heap.size (Wa.putObj (w.heap.size + 1) (.loop { mk .ready none with state := .busy })) W3 →
        ∃ W4, (Instr.endRound (w.heap.size + 1) j).run P W3 = .ok (.bool j.isNone) W4 ∧ Booked w.heap.size (mk (if j.isNone then .ready else .done) j) W4 ∧ Kp W3 W4 ∧ KeepsFrom (w.heap.size + 2) W W4 ∧
          ∀ (T : List α → World → Prop) s, OwnOf w.heap.size T → T s W3 → T s W4 := fun j W3 k3 => by
      have hb3 := hb2.kept k3
      refine ⟨_, run_endRound (P := P) j hb3.loop, ?_, hKb _ _ _ hb3.loop, ((((mono _ _ ka).trans (rec_ _ _)).trans (mono _ _ k3)).trans (rec_ _ _)), fun T s hT ht => hT.putObj _ ht (by omega) hb3.loop rfl⟩
      have := hb3.turn (mk (if j.isNone then .ready else .done) j)
      rw [hmk] at this ⊢
      rw [hmk]
      exact this
    rintro e a3 W3 hp
    cases e with
    | normal =>
      obtain ⟨k3, kp3, i3⟩ := hp
      obtain ⟨W4, hr, b4, k4, kf, tr⟩ := fin none W3 k3
      exact ⟨_, W4, hr, .inl ⟨rfl, ⟨tr _ _ hI i3, b4⟩, hKt (hKt k2 kp3) k4, kf⟩⟩
    | ret =>
      obtain ⟨W4, hr, b4, _, kf, tr⟩ := fin (some .ret) W3 hp.1
      exact ⟨_, W4, hr, .inr ⟨rfl, ⟨trivial, .ret, tr _ _ (hIx _) hp.2, b4⟩, kf⟩⟩
    | exit id =>
      obtain ⟨W4, hr, b4, _, kf, tr⟩ := fin (some (.exit id)) W3 hp.1
      exact ⟨_, W4, hr, .inr ⟨rfl, ⟨trivial, .exit id, tr _ _ (hIx _) hp.2, b4⟩, kf⟩⟩
    | goto t =>
      obtain ⟨W4, hr, b4, _, kf, tr⟩ := fin (some (.goto t)) W3 hp.1
      exact ⟨_, W4, hr, .inr ⟨rfl, ⟨trivial, .goto t, tr _ _ (hIx _) hp.2, b4⟩, kf⟩⟩
    | panic ch => exact hp.elim
    | outgrown => exact hp.elim
  · -- behind the rounds
    rintro e W2 ⟨⟨v, rfl⟩, (⟨xs, hS, hi, hb⟩ | ⟨pre, hSp, _, c, hi, hb⟩)⟩
    · have hr := run_endLoop (P := P) hb.loop (by rw [hmk]; simp)
      rw [hmk] at hr
      exact ⟨none, _, hr, hdone xs _ hS (hI.putObj _ hi (by omega) hb.loop rfl) ((World.putObj_heap_other (by omega)).trans hb.calls)⟩
    · have hr := run_endLoop (P := P) hb.loop (by rw [hmk]; simp)
      rw [hmk] at hr
      exact ⟨some c, _, hr, hstop c pre _ hSp ((hIx c).putObj _ hi (by omega) hb.loop rfl) ((World.putObj_heap_other (by omega)).trans hb.calls)⟩
end Go.Proofs.YtmmgmcfhlhghoaaGreatDoor

