/- A region that draws its order, within a fence, where no operation calls anything of Go's: as everywhere. Any program. -/
import Derived.Test.YtggedodfkjdegaaChg
import Derived.RangeFuncNested
import Derived.RangeFuncBound
import Derived.RangeFuncCalls
import Derived.RangeFuncLeaves
import Derived.OwnWalkIn
import Derived.TacticsInMore
import Derived.LoopNIn
import Derived.LoopIn
import Derived.OrdersIn
import Derived.Deep.RegionHeld3
namespace Go.Proofs.Ytggedodfkjdegaa
open Go.RowKit

/-- It calls nothing but append. -/
def plainB (o : Oper) : Bool := match o.op with
  | .move _ => true
  | .assign _ => true
  | .load _ _ => true
  | .store _ _ _ => true
  | .fieldAddr _ _ _ => true
  | .indexAddr _ _ _ => true
  | .binOp _ _ _ _ _ => true
  | .build _ _ => true
  | .buildSlice _ _ _ => true
  | .slice _ _ _ _ _ => true
  | .call c => match c.callee with
    | .builtin .append => true
    | .builtin .len => true
    | .builtin .min => true
    | _ => false
  | _ => false
/-- The post, but no way out. -/
def OnlyN (Q : Exit → Act → World → Prop) : Exit → Act → World → Prop
  | .normal, a, w => Q .normal a w
  | _, _, _ => False

theorem OnlyN.normal {Q : Exit → Act → World → Prop} {a : Act} {w : World} (h : Q .normal a w) : OnlyN Q .normal a w := h

theorem plain_run {P : Program} {o : Oper} {ρ : Operand → Value} {w w' : World} {x : Next} (h : plainB o = true) (hr : (execOp ρ o).run P w = .ok x w') : (∃ v, x = .value v) ∨ x = .skip := by
  have val : ∀ (s : Sem Value), ((do pure (Next.value (← s))) : Sem Next).run P w = .ok x w' → (∃ v, x = .value v) ∨ x = .skip := fun s hs => by
    simp only [Sem.run_bind, Sem.run_pure] at hs
    cases hq : s.run P w with
    | ok v w2 => rw [hq] at hs; simp only [Result.andThen_ok] at hs; cases hs; exact .inl ⟨_, rfl⟩
    | halt a b => rw [hq] at hs; cases hs
  have unit : ∀ (s : Sem Unit), ((do s; pure Next.skip) : Sem Next).run P w = .ok x w' → (∃ v, x = .value v) ∨ x = .skip := fun s hs => by
    simp only [Sem.run_bind, Sem.run_pure] at hs
    cases hq : s.run P w with
    | ok v w2 => rw [hq] at hs; simp only [Result.andThen_ok] at hs; cases hs; exact .inr rfl
    | halt a b => rw [hq] at hs; cases hs
  obtain ⟨dst, op, ty, pos, after, guard⟩ := o
  unfold execOp at hr
  cases op <;> simp only [plainB] at h <;> first | (cases h; done) | skip
  all_goals first
    | exact val _ hr
    | exact unit _ hr
    | skip
  · simp only [Sem.run_pure] at hr; cases hr; exact .inl ⟨_, rfl⟩
  · simp only [Sem.run_pure] at hr; cases hr; exact .inl ⟨_, rfl⟩
  all_goals
    rename_i c
    obtain ⟨cal, args, ats⟩ := c
    cases cal <;> simp only at h <;> first | (cases h; done) | skip
    rename_i b
    cases b <;> simp only at h <;> first | (cases h; done) | skip
    all_goals
      simp only [resolve, invoke, builtin, Sem.run_bind, Sem.run_pure, Result.andThen_ok] at hr
      exact val _ (by simpa only [Sem.run_bind, Sem.run_pure] using hr)
theorem plain_about {P : Program} {o : Oper} {ρ : Operand → Value} {w : World} (h : plainB o = true) : o.about P w ρ = none := by
  obtain ⟨dst, op, ty, pos, after, guard⟩ := o
  cases op <;> simp only [plainB] at h <;> first | (cases h; done) | rfl | skip
  rename_i c
  obtain ⟨cal, args, ats⟩ := c
  cases cal <;> simp only at h <;> first | (cases h; done) | skip
  rfl
theorem plain_defer {o : Oper} (h : plainB o = true) : ∀ c, o.op ≠ .defer c := fun c e => by
  rw [plainB, e] at h; cases h

theorem wpAnyIn_of {F : Fence} {n : Nat} {P : Program} {md : Region.Mode} {ops : Array Oper} {Q : Exit → Act → World → Prop} (hp : ops.all plainB = true) :
    ∀ (fuel : Nat) (listed : Array Bool) (a : Act) (w : World), wpAny P md ops (OnlyN Q) fuel listed a w → wpAnyIn F n P md ops Q fuel listed a w
  | 0, _, _, _, h => h
  | fuel + 1, listed, a, w, h => ⟨h.1, fun i hi => by
    have h1 := h.2 i hi
    unfold wpOp at h1
    unfold wpOpIn
    cases ho : ops[i]? with
    | none => rw [ho] at h1; exact wpAnyIn_of hp fuel _ _ _ h1
    | some o =>
      have hpo : plainB o = true := by
        rw [Array.all_eq_true] at hp
        obtain ⟨hlt, e⟩ := Array.getElem?_eq_some_iff.1 ho
        rw [← e]; exact hp i hlt
      simp only [ho] at h1 ⊢
      by_cases hw : Region.wanted o (yielded ops a.tmps) = true
      · rw [if_pos hw] at h1 ⊢
        rcases h1 with h1 | ⟨_, a', w', h1⟩
        · refine ⟨fun f hf => (by rw [plain_about hpo] at hf; cases hf), ?_⟩
          unfold Oper.wp at h1
          rw [Oper.semAt_plain F a.eval o (plain_defer hpo)]
          cases hr : (execOp a.eval o).run P w with
          | ok x w2 =>
            rw [hr] at h1
            rcases plain_run hpo hr with ⟨v, rfl⟩ | rfl
            · exact wpAnyIn_of hp fuel _ _ _ h1
            · exact wpAnyIn_of hp fuel _ _ _ h1
          | halt x w2 =>
            rw [hr] at h1
            cases x <;> exact False.elim h1
        · exact False.elim h1
      · rw [if_neg hw] at h1 ⊢
        exact ⟨fun f hf => (by rw [plain_about hpo] at hf; cases hf), wpAnyIn_of hp fuel _ _ _ h1⟩⟩

theorem wpIn_region_plain {F : Fence} {n : Nat} {P : Program} {id : Nat} {ops : Array Oper} {Q : Exit → Act → World → Prop} {S : World → Prop} {a : Act} {w : World} (hm : P.follows .mixedOrders = true) (hp : ops.all plainB = true) (hS : S w.drew)
    (h : S w.drew → wpAnyH P .any ops (OnlyN Q) S ops.size (Array.replicate ops.size false) a w.drew) : (Code.region id ops true).wpIn F n P Q a w :=
  wpIn_region_any hm (wpAnyIn_of hp _ _ _ _ (wpAny_of_held _ _ _ _ (h hS)))
end Go.Proofs.Ytggedodfkjdegaa

