/- A region that draws its order, in a round of a range over a function: walked once, where no operation of it is deferred. Any program. -/
import Derived.Test.YtaieafmgeheomaaDoorFrame
import Derived.Sort.BigQuietIn
import Derived.Lib.QuietBelowIn
import Derived.Lib.QuietBelow
namespace Go.Proofs.YtaieafmgeheomaaDoor
open Go.RowKit Go.Sort

/-- It is no deferred call. -/
def calmO (o : Oper) : Bool := match o.op with
  | .defer _ => false
  | _ => true
theorem calmO_ne {o : Oper} (h : calmO o = true) : ∀ c, o.op ≠ .defer c := fun c e => by simp [calmO, e] at h

section
variable {F : Fence} {n : Nat} {P : Program} {C : World → Prop}
theorem round_op {o : Oper} {a : Act} {w : World} {K : Act → Prop} {K' : Act → World → Prop} {R : Exit → Act → World → Prop} (hd : calmO o = true) (hw : C w) (hk : ∀ b v, C v → K b → K' b v) (ha : o.askedIn F P a C) (hq : o.quietIn F n P a C K) : o.wpIn F n P a w K' R := by
  refine ⟨ha w hw, ?_⟩
  rw [Oper.semAt_eq _ _ _ (calmO_ne hd)]
  obtain ⟨v, each, next⟩ := hq
  have now : Oper.quietUponIn F n P C w v ((execOp a.eval o).run P w) := each w hw
  rcases hr : (execOp a.eval o).run P w with ⟨x, w'⟩ | ⟨x, w'⟩ <;> rw [hr] at now
  · rcases x <;> simp only [Oper.quietUponIn] at now <;> simp only [Oper.uponIn]
    · obtain ⟨rfl, rfl⟩ := now; exact hk _ _ hw next
    · obtain ⟨rfl, e⟩ := now; rw [← e]; exact hk _ _ hw next
    · obtain ⟨rfl, d, hc⟩ := now
      exact ⟨d, hc.mono fun e v' ⟨he, hv⟩ => by subst he; exact hk _ _ hv next⟩
  · simp only [Oper.quietUponIn] at now
theorem round_any {ops : Array Oper} {md : Region.Mode} {Q : Act → Prop} {R : Exit → Act → World → Prop} (hd : ∀ (i : Nat) (o : Oper), ops[i]? = some o → calmO o = true) (hQ : ∀ b v, C v → Q b → R .normal b v) :
    ∀ (fuel : Nat) (done : Array Bool) (a : Act) (w : World), C w → wpAnyQIn F n P md ops C Q fuel done a → wpAnyIn F n P md ops R fuel done a w := by
  intro fuel
  induction fuel with
  | zero => intro done a w hw h; exact ⟨h.1, hQ a w hw h.2⟩
  | succ fuel ih =>
    intro done a w hw h
    refine ⟨fun h0 => hQ a w hw (h.1 h0), fun i hi => ?_⟩
    have hs := h.2 i hi
    unfold qOpIn at hs
    unfold wpOpIn
    cases ho : ops[i]? with
    | none => rw [ho] at hs; exact ih _ _ _ hw hs
    | some o =>
      rw [ho] at hs
      obtain ⟨ha, hs⟩ := hs
      by_cases hn : Region.wanted o (yielded ops a.tmps) = true
      · simp only [hn, if_true] at hs ⊢
        exact round_op (hd i o ho) hw (fun b v hv k => ih _ b v hv k) ha hs
      · simp only [hn] at hs ⊢
        exact ⟨ha w hw, ih _ _ _ hw hs⟩
theorem round_region {id : Nat} {R : Exit → Act → World → Prop} {a : Act} {w : World} {l : List Oper} (hd : l.all calmO = true) (hm : P.follows .mixedOrders = true) (hB : Region.lexB .any l.toArray = true) (hC : C { w with drawn := w.drawn + 1 })
    (h : wpQuietIn F n P l.toArray C (fun b => ∀ v, C v → R .normal b v) l a) : (Code.region id l.toArray true).wpIn F n P R a w := by
  simp only [Region.lexB, Bool.and_eq_true] at hB
  refine wpIn_region_any hm (round_any (Q := fun b => ∀ v, C v → R .normal b v) (fun i o ho => ?_) (fun _ v hv k => k v hv) _ _ _ _ hC ?_)
  · exact List.all_eq_true.1 hd o (List.mem_of_getElem? (by simpa using ho))
  · have := wpAnyQIn_lex (F := F) (n := n) (C := C) (md := .any) hB.1 l 0 (Array.replicate l.toArray.size false) a (by simp) (by simpa using hB.2) h
    simpa using this
/-- After some draws. -/
theorem round_drew {id : Nat} {R : Exit → Act → World → Prop} {a : Act} {w : World} {l : List Oper} (hd : l.all calmO = true) (hm : P.follows .mixedOrders = true) (hB : Region.lexB .any l.toArray = true)
    (h : wpQuietIn F n P l.toArray (fun v => ∃ k, v = w.drewN k) (fun b => ∀ v, (∃ k, v = w.drewN k) → R .normal b v) l a) : (Code.region id l.toArray true).wpIn F n P R a w :=
  round_region (C := fun v => ∃ k, v = w.drewN k) hd hm hB ⟨1, rfl⟩ h
end
end Go.Proofs.YtaieafmgeheomaaDoor

