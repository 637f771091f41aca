/- Structs as arguments: by value, with any fields of one cell each; slices of structs of integers, and of integers, as fields of them. Any program. -/
import Derived.Test.YtmmgmcfhlhghoaaRowF
import Derived.Deep.Slices
import Derived.Deep.Fields
import Derived.ChangeSame
namespace Go.Proofs.Ytmmgmcfhlhghoaa
open Go.ChangeShapes Go.WideShapes Go.ChangeAt Go.RowKit Go.Deep

section
variable {H : Type} {enc : TypeId × Value → H} {P : Program} {W : World} {base : Nat}

/-- A struct by value: what each field reads as. -/
theorem arg_fields {t : TypeId} {fs : Array Field} {v : Value} {d : DataW H} {p : List MemPlace} (hs : P.underlying t = some (.struct fs)) (hone : oneCellFields P fs = true) (hC : P.cellsOf t = fs.size)
    (hv : Value.okWide P W .any base t v) (h : DataW.Trod enc P W 0 (fun _ => true) true t v d p) :
    ∃ cs : Array Value, v = .agg cs ∧ cs.size = fs.size ∧ ∀ (j : Nat) (f : Field), fs[j]? = some f → ∃ u n y, cs[j]? = some u ∧ DataW.trod enc P W 0 (fun _ => true) true n f.type [u] = some y := by
  obtain ⟨cs, rfl, hsz⟩ := okWide_struct hs hv
  rw [hC] at hsz
  obtain ⟨fuel, hf⟩ := h
  obtain ⟨xs, n, _, _, _, hlen, hg⟩ := DataW.trod_struct hs hf
  refine ⟨cs, rfl, hsz, fun j f hj => ?_⟩
  obtain ⟨ho, hk⟩ := hone_of hone j f hj
  have hjl : j < fs.size := (Array.getElem?_eq_some_iff.1 hj).1
  have hjc : j < cs.size := by omega
  have h1 := hg j f hj
  rw [ho, hk] at h1
  have e : ((Value.agg cs).cells.toList.drop j).take 1 = [cs[j]] := by
    have e0 : (Value.agg cs).cells.toList = cs.toList := rfl
    rw [e0, List.drop_eq_getElem_cons (by simpa using hjc)]
    simp
  rw [e] at h1
  exact ⟨cs[j], n, xs[j]'(by omega), Array.getElem?_eq_getElem hjc, h1.trans (List.getElem?_eq_getElem (by omega))⟩

/-- A slice of structs of k integers each reads as f. -/
def SeenN (k : Nat) (w : World) (A : Option Addr) (n : Nat) (f : Nat → Nat → Int) : Prop :=
  ∀ i, i < n → ∀ j, j < k → ∃ ad, A = some ad ∧ ad.block < w.heap.size ∧ w.cell? (ad.add (i * k + j)) = some (.int .i64 (f i j))
theorem SeenN.ext {k : Nat} {w w' : World} {A : Option Addr} {n : Nat} {f : Nat → Nat → Int} (h : SeenN k w A n f) (x : Ext w w') : SeenN k w' A n f := fun i hi j hj => by
  obtain ⟨ad, e, hb, hc⟩ := h i hi j hj
  exact ⟨ad, e, x.grows _ hb, x.at hc⟩
theorem SeenN.nil {k : Nat} {w : World} {A : Option Addr} {f : Nat → Nat → Int} : SeenN k w A 0 f := fun i hi => absurd hi (by omega)
theorem SeenN.congr {k : Nat} {w : World} {A : Option Addr} {n : Nat} {f g : Nat → Nat → Int} (h : SeenN k w A n f) (e : ∀ i, i < n → ∀ j, j < k → f i j = g i j) : SeenN k w A n g := fun i hi j hj => by rw [← e i hi j hj]; exact h i hi j hj

/-- A field that is a slice of integers. -/
theorem field_ints {t e : TypeId} {fuel : Nat} {v : Value} {y : DataW H × List MemPlace} (ht : P.underlying t = some (.slice e)) (he : P.underlying e = some (.int .i64)) (hc : P.cellsOf e = 1)
    (h : DataW.trod enc P W 0 (fun _ => true) true fuel t [v] = some y) :
    ∃ (A : Option Addr) (n c : Nat) (f : Nat → Int), v = .slice A n c ∧ n ≤ c ∧ c ≤ maxLen ∧ (∀ j, -9223372036854775808 ≤ f j ∧ f j ≤ 9223372036854775807) ∧ SeenF W A n f := by
  rcases open_ints ht he hc h with ⟨hcs, _⟩ | ⟨a, n, c, zs, hcs, _, hl, hm, hz, _, hcell, hw⟩
  · simp only [List.cons.injEq, and_true] at hcs
    exact ⟨none, 0, 0, fun _ => 0, hcs, by simp, by simp, fun _ => by simp, SeenF.none⟩
  · simp only [List.cons.injEq, and_true] at hcs
    simp at hz
    refine ⟨some a, n, c, fun j => zs.getD j 0, hcs, hl, hm, fun j => ?_, fun j hj => ?_⟩
    · by_cases hj : j < zs.length
      · have := hw zs[j] (List.getElem_mem hj)
        simp only [Lit.wf, IntKind.min, IntKind.max, IntKind.signed, IntKind.bits, Bool.and_eq_true, decide_eq_true_eq, if_true] at this
        simp [List.getD, hj]
        omega
      · simp [List.getD, List.getElem?_eq_none (Nat.not_lt.1 hj)]
    · have h1 := hcell j (by omega)
      refine ⟨a, rfl, ?_, h1⟩
      have := block_lt_of_cell h1
      rwa [addr_block] at this

/-- What a cell holds as a number. -/
def numAt (w : World) (a : Addr) : Int := match w.cell? a with
  | some (.int _ n) => n
  | _ => 0

/-- A field, or an argument, that is a slice of structs of integers. -/
theorem field_rows {t e : TypeId} {fs : Array Field} {fuel : Nat} {v : Value} {y : DataW H × List MemPlace} (ht : P.underlying t = some (.slice e)) (he : P.underlying e = some (.struct fs))
    (hone : oneCellFields P fs = true) (hC : P.cellsOf e = fs.size) (hint : ∀ (j : Nat) (f : Field), fs[j]? = some f → P.underlying f.type = some (.int .i64))
    (h : DataW.trod enc P W 0 (fun _ => true) true fuel t [v] = some y) :
    ∃ (A : Option Addr) (n c : Nat) (f : Nat → Nat → Int), v = .slice A n c ∧ n ≤ c ∧ c ≤ maxLen ∧ (∀ i j, i < n → j < fs.size → -9223372036854775808 ≤ f i j ∧ f i j ≤ 9223372036854775807) ∧ SeenN fs.size W A n f := by
  rcases open_slice ht h with ⟨hcs, _⟩ | ⟨a, n, c, m, q, D, Pl, hcs, _, hl, hm, hmm, _, hi⟩
  · simp only [List.cons.injEq, and_true] at hcs
    exact ⟨none, 0, 0, fun _ _ => 0, hcs, by simp, by simp, fun _ _ h => absurd h (by omega), SeenN.nil⟩
  · simp only [List.cons.injEq, and_true] at hcs
    simp at hmm
    have each : ∀ i, i < n → ∀ j, j < fs.size → ∃ z, W.cell? (a.add (i * fs.size + j)) = some (.int .i64 z) ∧ (Lit.int .i64 z).wf = true := fun i hin j hj => by
      obtain ⟨cs', hc, ht'⟩ := hi i (by omega)
      rw [hC] at hc
      obtain ⟨_, hcl, hat⟩ := World.cells?_some hc
      obtain ⟨xs, q', _, _, _, hlen, hg⟩ := DataW.trod_struct he ht'
      have hf := Array.getElem?_eq_getElem hj
      obtain ⟨ho, hk⟩ := hone_of hone j _ hf
      have h1 := hg j _ hf
      rw [ho, hk, List.drop_eq_getElem_cons (by omega), List.take_succ_cons, List.take_zero, List.getElem?_eq_getElem (by omega)] at h1
      obtain ⟨z, e1, _, wz⟩ := DataW.trod_int (hint j _ hf) h1
      simp only [List.cons.injEq, and_true] at e1
      have h2 := hat j hj
      rw [Go.Deep.add_add, List.getElem?_eq_getElem (by omega), e1] at h2
      exact ⟨z, h2, wz⟩
    refine ⟨some a, n, c, fun i j => numAt W (a.add (i * fs.size + j)), hcs, hl, hm, fun i j hin hj => ?_, fun i hin j hj => ?_⟩
    · obtain ⟨z, hz, wz⟩ := each i hin j hj
      simp only [Lit.wf, IntKind.min, IntKind.max, IntKind.signed, IntKind.bits, Bool.and_eq_true, decide_eq_true_eq, if_true] at wz
      simp [numAt, hz]
      omega
    · obtain ⟨z, hz, _⟩ := each i hin j hj
      refine ⟨a, rfl, ?_, by rw [hz]; simp [numAt, hz]⟩
      have := block_lt_of_cell hz
      rwa [addr_block] at this
end
end Go.Proofs.Ytmmgmcfhlhghoaa

