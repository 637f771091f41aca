/- Layer 8, plain: a font's steps, its rules, what they make; what is set, what is expanded. -/
import Derived.Test.YtijhabhnhglhgaaRefHas07
namespace Go.Proofs.Ytijhabhnhglhgaa
open Go.RowKit
namespace L08
open L07

/-- A step that comes: its place, or that it is not there. -/
abbrev StepAt (D : FontD) := { x : Option Nat // ∀ k, x = some k → k < D.ns }
/-- The steps from the place k on. -/
def walkS (D : FontD) : Nat → Nat → List (StepAt D)
  | 0, _ => []
  | f + 1, k => if h : k < D.ns then ⟨some k, fun _ e => by cases e; exact h⟩ :: (if 128 ≤ D.stp k 0 then [] else walkS D f (k + (D.stp k 0).toNat + 1)) else [⟨none, fun _ e => by cases e⟩]
/-- The steps of a character of this tag, and this remainder. -/
def seqS (D : FontD) (t r : Int) : List (StepAt D) := if t = 0 then [] else walkS D (D.ns + 2) r.toNat
def seqO (D : FontD) (t r : Int) : List (Option Nat) := (seqS D t r).map (·.1)
def seqC (D : FontD) (j : Nat) : List (Option Nat) := seqO D (D.chr j 4) (D.chr j 5)

theorem walkS_yes {D : FontD} {f k : Nat} (h : k < D.ns) : walkS D (f + 1) k = ⟨some k, fun _ e => by cases e; exact h⟩ :: (if 128 ≤ D.stp k 0 then [] else walkS D f (k + (D.stp k 0).toNat + 1)) := by
  rw [walkS, dif_pos h]
theorem walkS_no {D : FontD} {f k : Nat} (h : ¬ k < D.ns) : walkS D (f + 1) k = [⟨none, fun _ e => by cases e⟩] := by
  rw [walkS, dif_neg h]
theorem walkS_length {D : FontD} : ∀ (f k : Nat), (walkS D f k).length ≤ f
  | 0, _ => Nat.le_refl _
  | f + 1, k => by
    by_cases h : k < D.ns
    · rw [walkS_yes h]
      split
      · simp
      · have := walkS_length (D := D) f (k + (D.stp k 0).toNat + 1)
        simp only [List.length_cons]; omega
    · rw [walkS_no h]; simp
theorem seqS_length (D : FontD) (t r : Int) : (seqS D t r).length ≤ D.ns + 2 := by
  unfold seqS; split
  · simp
  · exact walkS_length _ _

/-- The rule of a second code, of these steps. -/
def ruleO (D : FontD) (b : Int) : List (Option Nat) → Option Nat
  | [] => none
  | none :: r => ruleO D b r
  | some k :: r => if D.stp k 1 = b then some k else ruleO D b r
def ruleD (D : FontD) (a b : Int) : Option Nat := ruleO D b (seqC D (a - D.first).toNat)
/-- A kern's place. -/
def kernP (D : FontD) (k : Nat) : Int := 256 * (D.stp k 2 - 128) + D.stp k 3
def opB (D : FontD) (k : Nat) : Bool := decide (D.stp k 2 = 0) || (decide (128 ≤ D.stp k 2) && decide (kernP D k < D.nk))
def mayB (D : FontD) (c : Int) (k : Nat) : Bool := decide (128 ≤ D.stp k 3) && (decide (c < D.stp k 3) && (decide (D.stp k 1 < 128) && hasB D (D.stp k 3)))

abbrev MapN := Int → Option (Int × Int)
abbrev RuN := Int → Bool
def ruN (D : FontD) (s : RuN) (k : Nat) : RuN := fun y => if y = D.stp k 1 then true else s y
def putN (D : FontD) (m : MapN) (c : Int) (k : Nat) : MapN := fun y => if y = D.stp k 3 then some (c, D.stp k 1) else m y
def learn1 (D : FontD) (c : Int) (s : MapN × RuN) : Option Nat → Option (MapN × RuN)
  | none => none
  | some k => if opB D k = true then
      (if D.stp k 2 = 0 ∧ s.2 (D.stp k 1) = false then
        (if (s.1 (D.stp k 3)).isSome = true ∨ mayB D c k = false then none else some (putN D s.1 c k, ruN D s.2 k))
      else some (s.1, ruN D s.2 k))
    else none
def learnL (D : FontD) (c : Int) : List (Option Nat) → MapN × RuN → Option (MapN × RuN)
  | [], s => some s
  | x :: r, s => (learn1 D c s x).bind (learnL D c r)
def learnC (D : FontD) (m : MapN) (j : Nat) : Option MapN := (learnL D (D.first + j) (seqC D j) (m, fun _ => false)).map (·.1)
def makeL (D : FontD) : Nat → Option MapN
  | 0 => some (fun _ => none)
  | j + 1 => (makeL D j).bind fun m => learnC D m j
def makeD (D : FontD) : Option MapN := if checkB D = true then makeL D D.nc else none

/-- The glyphs of a code so far, and the codes behind. -/
def glyL (D : FontD) : Int → List Int → List (Int × Int)
  | so, [] => [(so, 0)]
  | so, n :: r => match ruleD D so n with
    | some k => if D.stp k 2 = 0 then glyL D (D.stp k 3) r else (so, D.kd (kernP D k).toNat) :: glyL D n r
    | none => (so, 0) :: glyL D n r
def glyD (D : FontD) : List Int → List (Int × Int)
  | [] => []
  | a :: r => glyL D a r
def oneB (D : FontD) (c : Int) : Bool := decide (33 ≤ c ∧ c ≤ 126) && hasB D c
def setB (D : FontD) (l : List Int) : Bool := l.all (oneB D)
def exp1 (m : MapN) : Nat → Int → List Int
  | 0, c => [c]
  | f + 1, c => match m c with
    | none => [c]
    | some p => exp1 m f p.1 ++ [p.2]
def expC (m : MapN) (c : Int) : List Int := exp1 m 300 c
def expL (m : MapN) (l : List Int) : List Int := l.flatMap (expC m)

theorem learnL_snoc (D : FontD) (c : Int) (x : Option Nat) : ∀ (l : List (Option Nat)) (s : MapN × RuN), learnL D c (l ++ [x]) s = (learnL D c l s).bind fun s => learn1 D c s x
  | [], s => by simp [learnL]
  | y :: r, s => by
    simp only [List.cons_append, learnL]
    cases learn1 D c s y with
    | none => rfl
    | some s' => exact learnL_snoc D c x r s'
theorem learnL_append (D : FontD) (c : Int) (t : List (Option Nat)) : ∀ (l : List (Option Nat)) (s : MapN × RuN), learnL D c (l ++ t) s = (learnL D c l s).bind (learnL D c t)
  | [], s => by simp [learnL]
  | y :: r, s => by
    simp only [List.cons_append, learnL]
    cases learn1 D c s y with
    | none => rfl
    | some s' => exact learnL_append D c t r s'
/-- What fails once fails for good. -/
theorem learnL_fails {D : FontD} {c : Int} {l t : List (Option Nat)} {s : MapN × RuN} (h : learnL D c l s = none) (hp : l <+: t) : learnL D c t s = none := by
  obtain ⟨r, rfl⟩ := hp
  rw [learnL_append, h]; rfl

/-- What a map of a program that may be has. -/
structure Fine (D : FontD) (m : MapN) : Prop where
  key : ∀ c p, m c = some p → 128 ≤ c ∧ c < 256 ∧ 0 ≤ p.1 ∧ p.1 < c ∧ 0 ≤ p.2 ∧ p.2 < 128 ∧ hasB D c = true
theorem has_in {D : FontD} {c : Int} (h : hasB D c = true) : checkB D = true ∧ D.first ≤ c ∧ c < D.first + D.nc ∧ (c - D.first).toNat < D.nc := by
  simp only [hasB, Bool.and_eq_true, decide_eq_true_eq] at h
  exact ⟨h.1, h.2.1.1, h.2.1.2, by omega⟩
theorem has_lt {D : FontD} {c : Int} (h : hasB D c = true) : 0 ≤ c ∧ c < 256 := by
  obtain ⟨hc, h1, h2, _⟩ := has_in h
  have I := check_in hc
  have := I.first; have := I.nc
  omega

/-- What stays in what is learnt. -/
structure Grown (D : FontD) (c : Int) (s s' : MapN × RuN) : Prop where
  keeps : ∀ x p, s.1 x = some p → s'.1 x = some p
  ruled : ∀ b, s.2 b = true → s'.2 b = true
  fine : Fine D s.1 → Fine D s'.1
theorem Grown.refl (D : FontD) (c : Int) (s : MapN × RuN) : Grown D c s s := ⟨fun _ _ h => h, fun _ h => h, fun h => h⟩
theorem Grown.trans {D : FontD} {c : Int} {a b d : MapN × RuN} (h : Grown D c a b) (k : Grown D c b d) : Grown D c a d :=
  ⟨fun x p e => k.keeps x p (h.keeps x p e), fun b e => k.ruled b (h.ruled b e), fun f => k.fine (h.fine f)⟩
theorem learn1_some {D : FontD} {c : Int} {s s' : MapN × RuN} {x : Option Nat} (h : learn1 D c s x = some s') :
    ∃ k, x = some k ∧ opB D k = true ∧ s'.2 = ruN D s.2 k ∧ ((D.stp k 2 = 0 ∧ s.2 (D.stp k 1) = false ∧ s.1 (D.stp k 3) = none ∧ mayB D c k = true ∧ s'.1 = putN D s.1 c k) ∨ (¬ (D.stp k 2 = 0 ∧ s.2 (D.stp k 1) = false) ∧ s'.1 = s.1)) := by
  cases x with
  | none => cases h
  | some k =>
    refine ⟨k, rfl, ?_⟩
    simp only [learn1] at h
    split at h
    · rename_i ho
      split at h
      · rename_i hc
        split at h
        · cases h
        · rename_i hn
          cases h
          refine ⟨ho, rfl, .inl ⟨hc.1, hc.2, ?_, ?_, rfl⟩⟩
          · cases hm : s.1 (D.stp k 3) with
            | none => rfl
            | some p => exact absurd (.inl (by rw [hm]; rfl)) hn
          · cases hm : mayB D c k with
            | true => rfl
            | false => exact absurd (.inr hm) hn
      · rename_i hc
        cases h
        exact ⟨ho, rfl, .inr ⟨hc, rfl⟩⟩
    · cases h
theorem may_in {D : FontD} {c : Int} {k : Nat} (h : mayB D c k = true) : 128 ≤ D.stp k 3 ∧ c < D.stp k 3 ∧ D.stp k 1 < 128 ∧ hasB D (D.stp k 3) = true := by
  simp only [mayB, Bool.and_eq_true, decide_eq_true_eq] at h
  exact h
theorem learn1_grown {D : FontD} {c : Int} {s s' : MapN × RuN} {x : Option Nat} (h : learn1 D c s x = some s') (hx : ∀ k, x = some k → k < D.ns) (hD : checkB D = true) (hc : 0 ≤ c) : Grown D c s s' := by
  obtain ⟨k, rfl, _, h2, h3⟩ := learn1_some h
  refine ⟨fun y p e => ?_, fun b e => ?_, fun f => ⟨fun y p e => ?_⟩⟩
  · rcases h3 with ⟨_, _, hn, _, h1⟩ | ⟨_, h1⟩
    · rw [h1, putN]
      by_cases hy : y = D.stp k 3
      · subst hy; rw [hn] at e; cases e
      · rw [if_neg hy]; exact e
    · rw [h1]; exact e
  · rw [h2, ruN]; split <;> first | rfl | exact e
  · rcases h3 with ⟨_, _, hn, hm, h1⟩ | ⟨_, h1⟩
    · rw [h1, putN] at e
      by_cases hy : y = D.stp k 3
      · rw [if_pos hy] at e
        cases e
        subst hy
        obtain ⟨m1, m2, m3, m4⟩ := may_in hm
        have hs := (check_in hD).stp k (hx k rfl)
        have := has_lt m4
        exact ⟨m1, this.2, hc, m2, hs.2.1.1, m3, m4⟩
      · rw [if_neg hy] at e; exact f.key y p e
    · rw [h1] at e; exact f.key y p e
theorem learnL_grown {D : FontD} {c : Int} (hD : checkB D = true) (hc : 0 ≤ c) : ∀ (l : List (Option Nat)) (s s' : MapN × RuN), (∀ x ∈ l, ∀ k, x = some k → k < D.ns) → learnL D c l s = some s' → Grown D c s s'
  | [], s, s', _, h => by cases h; exact Grown.refl _ _ _
  | x :: r, s, s', hx, h => by
    simp only [learnL] at h
    cases h1 : learn1 D c s x with
    | none => rw [h1] at h; cases h
    | some t =>
      rw [h1] at h
      exact (learn1_grown h1 (hx x (by simp)) hD hc).trans (learnL_grown hD hc r t s' (fun y hy => hx y (by simp [hy])) h)
/-- All that is learnt may be; and what a rule makes is learnt. -/
theorem learnL_all {D : FontD} {c : Int} : ∀ (l : List (Option Nat)) (s s' : MapN × RuN), learnL D c l s = some s' → ∀ x ∈ l, ∃ k, x = some k ∧ opB D k = true
  | [], s, s', _ => fun x hx => by simp at hx
  | y :: r, s, s', h => by
    simp only [learnL] at h
    cases h1 : learn1 D c s y with
    | none => rw [h1] at h; cases h
    | some t =>
      rw [h1] at h
      intro x hx
      rcases List.mem_cons.1 hx with rfl | hx
      · obtain ⟨k, e, ho, _⟩ := learn1_some h1
        exact ⟨k, e, ho⟩
      · exact learnL_all r t s' h x hx
theorem learnL_rule {D : FontD} {c : Int} (hD : checkB D = true) (hc : 0 ≤ c) (b : Int) (k : Nat) (hop : D.stp k 2 = 0) : ∀ (l : List (Option Nat)) (s s' : MapN × RuN), (∀ x ∈ l, ∀ k, x = some k → k < D.ns) → learnL D c l s = some s' → s.2 b = false → ruleO D b l = some k → s'.1 (D.stp k 3) = some (c, b)
  | [], s, s', _, _, _, hr => by cases hr
  | x :: r, s, s', hx, h, hb, hr => by
    simp only [learnL] at h
    cases h1 : learn1 D c s x with
    | none => rw [h1] at h; cases h
    | some t =>
      rw [h1] at h
      obtain ⟨k', rfl, _, h2, h3⟩ := learn1_some h1
      simp only [ruleO] at hr
      by_cases hk : D.stp k' 1 = b
      · rw [if_pos hk] at hr
        cases hr
        subst hk
        rcases h3 with ⟨_, _, _, _, h1'⟩ | ⟨hn, _⟩
        · refine (learnL_grown hD hc r t s' (fun y hy => hx y (by simp [hy])) h).keeps _ _ ?_
          rw [h1', putN, if_pos rfl]
        · exact absurd ⟨hop, hb⟩ hn
      · rw [if_neg hk] at hr
        refine learnL_rule hD hc b k hop r t s' (fun y hy => hx y (by simp [hy])) h ?_ hr
        rw [h2, ruN, if_neg (fun e => hk e.symm)]
        exact hb
theorem seqC_lt (D : FontD) (j : Nat) : ∀ x ∈ seqC D j, ∀ k, x = some k → k < D.ns := by
  intro x hx k e
  obtain ⟨y, _, rfl⟩ := List.mem_map.1 hx
  exact y.2 k e

/-- A program that may be. -/
structure Good (D : FontD) (m : MapN) : Prop where
  check : checkB D = true
  fine : Fine D m
  all : ∀ j, j < D.nc → ∀ x ∈ seqC D j, ∃ k, x = some k ∧ opB D k = true
  rule : ∀ j, j < D.nc → ∀ b k, ruleO D b (seqC D j) = some k → D.stp k 2 = 0 → m (D.stp k 3) = some (D.first + j, b)
theorem makeL_good {D : FontD} (hD : checkB D = true) : ∀ (n : Nat) (m : MapN), makeL D n = some m → Fine D m ∧ (∀ j, j < n → ∀ x ∈ seqC D j, ∃ k, x = some k ∧ opB D k = true) ∧
    ∀ j, j < n → ∀ b k, ruleO D b (seqC D j) = some k → D.stp k 2 = 0 → m (D.stp k 3) = some (D.first + j, b)
  | 0, m, h => by
    cases h
    exact ⟨⟨fun _ _ e => by cases e⟩, fun j hj => absurd hj (by omega), fun j hj => absurd hj (by omega)⟩
  | n + 1, m, h => by
    simp only [makeL] at h
    cases h1 : makeL D n with
    | none => rw [h1] at h; cases h
    | some m1 =>
      rw [h1] at h
      obtain ⟨f1, a1, r1⟩ := makeL_good hD n m1 h1
      simp only [Option.bind_some, learnC] at h
      cases h2 : learnL D (D.first + n) (seqC D n) (m1, fun _ => false) with
      | none => rw [h2] at h; cases h
      | some s =>
        rw [h2] at h
        cases h
        have hc : 0 ≤ D.first + (n : Int) := by have := (check_in hD).first; omega
        have G := learnL_grown hD hc _ _ _ (seqC_lt D n) h2
        refine ⟨G.fine f1, fun j hj => ?_, fun j hj b k hr hop => ?_⟩
        · by_cases e : j = n
          · subst e; exact learnL_all _ _ _ h2
          · exact a1 j (by omega)
        · by_cases e : j = n
          · subst e; exact learnL_rule hD hc b k hop _ _ _ (seqC_lt D j) h2 rfl hr
          · exact G.keeps _ _ (r1 j (by omega) b k hr hop)
theorem make_good {D : FontD} {m : MapN} (h : makeD D = some m) : Good D m := by
  unfold makeD at h
  split at h
  · rename_i hD
    obtain ⟨f, a, r⟩ := makeL_good hD _ _ h
    exact ⟨hD, f, a, r⟩
  · cases h
theorem rule_mem {D : FontD} {b : Int} {k : Nat} : ∀ {l : List (Option Nat)}, ruleO D b l = some k → some k ∈ l ∧ D.stp k 1 = b
  | [], h => by cases h
  | none :: r, h => by
    obtain ⟨h1, h2⟩ := rule_mem (l := r) h
    exact ⟨by simp [h1], h2⟩
  | some k' :: r, h => by
    simp only [ruleO] at h
    split at h
    · cases h; exact ⟨by simp, by assumption⟩
    · obtain ⟨h1, h2⟩ := rule_mem (l := r) h
      exact ⟨by simp [h1], h2⟩
/-- Of a rule: it is there, and it may be. -/
theorem Good.step {D : FontD} {m : MapN} (G : Good D m) {a b : Int} {k : Nat} (ha : hasB D a = true) (h : ruleD D a b = some k) :
    k < D.ns ∧ D.stp k 1 = b ∧ opB D k = true ∧ (D.stp k 2 = 0 → m (D.stp k 3) = some (a, b) ∧ hasB D (D.stp k 3) = true) ∧ (D.stp k 2 ≠ 0 → 0 ≤ kernP D k ∧ kernP D k < D.nk ∧ kernP D k < 256) := by
  obtain ⟨_, h1, h2, h3⟩ := has_in ha
  obtain ⟨hm, hb⟩ := rule_mem h
  have hk := seqC_lt D _ _ hm k rfl
  obtain ⟨k', e, ho⟩ := G.all _ h3 _ hm
  cases e
  refine ⟨hk, hb, ho, fun h0 => ?_, fun h0 => ?_⟩
  · have := G.rule _ h3 b k h h0
    rw [show D.first + ((a - D.first).toNat : Int) = a by omega] at this
    exact ⟨this, (G.fine.key _ _ this).2.2.2.2.2.2⟩
  · simp only [opB, Bool.or_eq_true, Bool.and_eq_true, decide_eq_true_eq] at ho
    have hs := (check_in G.check).stp k hk
    have hn := (check_in G.check).nk
    rcases ho with ho | ⟨o1, o2⟩
    · exact absurd ho h0
    · refine ⟨?_, o2, by omega⟩
      unfold kernP
      omega
end L08
end Go.Proofs.Ytijhabhnhglhgaa

