/- The library's stable sort: blocks that are sorted, and what merging them two by two gives: plain facts on arrays. -/
import Derived.Test.YtnkomnmdmbegiaaStabMath04
namespace Go.Proofs.Ytnkomnmdmbegiaa
open Go.Sort
namespace L04
variable {α : Type} [Inhabited α] {lx : α → α → Bool} {ah : α → α → Prop}

/-- Insertion by one order is insertion by another one, where they agree on what is compared. -/
theorem insInner_same {lt : α → α → Bool} (hx : ∀ x y, ah x y → lt y x = lx y x) (a : Nat) : ∀ (j : Nat) (d : Array α), j < d.size → (∀ p, a ≤ p → p < j → ah d[p]! d[j]!) → insInner lt a j d = insInner lx a j d
  | 0, d, _, _ => by unfold insInner; rfl
  | j + 1, d, hj, h => by
    unfold insInner
    by_cases hja : j + 1 > a
    · rw [hx _ _ (h j (by omega) (by omega))]
      have e : ∀ p, a ≤ p → p < j → ah (swp d (j + 1) j)[p]! (swp d (j + 1) j)[j]! := fun p h1 h2 => by
        rw [swp_get d hj (by omega), swp_get d hj (by omega), if_neg (by omega), if_neg (by omega), if_pos rfl]
        exact h p h1 (by omega)
      rw [insInner_same hx a j (swp d (j + 1) j) (by rw [swp_size]; omega) e]
    · have : decide (j + 1 > a) = false := decide_eq_false hja
      rw [this, Bool.false_and, Bool.false_and]
      rfl

theorem insOuter_same {lt : α → α → Bool} (hS : SWO lx) (hx : ∀ x y, ah x y → lt y x = lx y x) (a b : Nat) :
    ∀ (N i : Nat) (d0 d : Array α), b - i ≤ N → a < i → b ≤ d.size → (∀ p q, a ≤ p → p < q → q < b → ah d0[p]! d0[q]!) → PermIn a i d0 d → insOuter lt a b i d = insOuter lx a b i d := by
  intro N
  induction N with
  | zero =>
    intro i d0 d hN hai hb h0 hp
    rw [Go.Proofs.insOuter_stop _ _ _ _ _ (show ¬ i < b by omega), Go.Proofs.insOuter_stop _ _ _ _ _ (show ¬ i < b by omega)]
  | succ N ih =>
    intro i d0 d hN hai hb h0 hp
    by_cases hib : i < b
    · have e1 : insInner lt a i d = insInner lx a i d := by
        refine insInner_same hx a i d (by omega) fun p h1 h2 => ?_
        rw [hp.2.1 i (Or.inr (Nat.le_refl _))]
        exact permIn_all d0 d a i (fun x => ah x d0[i]!) (by rw [← hp.1]; omega) hp (fun p h1 h2 => h0 p i h1 h2 hib) p h1 h2
      have hp2 : PermIn a (i + 1) d (insInner lx a i d) := (insInner_perm a i hib i d (by omega) (Nat.le_refl _) hb)
      have hp3 : PermIn a (i + 1) d0 (insInner lx a i d) := permIn_trans _ _ _ _ _ (permIn_mono d0 d a i a (i + 1) (Nat.le_refl _) (by omega) (by rw [← hp.1]; omega) hp) hp2
      rw [insOuter, if_pos hib, e1]
      conv => rhs; rw [insOuter, if_pos hib]
      exact ih (i + 1) d0 _ (by omega) (by omega) (by rw [hp2.1]; exact hb) h0 hp3
    · rw [Go.Proofs.insOuter_stop _ _ _ _ _ hib, Go.Proofs.insOuter_stop _ _ _ _ _ hib]
where
  insInner_perm (a i : Nat) (hib : i < b) : ∀ (j : Nat) (d : Array α), a ≤ j → j ≤ i → b ≤ d.size → PermIn a (i + 1) d (insInner lx a j d)
    | 0, d, _, _, _ => by unfold insInner; exact permIn_refl _ _ _
    | j + 1, d, haj, hji, hb => by
      unfold insInner
      split
      · rename_i hc
        simp only [Bool.and_eq_true, decide_eq_true_eq] at hc
        exact permIn_trans _ _ _ a (i + 1) (swp_permIn d a (i + 1) (j + 1) j haj (by omega) (by omega) (by omega) (by omega)) (insInner_perm a i hib j (swp d (j + 1) j) (by omega) (by omega) (by rw [swp_size]; exact hb))
      · exact permIn_refl _ _ _

theorem insertion_stable {lt : α → α → Bool} (hS : SWO lx) (hx : ∀ x y, ah x y → lt y x = lx y x) (a b : Nat) (d : Array α) (hab : a ≤ b) (hb : b ≤ d.size) (h0 : ∀ p q, a ≤ p → p < q → q < b → ah d[p]! d[q]!) :
    PermIn a b d (Sort.insertionSort lt d a b) ∧ SortedIn lx a b (Sort.insertionSort lt d a b) := by
  have e : Sort.insertionSort lt d a b = Sort.insertionSort lx d a b := by
    unfold Sort.insertionSort
    exact insOuter_same hS hx a b (b - (a + 1)) (a + 1) d d (Nat.le_refl _) (by omega) hb h0 (permIn_refl _ _ _)
  rw [e]
  exact insertionSort_holds hS d a b hab hb

/-- Sorted in blocks of B, up to e. -/
def SortedBy (lx : α → α → Bool) (B e : Nat) (d : Array α) : Prop := ∀ i j, i < j → j < e → i / B = j / B → lx d[j]! d[i]! = false
/-- What stands in an earlier block of B is ahead of what stands in a later one. -/
def OrderedBy (ah : α → α → Prop) (B n : Nat) (d : Array α) : Prop := ∀ i j, i < n → j < n → i / B < j / B → ah d[i]! d[j]!

theorem div_in {B c i : Nat} (h1 : B * c ≤ i) (h2 : i < B * c + B) : i / B = c :=
  Nat.div_eq_of_lt_le (by rwa [Nat.mul_comm]) (by rw [Nat.add_mul, Nat.one_mul, Nat.mul_comm]; exact h2)
theorem div_below {B c i : Nat} (hB : 0 < B) (h : i < B * c) : i / B < c := (Nat.div_lt_iff_lt_mul hB).2 (by rwa [Nat.mul_comm] at h)
theorem div_above {B c i : Nat} (hB : 0 < B) (h : B * c ≤ i) : c ≤ i / B := (Nat.le_div_iff_mul_le hB).2 (by rwa [Nat.mul_comm] at h)

theorem ordered_perm {B c b n : Nat} {d d' : Array α} (hB : 0 < B) (h : OrderedBy ah B n d) (hb : b ≤ B * c + B) (hbn : b ≤ n) (hn : n ≤ d.size) (p : PermIn (B * c) b d d') : OrderedBy ah B n d' := by
  intro i j hi hj hij
  by_cases ci : B * c ≤ i ∧ i < b
  · have cj : ¬ (B * c ≤ j ∧ j < b) := fun cj => by rw [div_in ci.1 (by omega), div_in cj.1 (by omega)] at hij; omega
    rw [p.2.1 j (by omega)]
    refine permIn_all d d' (B * c) b (fun x => ah x d[j]!) (by omega) p (fun x h1 h2 => h x j (by omega) hj ?_) i ci.1 ci.2
    rw [div_in h1 (by omega)]; rwa [div_in ci.1 (by omega)] at hij
  · rw [p.2.1 i (by omega)]
    by_cases cj : B * c ≤ j ∧ j < b
    · refine permIn_all d d' (B * c) b (fun x => ah d[i]! x) (by omega) p (fun x h1 h2 => h i x hi (by omega) ?_) j cj.1 cj.2
      rw [div_in h1 (by omega)]; rwa [div_in cj.1 (by omega)] at hij
    · rw [p.2.1 j (by omega)]
      exact h i j hi hj hij

theorem sortedBy_step {B c b : Nat} {d d' : Array α} (hB : 0 < B) (h : SortedBy lx B (B * c) d) (hb : b ≤ B * c + B) (p : PermIn (B * c) b d d') (q : SortedIn lx (B * c) b d') : SortedBy lx B b d' := by
  intro i j hij hj he
  by_cases cj : j < B * c
  · rw [p.2.1 i (by omega), p.2.1 j (by omega)]
    exact h i j hij cj he
  · have ej := div_in (show B * c ≤ j by omega) (by omega)
    have ci : B * c ≤ i := by
      rcases Nat.lt_or_ge i (B * c) with k | k
      · have := div_below hB k; omega
      · exact k
    exact q i j ci hij hj

/-- The blocks of one size, with those of an order of their own: two neighbours are two runs. -/
theorem runs_of {B c b n : Nat} {d dk : Array α} (hB : 0 < B) (hs : SortedBy lx B n d) (ho : OrderedBy ah B n d) (hm : B * c + B < b) (hb : b ≤ B * c + 2 * B) (hbn : b ≤ n) (hk : ∀ i, B * c ≤ i → dk[i]! = d[i]!) : Runs lx ah (B * c) (B * c + B) b dk := by
  refine ⟨fun i j h1 h2 h3 => ?_, fun i j h1 h2 h3 => ?_, fun i j h1 h2 h3 h4 => ?_⟩
  · rw [hk i h1, hk j (by omega)]
    exact hs i j h2 (by omega) (by rw [div_in h1 (by omega), div_in (by omega : B * c ≤ j) h3])
  · rw [hk i (by omega), hk j (by omega)]
    have e : ∀ x, B * c + B ≤ x → x < b → x / B = c + 1 := fun x k1 k2 => div_in (by rw [Nat.mul_add, Nat.mul_one]; exact k1) (by rw [Nat.mul_add, Nat.mul_one]; omega)
    exact hs i j h2 (by omega) (by rw [e i h1 (by omega), e j (by omega) h3])
  · rw [hk i h1, hk j (by omega)]
    have e : j / B = c + 1 := div_in (by rw [Nat.mul_add, Nat.mul_one]; exact h3) (by rw [Nat.mul_add, Nat.mul_one]; omega)
    exact ho i j (by omega) (by omega) (by rw [div_in h1 h2, e]; omega)

theorem sorted_whole {B n : Nat} {d : Array α} (hB : n ≤ B) (h : SortedBy lx B n d) : SortedIn lx 0 n d := by
  intro i j _ hij hj
  exact h i j hij hj (by rw [Nat.div_eq_of_lt (by omega), Nat.div_eq_of_lt (by omega)])
end L04
end Go.Proofs.Ytnkomnmdmbegiaa

