/- Sums, counts, ranks: the plain facts of layer 4. -/
import Derived.Sort.LotA
namespace Go.Proofs.Ytnkomnmdmbegiaa
open Go.Sort
namespace L04

def sumF (f : Nat → Int) : Nat → Int
  | 0 => 0
  | n + 1 => sumF f n + f n
def cntF (p : Nat → Bool) : Nat → Nat
  | 0 => 0
  | n + 1 => cntF p n + if p n = true then 1 else 0

theorem sumF_congr {f g : Nat → Int} : ∀ (n : Nat), (∀ j, j < n → f j = g j) → sumF f n = sumF g n
  | 0, _ => rfl
  | n + 1, h => by rw [sumF, sumF, sumF_congr n (fun j k => h j (by omega)), h n (by omega)]
theorem cntF_congr {f g : Nat → Bool} : ∀ (n : Nat), (∀ j, j < n → f j = g j) → cntF f n = cntF g n
  | 0, _ => rfl
  | n + 1, h => by rw [cntF, cntF, cntF_congr n (fun j k => h j (by omega)), h n (by omega)]
theorem sumF_bounds {f : Nat → Int} {M : Int} : ∀ (n : Nat), (∀ j, j < n → 0 ≤ f j ∧ f j ≤ M) → 0 ≤ sumF f n ∧ sumF f n ≤ M * n
  | 0, _ => by simp [sumF]
  | n + 1, h => by
    have ih := sumF_bounds n (fun j k => h j (by omega))
    have hn := h n (by omega)
    rw [sumF]
    have e : M * ((n + 1 : Nat) : Int) = M * n + M := by rw [Int.natCast_add, Int.mul_add]; simp
    rw [e]
    generalize M * (n : Int) = X at *
    omega
theorem sumF_nonneg {f : Nat → Int} : ∀ (n : Nat), (∀ j, j < n → 0 ≤ f j) → 0 ≤ sumF f n
  | 0, _ => by simp [sumF]
  | n + 1, h => by
    have := sumF_nonneg n (fun j k => h j (by omega))
    have := h n (by omega)
    rw [sumF]; omega
theorem sumF_one {f : Nat → Int} : ∀ (n i : Nat), (∀ j, j < n → 0 ≤ f j) → i < n → f i ≤ sumF f n
  | 0, _, _, h => by omega
  | n + 1, i, h, hi => by
    have h0 := sumF_nonneg n (fun j k => h j (by omega))
    have hn := h n (by omega)
    rw [sumF]
    by_cases e : i = n
    · subst e; omega
    · have := sumF_one n i (fun j k => h j (by omega)) (by omega); omega
theorem sumF_pos {f : Nat → Int} (n : Nat) (h : ∀ j, j < n → 0 ≤ f j) : 0 < sumF f n ↔ ∃ i, i < n ∧ 0 < f i := by
  constructor
  · intro hp
    induction n with
    | zero => simp [sumF] at hp
    | succ n ih =>
      rw [sumF] at hp
      by_cases c : 0 < f n
      · exact ⟨n, by omega, c⟩
      · have := h n (by omega)
        obtain ⟨i, h1, h2⟩ := ih (fun j k => h j (by omega)) (by omega)
        exact ⟨i, by omega, h2⟩
  · rintro ⟨i, h1, h2⟩
    have := sumF_one n i h h1
    omega
theorem sumF_add (f g : Nat → Int) : ∀ n, sumF (fun j => f j + g j) n = sumF f n + sumF g n
  | 0 => rfl
  | n + 1 => by rw [sumF, sumF, sumF, sumF_add f g n]; omega
theorem sumF_mul (c : Int) (f : Nat → Int) : ∀ n, sumF (fun j => c * f j) n = c * sumF f n
  | 0 => by simp [sumF]
  | n + 1 => by rw [sumF, sumF, sumF_mul c f n, Int.mul_add]
theorem sumF_cnt (p : Nat → Bool) : ∀ n, sumF (fun j => if p j = true then 1 else 0) n = cntF p n
  | 0 => rfl
  | n + 1 => by
    rw [sumF, cntF, sumF_cnt p n]
    by_cases h : p n = true <;> simp [h]
theorem cntF_le (p : Nat → Bool) : ∀ n, cntF p n ≤ n
  | 0 => Nat.le_refl _
  | n + 1 => by have := cntF_le p n; rw [cntF]; split <;> omega
theorem cntF_mono {p q : Nat → Bool} : ∀ n, (∀ j, j < n → p j = true → q j = true) → cntF p n ≤ cntF q n
  | 0, _ => Nat.le_refl _
  | n + 1, h => by
    have := cntF_mono n (fun j k => h j (by omega))
    rw [cntF, cntF]
    by_cases c : p n = true
    · rw [if_pos c, if_pos (h n (by omega) c)]; omega
    · rw [if_neg c]; omega
theorem cntF_lt {p q : Nat → Bool} (n i : Nat) (h : ∀ j, j < n → p j = true → q j = true) (hi : i < n) (h1 : p i = false) (h2 : q i = true) : cntF p n < cntF q n := by
  induction n with
  | zero => omega
  | succ n ih =>
    have m := cntF_mono n (fun j k => h j (Nat.lt_succ_of_lt k))
    rw [cntF, cntF]
    by_cases e : i = n
    · subst e
      rw [h1, h2]
      simp
      omega
    · have := ih (fun j k => h j (by omega)) (by omega)
      by_cases c : p n = true
      · rw [if_pos c, if_pos (h n (by omega) c)]; omega
      · rw [if_neg c]; split <;> omega
theorem cntF_below {p : Nat → Bool} {q : Nat} : ∀ n, q ≤ n → (∀ k, k < n → (p k = true ↔ k < q)) → cntF p n = q
  | 0, h, _ => by have : q = 0 := by omega
                  subst this; rfl
  | n + 1, h, hp => by
    rw [cntF]
    by_cases e : q = n + 1
    · subst e
      rw [cntF_below (q := n) n (Nat.le_refl _) (fun k hk => ⟨fun _ => hk, fun _ => (hp k (by omega)).2 (by omega)⟩), if_pos ((hp n (by omega)).2 (by omega))]
    · rw [cntF_below n (by omega) (fun k hk => hp k (by omega)), if_neg (fun c => by have := (hp n (by omega)).1 c; omega)]
      rfl
theorem cntF_range (p : Nat → Bool) : ∀ n, cntF p n = (List.range n).countP p
  | 0 => rfl
  | n + 1 => by
    rw [cntF, List.range_succ, List.countP_append, cntF_range p n]
    simp [List.countP_cons]

/-! ### Pairs in their order: the greater number first, of one number the lesser place first. -/
def lx (x y : Int × Int) : Bool := decide (y.1 < x.1 ∨ (x.1 = y.1 ∧ x.2 < y.2))
def ah (x y : Int × Int) : Prop := x.2 < y.2
theorem lx_swo : SWO lx where
  irrefl := fun x => by simp [lx]
  trans := fun x y z h1 h2 => by
    simp only [lx, decide_eq_true_eq] at *
    omega
  ntrans := fun x y z h1 h2 => by
    simp only [lx, decide_eq_false_iff_not] at *
    omega
theorem lx_tri {x y : Int × Int} (h : lx y x = false) : lx x y = true ∨ x = y := by
  simp only [lx, decide_eq_false_iff_not, decide_eq_true_eq] at *
  by_cases c : x.1 = y.1 ∧ x.2 = y.2
  · exact .inr (Prod.ext c.1 c.2)
  · left; omega

/-- How many stand ahead of i, by r. -/
def rankF (r : Nat → Int) (n i : Nat) : Nat := cntF (fun k => decide (r i < r k ∨ (r k = r i ∧ k < i))) n
/-- The row of pairs. -/
def pairs (r : Nat → Int) (n : Nat) : Array (Int × Int) := (Array.range n).map fun j => (r j, (j : Int))
@[simp] theorem size_pairs (r : Nat → Int) (n : Nat) : (pairs r n).size = n := by simp [pairs]
theorem get_pairs (r : Nat → Int) (n j : Nat) (h : j < n) : (pairs r n)[j]! = (r j, (j : Int)) := by simp [pairs, h]
theorem list_pairs (r : Nat → Int) (n : Nat) : (pairs r n).toList = (List.range n).map fun j => (r j, (j : Int)) := by simp [pairs]
theorem rank_count (r : Nat → Int) (n i : Nat) : rankF r n i = (pairs r n).toList.countP (fun x => lx x (r i, (i : Int))) := by
  rw [list_pairs, List.countP_map, rankF, cntF_range]
  congr 1
  funext k
  simp only [lx, Function.comp]
  congr 1
  simp only [eq_iff_iff]
  omega

theorem toList_get {α : Type} [Inhabited α] (d : Array α) (n : Nat) (h : d.size = n) : d.toList = (List.range n).map fun j => d[j]! := by
  subst h
  apply List.ext_getElem
  · simp
  · intro i h1 h2
    simp at h1
    simp [h1]

theorem perm_toList {d d' : Array (Int × Int)} {n : Nat} (hs : d.size = n) (h : PermIn 0 n d d') : d'.toList.Perm d.toList := by
  have h2 := h.2.2
  have e1 : d'.extract 0 n = d' := by rw [← hs, ← h.1]; simp
  have e2 : d.extract 0 n = d := by rw [← hs]; simp
  rwa [e1, e2] at h2

/-- What the pairs are, once they are sorted. -/
theorem sorted_rank {r : Nat → Int} {n : Nat} {d : Array (Int × Int)} (hp : PermIn 0 n (pairs r n) d) (hs : SortedIn lx 0 n d) :
    d.size = n ∧ ∀ q, q < n → ∃ i, i < n ∧ d[q]! = (r i, (i : Int)) ∧ rankF r n i = q := by
  have hsz : d.size = n := by rw [hp.1]; simp
  have hl := perm_toList (size_pairs r n) hp
  have hnd : d.toList.Nodup := by
    refine (List.Perm.nodup_iff hl).2 ?_
    rw [list_pairs]
    rw [List.nodup_iff_pairwise_ne, List.pairwise_map]
    refine List.Pairwise.imp ?_ (List.nodup_iff_pairwise_ne.1 List.nodup_range)
    intro a b hab he
    simp only [Prod.mk.injEq] at he
    omega
  have hne : ∀ a b, a < b → b < n → d[a]! ≠ d[b]! := by
    intro a b hab hb he
    have h1 := List.pairwise_iff_getElem.1 (List.nodup_iff_pairwise_ne.1 hnd) a b (by simp; omega) (by simp; omega) hab
    apply h1
    rw [getElem!_pos d a (by omega), getElem!_pos d b (by omega)] at he
    simpa using he
  refine ⟨hsz, fun q hq => ?_⟩
  have hmem : d[q]! ∈ (pairs r n).toList := by
    refine hl.subset ?_
    rw [getElem!_pos d q (by omega)]
    simp
  rw [list_pairs, List.mem_map] at hmem
  obtain ⟨i, hi, he⟩ := hmem
  refine ⟨i, List.mem_range.1 hi, he.symm, ?_⟩
  rw [rank_count, ← hl.countP_eq, toList_get d n hsz, List.countP_map, ← cntF_range]
  refine cntF_below n (by omega) fun k hk => ?_
  simp only [Function.comp]
  rw [he]
  constructor
  · intro hlx
    rcases Nat.lt_trichotomy k q with c | c | c
    · exact c
    · subst c; rw [lx_swo.irrefl] at hlx; cases hlx
    · have := hs q k (by omega) c hk; rw [this] at hlx; cases hlx
  · intro c
    have h1 := hs k q (by omega) c hq
    rcases lx_tri h1 with h2 | h2
    · exact h2
    · exact absurd h2 (hne k q c hq)

/-- There is such an order. -/
theorem sorted_there (r : Nat → Int) (n : Nat) : ∃ d, PermIn 0 n (pairs r n) d ∧ SortedIn lx 0 n d :=
  ⟨_, insertionSort_holds lx_swo (pairs r n) 0 n (Nat.zero_le _) (by simp)⟩

theorem rank_lt (r : Nat → Int) (n i : Nat) (hi : i < n) : rankF r n i < n := by
  have h : rankF r n i < cntF (fun _ => true) n := cntF_lt n i (fun _ _ _ => rfl) hi (by simp) rfl
  have := cntF_le (fun _ => true) n
  omega
theorem rank_inj {r : Nat → Int} {n i k : Nat} (hi : i < n) (hk : k < n) (h : rankF r n i = rankF r n k) : i = k := by
  have key : ∀ i k, i < n → k < n → (r i < r k ∨ (r k = r i ∧ k < i)) → rankF r n k < rankF r n i := by
    intro i k hi hk hc
    refine cntF_lt n k (fun j _ hj => ?_) hk (by simp) (by simpa using hc)
    simp only [decide_eq_true_eq] at hj ⊢
    omega
  rcases Int.lt_trichotomy (r i) (r k) with c | c | c
  · have := key i k hi hk (.inl c); omega
  · rcases Nat.lt_trichotomy i k with e | e | e
    · have := key k i hk hi (.inr ⟨c, e⟩); omega
    · exact e
    · have := key i k hi hk (.inr ⟨c.symm, e⟩); omega
  · have := key k i hk hi (.inl c); omega

/-- So many have a rank below m. -/
theorem rank_below (r : Nat → Int) (n m : Nat) (hm : m ≤ n) : cntF (fun i => decide (rankF r n i < m)) n = m := by
  obtain ⟨d, hp, hs⟩ := sorted_there r n
  obtain ⟨hsz, hr⟩ := sorted_rank hp hs
  have hl := perm_toList (size_pairs r n) hp
  have e : cntF (fun i => decide (rankF r n i < m)) n = (pairs r n).toList.countP (fun x => decide ((pairs r n).toList.countP (fun y => lx y x) < m)) := by
    rw [cntF_range]
    conv => rhs; rw [list_pairs, List.countP_map]
    congr 1
    funext i
    simp only [Function.comp]
    rw [rank_count, list_pairs]
  rw [e, ← hl.countP_eq]
  conv => lhs; rw [toList_get d n hsz, List.countP_map, ← cntF_range]
  refine cntF_below n hm fun k hk => ?_
  simp only [Function.comp, decide_eq_true_eq]
  obtain ⟨i, hi, he, hk2⟩ := hr k hk
  rw [he, ← rank_count, hk2]

/-! ### Parts -/
def floorF (t : Int) (n : Nat) (f : Nat → Int) (i : Nat) : Int := t * f i / sumF f n
def restF (t : Int) (n : Nat) (f : Nat → Int) (i : Nat) : Int := t * f i % sumF f n
def leftF (t : Int) (n : Nat) (f : Nat → Int) : Int := t - sumF (floorF t n f) n
def partF (t : Int) (n : Nat) (f : Nat → Int) (i : Nat) : Int :=
  if t = 0 then 0 else floorF t n f i + if (rankF (restF t n f) n i : Int) < leftF t n f then 1 else 0
def MayP (t : Int) (n : Nat) (f : Nat → Int) : Prop := (0 ≤ t ∧ t ≤ 1073741823 ∧ n ≤ 300) ∧ (∀ j, j < n → 0 ≤ f j ∧ f j ≤ 1073741823) ∧ (t = 0 ∨ 0 < sumF f n)
instance (t : Int) (n : Nat) (f : Nat → Int) : Decidable (MayP t n f) := by unfold MayP; infer_instance

variable {t : Int} {n : Nat} {f : Nat → Int}

theorem left_rests (h : 0 < sumF f n) : sumF (restF t n f) n = sumF f n * leftF t n f := by
  have e : ∀ j, t * f j = sumF f n * floorF t n f j + restF t n f j := fun j => (Int.mul_ediv_add_emod (t * f j) (sumF f n)).symm
  have h1 : sumF (fun j => t * f j) n = sumF (fun j => sumF f n * floorF t n f j + restF t n f j) n := sumF_congr n fun j _ => e j
  rw [sumF_mul, sumF_add, sumF_mul] at h1
  unfold leftF
  rw [Int.mul_sub, Int.mul_comm (sumF f n) t]
  generalize sumF f n * sumF (floorF t n f) n = X at *
  generalize t * sumF f n = Y at *
  omega
theorem rest_bounds (h : 0 < sumF f n) (i : Nat) : 0 ≤ restF t n f i ∧ restF t n f i < sumF f n := ⟨Int.emod_nonneg _ (by omega), Int.emod_lt_of_pos _ h⟩
theorem left_nonneg (h : 0 < sumF f n) : 0 ≤ leftF t n f := by
  have h1 := left_rests (t := t) h
  have h2 := sumF_nonneg n (fun j _ => (rest_bounds (t := t) h j).1)
  rw [h1] at h2
  rcases Int.lt_or_le (leftF t n f) 0 with c | c
  · have := Int.mul_neg_of_pos_of_neg h c; omega
  · exact c
/-- So many ones there are at most as there are rests above 0. -/
theorem left_le (h : 0 < sumF f n) : leftF t n f ≤ (cntF (fun j => decide (0 < restF t n f j)) n : Int) := by
  have h1 := left_rests (t := t) h
  have key : ∀ m, m ≤ n → sumF (restF t n f) m ≤ sumF f n * (cntF (fun j => decide (0 < restF t n f j)) m : Int) := by
    intro m
    induction m with
    | zero => intro _; simp [sumF, cntF]
    | succ m ih =>
      intro hm
      have := ih (by omega)
      have hb := rest_bounds (t := t) h m
      rw [sumF, cntF]
      by_cases c : 0 < restF t n f m
      · simp only [decide_eq_true c, if_true]
        rw [Int.natCast_add, Int.mul_add]
        generalize sumF f n * (cntF (fun j => decide (0 < restF t n f j)) m : Int) = X at *
        simp
        omega
      · simp only [decide_eq_false c]
        simp
        generalize sumF f n * (cntF (fun j => decide (0 < restF t n f j)) m : Int) = X at *
        omega
  have h2 := key n (Nat.le_refl _)
  rw [h1] at h2
  exact Int.le_of_mul_le_mul_left h2 h
theorem left_le_n (h : 0 < sumF f n) : leftF t n f ≤ n := by
  have := left_le (t := t) h
  have := cntF_le (fun j => decide (0 < restF t n f j)) n
  omega
theorem floor_bounds (h : MayP t n f) (hp : 0 < sumF f n) (i : Nat) (hi : i < n) : 0 ≤ floorF t n f i ∧ floorF t n f i ≤ t := by
  have h1 := (h.2.1 i hi).1
  have h2 := sumF_one n i (fun j k => (h.2.1 j k).1) hi
  have h3 : 0 ≤ t * f i := Int.mul_nonneg h.1.1 h1
  refine ⟨Int.ediv_nonneg h3 (by omega), ?_⟩
  have h4 : t * f i ≤ t * sumF f n := Int.mul_le_mul_of_nonneg_left h2 h.1.1
  have h5 := Int.ediv_le_ediv hp h4
  rwa [Int.mul_ediv_cancel _ (by omega)] at h5

/-- Parts are the total together. -/
theorem part_sum (h : MayP t n f) : sumF (partF t n f) n = t := by
  by_cases h0 : t = 0
  · subst h0
    have : sumF (partF 0 n f) n = sumF (fun _ => 0) n := sumF_congr n fun j _ => by simp [partF]
    rw [this]
    have : ∀ m, sumF (fun _ => (0 : Int)) m = 0 := fun m => by induction m with
      | zero => rfl
      | succ m ih => rw [sumF, ih]; rfl
    exact this n
  · have hp : 0 < sumF f n := h.2.2.resolve_left h0
    have hl0 := left_nonneg (t := t) hp
    have hln := left_le_n (t := t) hp
    have e : sumF (partF t n f) n = sumF (fun j => floorF t n f j + if decide (rankF (restF t n f) n j < (leftF t n f).toNat) = true then 1 else 0) n := sumF_congr n fun j _ => by
      unfold partF
      rw [if_neg h0]
      congr 1
      by_cases c : (rankF (restF t n f) n j : Int) < leftF t n f
      · rw [if_pos c, if_pos (by simp; omega)]
      · rw [if_neg c, if_neg (by simp; omega)]
    rw [e, sumF_add, sumF_cnt, rank_below _ _ _ (by omega)]
    unfold leftF at *
    omega

theorem part_nonneg (h : MayP t n f) (i : Nat) (hi : i < n) : 0 ≤ partF t n f i := by
  unfold partF
  split
  · omega
  · rename_i h0
    have := (floor_bounds h (h.2.2.resolve_left h0) i hi).1
    split <;> omega
theorem part_le (h : MayP t n f) (i : Nat) (hi : i < n) : partF t n f i ≤ t := by
  have := sumF_one n i (fun j k => part_nonneg h j k) hi
  rwa [part_sum h] at this

theorem rank_more {r : Nat → Int} {i k : Nat} (hi : i < n) (h : r k < r i) : rankF r n i < rankF r n k := by
  refine cntF_lt n i (fun j _ hj => ?_) hi (by simp) (by simp; omega)
  simp only [decide_eq_true_eq] at hj ⊢
  omega
/-- A greater weight has no lesser part. -/
theorem part_mono (h : MayP t n f) {i k : Nat} (hi : i < n) (hk : k < n) (hf : f k ≤ f i) (hlt : f k < f i ∨ i < k) : partF t n f k ≤ partF t n f i := by
  unfold partF
  split
  · omega
  · rename_i h0
    have hp := h.2.2.resolve_left h0
    have ht : 0 < t := by have := h.1.1; omega
    have m1 : t * f k ≤ t * f i := Int.mul_le_mul_of_nonneg_left hf (by omega)
    have h1 : floorF t n f k ≤ floorF t n f i := Int.ediv_le_ediv hp m1
    by_cases e : floorF t n f k = floorF t n f i
    · rw [e]
      have ei := Int.mul_ediv_add_emod (t * f i) (sumF f n)
      have ek := Int.mul_ediv_add_emod (t * f k) (sumF f n)
      have er : rankF (restF t n f) n i ≤ rankF (restF t n f) n k := by
        have hr : restF t n f k ≤ restF t n f i := by
          unfold floorF at e
          unfold restF
          rw [e] at ek
          generalize sumF f n * (t * f i / sumF f n) = X at *
          omega
        rcases Int.lt_or_le (restF t n f k) (restF t n f i) with c | c
        · exact Nat.le_of_lt (rank_more hi c)
        · have hfe : f k = f i := by
            rcases hlt with c2 | _
            · have m2 : t * f k < t * f i := Int.mul_lt_mul_of_pos_left c2 ht
              unfold floorF at e
              unfold restF at c hr
              rw [e] at ek
              generalize sumF f n * (t * f i / sumF f n) = X at *
              omega
            · rcases Int.lt_or_le (f k) (f i) with c2 | c2
              · have m2 : t * f k < t * f i := Int.mul_lt_mul_of_pos_left c2 ht
                unfold floorF at e
                unfold restF at c hr
                rw [e] at ek
                generalize sumF f n * (t * f i / sumF f n) = X at *
                omega
              · omega
          have hik : i < k := hlt.resolve_left (by omega)
          refine Nat.le_of_lt (cntF_lt n i (fun j _ hj => ?_) hi (by simp) (by simp; omega))
          simp only [decide_eq_true_eq] at hj ⊢
          omega
      split <;> split <;> omega
    · split <;> split <;> omega
theorem part_near {i k : Nat} (hf : f k = f i) : partF t n f k - partF t n f i ≤ 1 := by
  unfold partF floorF
  rw [hf]
  split
  · omega
  · split <;> split <;> omega
theorem part_none (h : MayP t n f) {i : Nat} (hi : i < n) (hf : f i = 0) : partF t n f i = 0 := by
  unfold partF
  split
  · rfl
  · rename_i h0
    have hp := h.2.2.resolve_left h0
    have hr : restF t n f i = 0 := by unfold restF; rw [hf, Int.mul_zero]; exact Int.zero_emod _
    have hfl : floorF t n f i = 0 := by unfold floorF; rw [hf, Int.mul_zero]; exact Int.zero_ediv _
    have h1 := left_le (t := t) hp
    have h2 : cntF (fun j => decide (0 < restF t n f j)) n ≤ rankF (restF t n f) n i := cntF_mono n fun j _ hj => by
      simp only [decide_eq_true_eq] at hj ⊢
      left; rw [hr]; exact hj
    rw [hfl, if_neg (by omega)]
    rfl

/-- Weights that are all so many times as great. -/
theorem sumF_times (c : Int) : sumF (fun j => f j * c) n = sumF f n * c := by
  rw [Int.mul_comm, ← sumF_mul]
  exact sumF_congr n fun j _ => Int.mul_comm _ _
theorem part_scale {c : Int} (hc : 0 < c) (i : Nat) : partF t n (fun j => f j * c) i = partF t n f i := by
  have hfl : ∀ j, floorF t n (fun j => f j * c) j = floorF t n f j := fun j => by
    unfold floorF
    rw [sumF_times, ← Int.mul_assoc]
    exact Int.mul_ediv_mul_of_pos_left _ _ hc
  have hre : ∀ j, restF t n (fun j => f j * c) j = restF t n f j * c := fun j => by
    unfold restF
    rw [sumF_times, ← Int.mul_assoc]
    rw [Int.mul_comm (t * f j) c, Int.mul_comm (sumF f n) c, Int.mul_emod_mul_of_pos _ _ hc, Int.mul_comm]
  have hle : leftF t n (fun j => f j * c) = leftF t n f := by
    unfold leftF
    rw [sumF_congr n fun j _ => hfl j]
  have hra : rankF (restF t n (fun j => f j * c)) n i = rankF (restF t n f) n i := by
    refine cntF_congr n fun j _ => ?_
    rw [hre, hre]
    congr 1
    have e1 : restF t n f i * c < restF t n f j * c ↔ restF t n f i < restF t n f j := ⟨fun h => Int.lt_of_mul_lt_mul_right h (by omega), fun h => Int.mul_lt_mul_of_pos_right h hc⟩
    have e2 : restF t n f j * c = restF t n f i * c ↔ restF t n f j = restF t n f i := Int.mul_eq_mul_right_iff (by omega)
    simp only [eq_iff_iff]
    rw [e1, e2]
  unfold partF
  rw [hfl, hle, hra]
/-- A total that weights go into. -/
theorem part_own (hp : 0 < sumF f n) (i : Nat) : partF (sumF f n) n f i = f i := by
  have hfl : ∀ j, floorF (sumF f n) n f j = f j := fun j => by
    unfold floorF
    rw [Int.mul_comm]
    exact Int.mul_ediv_cancel _ (by omega)
  have hle : leftF (sumF f n) n f = 0 := by
    unfold leftF
    rw [sumF_congr n fun j _ => hfl j]
    omega
  unfold partF
  rw [if_neg (by omega), hfl, hle, if_neg (by omega)]
  omega
end L04
end Go.Proofs.Ytnkomnmdmbegiaa

