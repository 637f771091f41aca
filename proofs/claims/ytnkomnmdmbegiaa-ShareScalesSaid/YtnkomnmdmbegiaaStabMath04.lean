/- Two runs exchanged in place, and what merging by that gives: plain facts on arrays. -/
import Derived.Test.YtnkomnmdmbegiaaSwap04
namespace Go.Proofs.Ytnkomnmdmbegiaa
open Go.Sort
namespace L04
variable {α : Type} [Inhabited α]

/-- Where what stands at t came from, when [s, m) and [m, e) are exchanged. -/
def src (s m e t : Nat) : Nat := if s ≤ t ∧ t < s + (e - m) then t - s + m else if s + (e - m) ≤ t ∧ t < e then t - (e - m) else t
def rot (d : Array α) (s m e : Nat) : Array α := (Array.range d.size).map fun t => d[src s m e t]!
@[simp] theorem size_rot (d : Array α) (s m e : Nat) : (rot d s m e).size = d.size := by simp [rot]
theorem get_rot (d : Array α) (s m e t : Nat) (h : t < d.size) : (rot d s m e)[t]! = d[src s m e t]! := by simp [rot, h]
theorem same_get {a b : Array α} (hs : a.size = b.size) (h : ∀ t, t < a.size → a[t]! = b[t]!) : a = b :=
  Array.ext hs fun t h1 h2 => by have := h t h1; rwa [getElem!_pos a t h1, getElem!_pos b t h2] at this

theorem get_swaps (a b : Nat) : ∀ (n : Nat) (d : Array α) (t : Nat), a + n ≤ b → b + n ≤ d.size →
    (swaps a b n d)[t]! = if a ≤ t ∧ t < a + n then d[t - a + b]! else if b ≤ t ∧ t < b + n then d[t - b + a]! else d[t]!
  | 0, d, t, _, _ => by
    rw [swaps, if_neg (by omega), if_neg (by omega)]
  | n + 1, d, t, h1, h2 => by
    have ih := fun t => get_swaps a b n d t (by omega) (by omega)
    rw [swaps, swp_get _ (by rw [size_swaps]; omega) (by rw [size_swaps]; omega), ih, ih, ih]
    by_cases e1 : t = b + n
    · subst e1
      rw [if_pos rfl, if_neg (by omega), if_neg (by omega), if_neg (by omega), if_pos (by omega)]
      congr 1; omega
    · rw [if_neg e1]
      by_cases e2 : t = a + n
      · subst e2
        rw [if_pos rfl, if_neg (by omega), if_neg (by omega), if_pos (by omega)]
        congr 1; omega
      · rw [if_neg e2]
        by_cases c1 : a ≤ t ∧ t < a + n
        · rw [if_pos c1, if_pos (by omega)]
        · rw [if_neg c1, if_neg (show ¬ (a ≤ t ∧ t < a + (n + 1)) by omega)]
          by_cases c2 : b ≤ t ∧ t < b + n
          · rw [if_pos c2, if_pos (by omega)]
          · rw [if_neg c2, if_neg (by omega)]

theorem swaps_perm (a b lo hi : Nat) : ∀ (n : Nat) (d : Array α), lo ≤ a → a + n ≤ hi → lo ≤ b → b + n ≤ hi → hi ≤ d.size → PermIn lo hi d (swaps a b n d)
  | 0, d, _, _, _, _, _ => permIn_refl d lo hi
  | n + 1, d, h1, h2, h3, h4, h5 => by
    have ih := swaps_perm a b lo hi n d h1 (by omega) h3 (by omega) h5
    rw [swaps]
    exact permIn_trans _ _ _ _ _ ih (swp_permIn _ lo hi (a + n) (b + n) (by omega) (by omega) (by omega) (by omega) (by rw [size_swaps]; exact h5))

theorem rot_none_left (d : Array α) (s e : Nat) (h : s ≤ e) : rot d s s e = d := by
  refine same_get (by simp) fun t ht => ?_
  rw [get_rot _ _ _ _ _ (by simpa using ht)]
  unfold src
  congr 1
  split
  · omega
  · split <;> omega
theorem rot_none_right (d : Array α) (s m : Nat) : rot d s m m = d := by
  refine same_get (by simp) fun t ht => ?_
  rw [get_rot _ _ _ _ _ (by simpa using ht)]
  unfold src
  congr 1
  split
  · omega
  · split <;> omega

/-- The greater left run: its first part is exchanged with the right one. -/
theorem rot_gt (d : Array α) (s i j : Nat) (h : j < i) (hd : s + i + j ≤ d.size) : rot (swaps s (s + i) j d) (s + j) (s + i) (s + i + j) = rot d s (s + i) (s + i + j) := by
  refine same_get (by simp [size_swaps]) fun t ht => ?_
  have ht' : t < d.size := by simpa [size_swaps] using ht
  rw [get_rot _ _ _ _ _ (by rw [size_swaps]; exact ht'), get_rot _ _ _ _ _ ht', get_swaps _ _ _ _ _ (by omega) (by omega)]
  unfold src
  repeat' split
  all_goals first | (exfalso; omega) | rfl | (congr 1; omega)
theorem rot_lt (d : Array α) (s i j : Nat) (h : i < j) (hd : s + i + j ≤ d.size) : rot (swaps s (s + j) i d) s (s + i) (s + j) = rot d s (s + i) (s + i + j) := by
  refine same_get (by simp [size_swaps]) fun t ht => ?_
  have ht' : t < d.size := by simpa [size_swaps] using ht
  rw [get_rot _ _ _ _ _ (by rw [size_swaps]; exact ht'), get_rot _ _ _ _ _ ht', get_swaps _ _ _ _ _ (by omega) (by omega)]
  unfold src
  repeat' split
  all_goals first | (exfalso; omega) | rfl | (congr 1; omega)
theorem rot_eq (d : Array α) (s i : Nat) (hd : s + i + i ≤ d.size) : swaps s (s + i) i d = rot d s (s + i) (s + i + i) := by
  refine same_get (by simp [size_swaps]) fun t ht => ?_
  have ht' : t < d.size := by simpa [size_swaps] using ht
  rw [get_rot _ _ _ _ _ ht', get_swaps _ _ _ _ _ (by omega) (by omega)]
  unfold src
  repeat' split
  all_goals first | (exfalso; omega) | rfl | (congr 1; omega)

theorem rot_perm_of : ∀ (N i j s : Nat) (d : Array α) (lo hi : Nat), i + j ≤ N → lo ≤ s → s + i + j ≤ hi → hi ≤ d.size → PermIn lo hi d (rot d s (s + i) (s + i + j)) := by
  intro N
  induction N with
  | zero =>
    intro i j s d lo hi hN h1 h2 h3
    obtain rfl : i = 0 := by omega
    obtain rfl : j = 0 := by omega
    simp only [Nat.add_zero]
    rw [rot_none_right]
    exact permIn_refl _ _ _
  | succ N ih =>
    intro i j s d lo hi hN h1 h2 h3
    by_cases hi0 : i = 0
    · subst hi0
      rw [Nat.add_zero, rot_none_left _ _ _ (by omega)]
      exact permIn_refl _ _ _
    · by_cases hj0 : j = 0
      · subst hj0
        rw [Nat.add_zero, rot_none_right]
        exact permIn_refl _ _ _
      · rcases Nat.lt_trichotomy i j with h | h | h
        · rw [← rot_lt d s i j h (by omega)]
          have := ih i (j - i) s (swaps s (s + j) i d) lo hi (by omega) h1 (by omega) (by rw [size_swaps]; exact h3)
          rw [show s + i + (j - i) = s + j by omega] at this
          exact permIn_trans _ _ _ _ _ (swaps_perm s (s + j) lo hi i d h1 (by omega) (by omega) (by omega) h3) this
        · subst h
          rw [← rot_eq d s i (by omega)]
          exact swaps_perm s (s + i) lo hi i d h1 (by omega) (by omega) (by omega) h3
        · rw [← rot_gt d s i j h (by omega)]
          have := ih (i - j) j (s + j) (swaps s (s + i) j d) lo hi (by omega) (by omega) (by omega) (by rw [size_swaps]; exact h3)
          rw [show s + j + (i - j) = s + i by omega] at this
          exact permIn_trans _ _ _ _ _ (swaps_perm s (s + i) lo hi j d h1 (by omega) (by omega) (by omega) h3) this

theorem rot_perm (d : Array α) (s m e lo hi : Nat) (h1 : lo ≤ s) (h2 : s ≤ m) (h3 : m ≤ e) (h4 : e ≤ hi) (h5 : hi ≤ d.size) : PermIn lo hi d (rot d s m e) := by
  have := rot_perm_of (m - s + (e - m)) (m - s) (e - m) s d lo hi (Nat.le_refl _) h1 (by omega) h5
  rwa [show s + (m - s) = m by omega, show m + (e - m) = e by omega] at this

/-- One element goes to the right, or to the left, by an exchange. -/
theorem rot_right_step (d : Array α) (a j : Nat) (h : a ≤ j) (hd : j + 1 < d.size) : swp (rot d a (a + 1) (j + 1)) j (j + 1) = rot d a (a + 1) (j + 2) := by
  refine same_get (by simp [size_swp]) fun t ht => ?_
  have ht' : t < d.size := by simpa [size_swp] using ht
  rw [swp_get _ (by simp; omega) (by simp; omega), get_rot _ _ _ _ _ ht', get_rot _ _ _ _ _ (by omega), get_rot _ _ _ _ _ (by omega), get_rot _ _ _ _ _ ht']
  unfold src
  repeat' split
  all_goals first | (exfalso; omega) | rfl | (congr 1; omega)
theorem rot_left_step (d : Array α) (j m : Nat) (h : j + 1 ≤ m) (hd : m < d.size) : swp (rot d (j + 1) m (m + 1)) (j + 1) j = rot d j m (m + 1) := by
  refine same_get (by simp [size_swp]) fun t ht => ?_
  have ht' : t < d.size := by simpa [size_swp] using ht
  rw [swp_get _ (by simp; omega) (by simp; omega), get_rot _ _ _ _ _ ht', get_rot _ _ _ _ _ (by omega), get_rot _ _ _ _ _ (by omega), get_rot _ _ _ _ _ ht']
  unfold src
  repeat' split
  all_goals first | (exfalso; omega) | rfl | (congr 1; omega)

/-- Two sorted runs, the elements of the first one ahead of those of the second one. -/
structure Runs (lx : α → α → Bool) (ah : α → α → Prop) (a m b : Nat) (d : Array α) : Prop where
  left : SortedIn lx a m d
  right : SortedIn lx m b d
  ahead : ∀ i j, a ≤ i → i < m → m ≤ j → j < b → ah d[i]! d[j]!

variable {lx : α → α → Bool} {ah : α → α → Prop}

theorem SortedIn.le (hS : SWO lx) {a b i j : Nat} {d : Array α} (h : SortedIn lx a b d) (h1 : a ≤ i) (h2 : i ≤ j) (h3 : j < b) : lx d[j]! d[i]! = false := by
  by_cases e : i = j
  · subst e; exact hS.irrefl _
  · exact h i j h1 (by omega) h3

theorem sorted_join {a m b : Nat} {d : Array α} (h1 : SortedIn lx a m d) (h2 : SortedIn lx m b d) (h : ∀ i j, a ≤ i → i < m → m ≤ j → j < b → lx d[j]! d[i]! = false) : SortedIn lx a b d := by
  intro i j hi hij hj
  by_cases c : j < m
  · exact h1 i j hi hij c
  · by_cases c2 : i < m
    · exact h i j hi c2 (by omega) hj
    · exact h2 i j (by omega) hij hj

omit [Inhabited α] in
/-- 'Not less', by way of one in the middle. -/
theorem SWO.through (hS : SWO lx) {x y z : α} (h1 : lx y x = false) (h2 : lx z y = false) : lx z x = false := hS.ntrans _ _ _ h2 h1

/-- What an exchange at a splitting place gives. -/
theorem split_holds (hS : SWO lx) {a m b s e : Nat} {d : Array α} (H : Runs lx ah a m b d) (h1 : a ≤ s) (h2 : s ≤ m) (h3 : m ≤ e) (h4 : e ≤ b) (hb : b ≤ d.size)
    (c1 : a < s → e < b → lx d[e]! d[s - 1]! = false) (c2 : s < m → m < e → lx d[s]! d[e - 1]! = false) :
    Runs lx ah a s (s + (e - m)) (rot d s m e) ∧ Runs lx ah (s + (e - m)) e b (rot d s m e) ∧
    ∀ i j, a ≤ i → i < s + (e - m) → s + (e - m) ≤ j → j < b → lx (rot d s m e)[j]! (rot d s m e)[i]! = false := by
  have g : ∀ t, t < b → (rot d s m e)[t]! = d[src s m e t]! := fun t ht => get_rot _ _ _ _ _ (by omega)
  have s1 : ∀ t, t < s → src s m e t = t := fun t ht => by unfold src; rw [if_neg (by omega), if_neg (by omega)]
  have s2 : ∀ t, s ≤ t → t < s + (e - m) → src s m e t = t - s + m := fun t ht ht' => by unfold src; rw [if_pos (by omega)]
  have s3 : ∀ t, s + (e - m) ≤ t → t < e → src s m e t = t - (e - m) := fun t ht ht' => by unfold src; rw [if_neg (by omega), if_pos (by omega)]
  have s4 : ∀ t, e ≤ t → src s m e t = t := fun t ht => by unfold src; rw [if_neg (by omega), if_neg (by omega)]
  refine ⟨⟨?_, ?_, ?_⟩, ⟨?_, ?_, ?_⟩, ?_⟩
  · intro i j hi hij hj
    rw [g i (by omega), g j (by omega), s1 i (by omega), s1 j (by omega)]
    exact H.left i j hi hij (by omega)
  · intro i j hi hij hj
    rw [g i (by omega), g j (by omega), s2 i (by omega) (by omega), s2 j (by omega) (by omega)]
    exact H.right _ _ (by omega) (by omega) (by omega)
  · intro i j hi hi' hj hj'
    rw [g i (by omega), g j (by omega), s1 i (by omega), s2 j (by omega) (by omega)]
    exact H.ahead _ _ hi (by omega) (by omega) (by omega)
  · intro i j hi hij hj
    rw [g i (by omega), g j (by omega), s3 i (by omega) (by omega), s3 j (by omega) (by omega)]
    exact H.left _ _ (by omega) (by omega) (by omega)
  · intro i j hi hij hj
    rw [g i (by omega), g j (by omega), s4 i (by omega), s4 j (by omega)]
    exact H.right _ _ (by omega) (by omega) (by omega)
  · intro i j hi hi' hj hj'
    rw [g i (by omega), g j (by omega), s3 i (by omega) (by omega), s4 j (by omega)]
    exact H.ahead _ _ (by omega) (by omega) (by omega) (by omega)
  · intro i j hi hi' hj hj'
    rw [g i (by omega), g j (by omega)]
    by_cases ci : i < s
    · rw [s1 i ci]
      by_cases cj : j < e
      · rw [s3 j hj cj]
        exact H.left _ _ hi (by omega) (by omega)
      · rw [s4 j (by omega)]
        have x1 : lx d[s - 1]! d[i]! = false := SortedIn.le hS H.left hi (by omega) (by omega)
        have x2 : lx d[j]! d[e]! = false := SortedIn.le hS H.right (by omega) (by omega) hj'
        exact SWO.through hS x1 (SWO.through hS (c1 (by omega) (by omega)) x2)
    · rw [s2 i (by omega) hi']
      by_cases cj : j < e
      · rw [s3 j hj cj]
        have x1 : lx d[e - 1]! d[i - s + m]! = false := SortedIn.le hS H.right (by omega) (by omega) (by omega)
        have x2 : lx d[j - (e - m)]! d[s]! = false := SortedIn.le hS H.left (by omega) (by omega) (by omega)
        exact SWO.through hS x1 (SWO.through hS (c2 (by omega) (by omega)) x2)
      · rw [s4 j (by omega)]
        exact H.right _ _ (by omega) (by omega) hj'

/-- Behind permutations of either side what was between them is there still. -/
theorem cross_perm {a m b : Nat} {d d1 d2 : Array α} (h : ∀ i j, a ≤ i → i < m → m ≤ j → j < b → lx d[j]! d[i]! = false) (ham : a ≤ m) (hmb : m ≤ b) (hb : b ≤ d.size) (p1 : PermIn a m d d1) (p2 : PermIn m b d1 d2) :
    ∀ i j, a ≤ i → i < m → m ≤ j → j < b → lx d2[j]! d2[i]! = false := by
  have k1 : ∀ i j, a ≤ i → i < m → m ≤ j → j < b → lx d1[j]! d1[i]! = false := by
    intro i j hi hi' hj hj'
    rw [p1.2.1 j (Or.inr hj)]
    exact permIn_all d d1 a m (fun x => lx d[j]! x = false) (by omega) p1 (fun i h1 h2 => h i j h1 h2 hj hj') i hi hi'
  intro i j hi hi' hj hj'
  rw [p2.2.1 i (Or.inl hi')]
  exact permIn_all d1 d2 m b (fun y => lx y d1[i]! = false) (by rw [p1.1]; exact hb) p2 (fun j h1 h2 => k1 i j hi hi' h1 h2) j hj hj'

theorem sorted_other {a b lo hi : Nat} {d d' : Array α} (h : SortedIn lx a b d) (p : PermIn lo hi d d') (hd : b ≤ lo ∨ hi ≤ a) : SortedIn lx a b d' := by
  intro i j hi' hij hj
  rw [p.2.1 i (by omega), p.2.1 j (by omega)]
  exact h i j hi' hij hj

theorem Runs.other {a m b lo hi : Nat} {d d' : Array α} (h : Runs lx ah a m b d) (p : PermIn lo hi d d') (hd : b ≤ lo ∨ hi ≤ a) (hm : a ≤ m ∧ m ≤ b) : Runs lx ah a m b d' := by
  refine ⟨sorted_other h.left p (by omega), sorted_other h.right p (by omega), fun i j h1 h2 h3 h4 => ?_⟩
  rw [p.2.1 i (by omega), p.2.1 j (by omega)]
  exact h.ahead i j h1 h2 h3 h4

/-- The whole: an exchange, then either side. -/
theorem merged (hS : SWO lx) {a m b s e : Nat} {d d1 d2 : Array α} (H : Runs lx ah a m b d) (h1 : a ≤ s) (h2 : s ≤ m) (h3 : m ≤ e) (h4 : e ≤ b) (hb : b ≤ d.size)
    (c1 : a < s → e < b → lx d[e]! d[s - 1]! = false) (c2 : s < m → m < e → lx d[s]! d[e - 1]! = false)
    (p1 : PermIn a (s + (e - m)) (rot d s m e) d1) (q1 : SortedIn lx a (s + (e - m)) d1) (p2 : PermIn (s + (e - m)) b d1 d2) (q2 : SortedIn lx (s + (e - m)) b d2) :
    PermIn a b d d2 ∧ SortedIn lx a b d2 := by
  obtain ⟨_, _, hc⟩ := split_holds hS H h1 h2 h3 h4 hb c1 c2
  have hr : (rot d s m e).size = d.size := size_rot _ _ _ _
  refine ⟨?_, sorted_join (sorted_other q1 p2 (Or.inl (Nat.le_refl _))) q2 (cross_perm hc (by omega) (by omega) (by omega) p1 p2)⟩
  have e1 := rot_perm d s m e a b h1 h2 h3 h4 hb
  have e2 := permIn_mono (rot d s m e) d1 a (s + (e - m)) a b (Nat.le_refl _) (by omega) (by omega) p1
  have e3 := permIn_mono d1 d2 (s + (e - m)) b a b (by omega) (Nat.le_refl _) (by rw [p1.1]; omega) p2
  exact permIn_trans _ _ _ _ _ (permIn_trans _ _ _ _ _ e1 e2) e3

/-- One alone to the left: it goes where it belongs. -/
theorem merged_one (hS : SWO lx) {a b i : Nat} {d : Array α} (H : Runs lx ah a (a + 1) b d) (h1 : a + 1 ≤ i) (h4 : i ≤ b) (hb : b ≤ d.size)
    (c1 : i < b → lx d[i]! d[a]! = false) (c2 : a + 1 < i → lx d[a]! d[i - 1]! = false) :
    PermIn a b d (rot d a (a + 1) i) ∧ SortedIn lx a b (rot d a (a + 1) i) := by
  obtain ⟨r1, r2, _⟩ := split_holds hS H (Nat.le_refl _) (by omega) h1 h4 hb (fun h => absurd h (by omega)) (fun _ h => c2 h)
  refine merged hS H (Nat.le_refl _) (by omega) h1 h4 hb (fun h => absurd h (by omega)) (fun _ h => c2 h) (permIn_refl _ _ _) ?_ (permIn_refl _ _ _) ?_
  · exact r1.right
  · refine sorted_join r2.left r2.right fun x y hx hx' hy hy' => ?_
    obtain rfl : x = i - 1 := by omega
    rw [get_rot _ _ _ _ _ (by omega), get_rot _ _ _ _ _ (by omega)]
    have k1 : src a (a + 1) i (i - 1) = a := by unfold src; rw [if_neg (by omega), if_pos (by omega)]; omega
    have k2 : src a (a + 1) i y = y := by unfold src; rw [if_neg (by omega), if_neg (by omega)]
    rw [k1, k2]
    exact SWO.through hS (c1 (by omega)) (SortedIn.le hS H.right (by omega) hy hy')

/-- One alone to the right. -/
theorem merged_last (hS : SWO lx) {a m i : Nat} {d : Array α} (H : Runs lx ah a m (m + 1) d) (h1 : a ≤ i) (h2 : i ≤ m) (hb : m + 1 ≤ d.size)
    (c1 : a < i → lx d[m]! d[i - 1]! = false) (c2 : i < m → lx d[i]! d[m]! = false) :
    PermIn a (m + 1) d (rot d i m (m + 1)) ∧ SortedIn lx a (m + 1) (rot d i m (m + 1)) := by
  have k := split_holds hS H h1 h2 (Nat.le_add_right m 1) (Nat.le_refl _) hb (fun _ h => absurd h (by omega)) (fun h _ => c2 h)
  have m1 := merged hS (d1 := rot d i m (m + 1)) (d2 := rot d i m (m + 1)) H h1 h2 (Nat.le_add_right m 1) (Nat.le_refl _) hb (fun _ h => absurd h (by omega)) (fun h _ => c2 h)
  rw [show i + (m + 1 - m) = i + 1 by omega] at k m1
  obtain ⟨r1, r2, _⟩ := k
  refine m1 (permIn_refl _ _ _) ?_ (permIn_refl _ _ _) ?_
  · refine sorted_join r1.left r1.right fun x y hx hx' hy hy' => ?_
    obtain rfl : y = i := by omega
    rw [get_rot _ _ _ _ _ (by omega), get_rot _ _ _ _ _ (by omega)]
    have k1 : src y m (m + 1) y = m := by unfold src; rw [if_pos (by omega)]; omega
    have k2 : src y m (m + 1) x = x := by unfold src; rw [if_neg (by omega), if_neg (by omega)]
    rw [k1, k2]
    exact SWO.through hS (SortedIn.le hS H.left hx (by omega) (by omega)) (c1 (by omega))
  · exact r2.left
end L04
end Go.Proofs.Ytnkomnmdmbegiaa

