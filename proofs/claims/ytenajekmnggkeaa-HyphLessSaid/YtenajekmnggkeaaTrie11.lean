/- Layer 11, plain: the numbers of a text's places by patterns; the beginnings of patterns. -/
import Derived.Test.YtenajekmnggkeaaLiang10
namespace Go.Proofs.Ytenajekmnggkeaa
namespace L11
open L10 (TN plainB patB)

/-! ### Greatest numbers -/
def supL (l : List Int) : Int := l.foldr max 0
theorem supL_le {n : Int} : ∀ {l : List Int}, supL l ≤ n ↔ 0 ≤ n ∧ ∀ v ∈ l, v ≤ n
  | [] => by simp [supL]
  | a :: l => by
    have ih := supL_le (n := n) (l := l)
    have e : supL (a :: l) = max a (supL l) := rfl
    rw [e, Int.max_le, ih]
    simp only [List.mem_cons, forall_eq_or_imp]
    exact ⟨fun ⟨h1, h2, h3⟩ => ⟨h2, h1, h3⟩, fun ⟨h1, h2, h3⟩ => ⟨h2, h1, h3⟩⟩
/-- Two numbers that are bounded alike are one. -/
theorem eq_of_le {a b : Int} (h : ∀ n, a ≤ n ↔ b ≤ n) : a = b := by
  have h1 := (h b).2 (Int.le_refl _)
  have h2 := (h a).1 (Int.le_refl _)
  omega
/-- What a pattern, at place a of a text, says of place i. -/
def hit (x : TN) (s : List UInt8) (a i : Nat) : Int := if a ≤ i ∧ x.1 <+: s.drop a then x.2.getD (i - a) 0 else 0
theorem hit_no {x : TN} {s : List UInt8} {a i : Nat} (h : ¬ x.1 <+: s.drop a) : hit x s a i = 0 := if_neg (fun k => h k.2)
/-- f is, at each place, the greatest of what the pairs of H say. -/
def Sup (s : List UInt8) (H : TN → Nat → Prop) (f : Nat → Int) : Prop := ∀ i n, f i ≤ n ↔ 0 ≤ n ∧ ∀ x a, H x a → hit x s a i ≤ n
theorem Sup.zero (s : List UInt8) : Sup s (fun _ _ => False) (fun _ => 0) := fun _ _ => ⟨fun h => ⟨h, fun _ _ k => k.elim⟩, fun h => h.1⟩
theorem Sup.uniq {s : List UInt8} {H K : TN → Nat → Prop} {f g : Nat → Int} (h : Sup s H f) (k : Sup s K g) (e : ∀ x a, x.1 <+: s.drop a → (H x a ↔ K x a)) (i : Nat) : f i = g i := by
  refine eq_of_le fun n => ?_
  rw [h i n, k i n]
  constructor
  · rintro ⟨h0, h1⟩
    refine ⟨h0, fun x a hx => ?_⟩
    by_cases hp : x.1 <+: s.drop a
    · exact h1 x a ((e x a hp).2 hx)
    · rw [hit_no hp]; exact h0
  · rintro ⟨h0, h1⟩
    refine ⟨h0, fun x a hx => ?_⟩
    by_cases hp : x.1 <+: s.drop a
    · exact h1 x a ((e x a hp).1 hx)
    · rw [hit_no hp]; exact h0
theorem Sup.nonneg {s : List UInt8} {H : TN → Nat → Prop} {f : Nat → Int} (h : Sup s H f) (i : Nat) : 0 ≤ f i := ((h i (f i)).1 (Int.le_refl _)).1
theorem Sup.adds {s : List UInt8} {H K : TN → Nat → Prop} {f g : Nat → Int} (h : Sup s H f) (e : ∀ i n, 0 ≤ n → (g i ≤ n ↔ f i ≤ n ∧ ∀ x a, K x a → hit x s a i ≤ n)) (hg : ∀ i, 0 ≤ g i) : Sup s (fun x a => H x a ∨ K x a) g := fun i n => by
  by_cases h0 : 0 ≤ n
  · rw [e i n h0, h i n]
    exact ⟨fun ⟨⟨_, h1⟩, h2⟩ => ⟨h0, fun x a hx => hx.elim (h1 x a) (h2 x a)⟩, fun ⟨_, h1⟩ => ⟨⟨h0, fun x a hx => h1 x a (.inl hx)⟩, fun x a hx => h1 x a (.inr hx)⟩⟩
  · have := hg i
    exact ⟨fun h1 => by omega, fun h1 => absurd h1.1 h0⟩
theorem Sup.add {s : List UInt8} {H : TN → Nat → Prop} {f g : Nat → Int} (h : Sup s H f) (x0 : TN) (a0 : Nat) (e : ∀ i, g i = max (f i) (hit x0 s a0 i)) : Sup s (fun x a => H x a ∨ (x = x0 ∧ a = a0)) g :=
  h.adds (fun i n _ => by
    rw [e i, Int.max_le]
    exact ⟨fun ⟨h1, h2⟩ => ⟨h1, fun x a ⟨hx, ha⟩ => by rw [hx, ha]; exact h2⟩, fun ⟨h1, h2⟩ => ⟨h1, h2 x0 a0 ⟨rfl, rfl⟩⟩⟩) (fun i => by rw [e i]; have := h.nonneg i; omega)
theorem Sup.iff {s : List UInt8} {H K : TN → Nat → Prop} {f : Nat → Int} (h : Sup s H f) (e : ∀ x a, x.1 <+: s.drop a → (H x a ↔ K x a)) : Sup s K f := fun i n => by
  rw [h i n]
  constructor
  · rintro ⟨h0, h1⟩
    refine ⟨h0, fun x a hx => ?_⟩
    by_cases hp : x.1 <+: s.drop a
    · exact h1 x a ((e x a hp).2 hx)
    · rw [hit_no hp]; exact h0
  · rintro ⟨h0, h1⟩
    refine ⟨h0, fun x a hx => ?_⟩
    by_cases hp : x.1 <+: s.drop a
    · exact h1 x a ((e x a hp).1 hx)
    · rw [hit_no hp]; exact h0

/-- A text's numbers. -/
def numF (p : List TN) (s : List UInt8) (i : Nat) : Int := supL (p.flatMap fun x => (List.range s.length).map fun a => hit x s a i)
theorem numF_sup (p : List TN) (s : List UInt8) : Sup s (fun x a => x ∈ p ∧ a < s.length) (numF p s) := fun i n => by
  unfold numF
  rw [supL_le]
  simp only [List.mem_flatMap, List.mem_map, List.mem_range]
  exact ⟨fun ⟨h0, h1⟩ => ⟨h0, fun x a ⟨hx, ha⟩ => h1 _ ⟨x, hx, a, ha, rfl⟩⟩, fun ⟨h0, h1⟩ => ⟨h0, fun v ⟨x, hx, a, ha, e⟩ => by rw [← e]; exact h1 x a ⟨hx, ha⟩⟩⟩
theorem numF_nonneg (p : List TN) (s : List UInt8) (i : Nat) : 0 ≤ numF p s i := (numF_sup p s).nonneg i
theorem hit_most {x : TN} (h : patB x = true) (s : List UInt8) (a i : Nat) : 0 ≤ hit x s a i ∧ hit x s a i ≤ 9 := by
  unfold hit
  split
  · have := (L10.pat_vals h).2
    by_cases hk : i - a < x.2.length
    · rw [List.getD, List.getElem?_eq_getElem hk]
      exact this _ (List.getElem_mem hk)
    · rw [List.getD, List.getElem?_eq_none (by omega)]
      simp
  · omega
theorem numF_most {p : List TN} (h : ∀ x ∈ p, patB x = true) (s : List UInt8) (i : Nat) : numF p s i ≤ 9 :=
  ((numF_sup p s) i 9).2 ⟨by omega, fun x a hx => (hit_most (h x hx.1) s a i).2⟩
/-- A word, and a . on either side. -/
def textL (w : List UInt8) : List UInt8 := 46 :: (w ++ [46])
theorem textL_length (w : List UInt8) : (textL w).length = w.length + 2 := by simp [textL]
/-- The numbers of a word's places. -/
def valsL (p : List TN) (w : List UInt8) : List Int := if plainB w = true then (List.range (w.length + 1)).map fun j => numF p (textL w) (j + 1) else []
theorem valsL_no {p : List TN} {w : List UInt8} (h : plainB w = false) : valsL p w = [] := if_neg (by simp [h])
theorem valsL_length {p : List TN} {w : List UInt8} (h : plainB w = true) : (valsL p w).length = w.length + 1 := by rw [valsL, if_pos h]; simp
theorem valsL_get {p : List TN} {w : List UInt8} (h : plainB w = true) {j : Nat} (hj : j < w.length + 1) : (valsL p w)[j]? = some (numF p (textL w) (j + 1)) := by
  rw [valsL, if_pos h, List.getElem?_map, List.getElem?_range hj]; rfl
theorem valsL_mem {p : List TN} (hp : ∀ x ∈ p, patB x = true) {w : List UInt8} {v : Int} (h : v ∈ valsL p w) : 0 ≤ v ∧ v ≤ 9 := by
  unfold valsL at h
  split at h
  · obtain ⟨j, _, rfl⟩ := List.mem_map.1 h
    exact ⟨numF_nonneg _ _ _, numF_most hp _ _⟩
  · simp at h
theorem plain_len {w : List UInt8} (h : plainB w = true) : 1 ≤ w.length ∧ w.length ≤ 40 := by
  simp only [plainB, Bool.and_eq_true, decide_eq_true_eq] at h
  exact h.1
/-- The same patterns, in whatever order, how often soever. -/
theorem numF_congr {p q : List TN} (h : ∀ x, x ∈ p ↔ x ∈ q) (s : List UInt8) (i : Nat) : numF p s i = numF q s i :=
  (numF_sup p s).uniq (numF_sup q s) (fun x a _ => by rw [h x]) i
theorem numF_append (p q : List TN) (s : List UInt8) (i : Nat) : numF (p ++ q) s i = max (numF p s i) (numF q s i) := by
  refine eq_of_le fun n => ?_
  rw [Int.max_le, numF_sup, numF_sup, numF_sup]
  simp only [List.mem_append]
  exact ⟨fun ⟨h0, h1⟩ => ⟨⟨h0, fun x a hx => h1 x a ⟨.inl hx.1, hx.2⟩⟩, h0, fun x a hx => h1 x a ⟨.inr hx.1, hx.2⟩⟩,
    fun ⟨⟨h0, h1⟩, _, h2⟩ => ⟨h0, fun x a hx => hx.1.elim (fun k => h1 x a ⟨k, hx.2⟩) (fun k => h2 x a ⟨k, hx.2⟩)⟩⟩
theorem valsL_congr {p q : List TN} (h : ∀ x, x ∈ p ↔ x ∈ q) (w : List UInt8) : valsL p w = valsL q w := by
  unfold valsL
  split
  · exact List.map_congr_left fun j _ => numF_congr h _ _
  · rfl

/-! ### The values of a node -/
/-- The greatest of the k-th values of the patterns whose letters are q. -/
def valF (p : List TN) (q : List UInt8) (k : Nat) : Int := supL ((p.filter fun x => decide (x.1 = q)).map fun x => x.2.getD k 0)
theorem valF_le {p : List TN} {q : List UInt8} {k : Nat} {n : Int} : valF p q k ≤ n ↔ 0 ≤ n ∧ ∀ x ∈ p, x.1 = q → x.2.getD k 0 ≤ n := by
  unfold valF
  rw [supL_le]
  simp only [List.mem_map, List.mem_filter, decide_eq_true_eq]
  exact ⟨fun ⟨h0, h1⟩ => ⟨h0, fun x hx e => h1 _ ⟨x, ⟨hx, e⟩, rfl⟩⟩, fun ⟨h0, h1⟩ => ⟨h0, fun v ⟨x, ⟨hx, e⟩, h⟩ => by rw [← h]; exact h1 x hx e⟩⟩
theorem valF_nonneg (p : List TN) (q : List UInt8) (k : Nat) : 0 ≤ valF p q k := (valF_le.1 (Int.le_refl _)).1
theorem getD_val {x : TN} (h : patB x = true) (k : Nat) : 0 ≤ x.2.getD k 0 ∧ x.2.getD k 0 ≤ 9 := by
  have := (L10.pat_vals h).2
  by_cases hk : k < x.2.length
  · rw [List.getD, List.getElem?_eq_getElem hk]
    exact this _ (List.getElem_mem hk)
  · rw [List.getD, List.getElem?_eq_none (by omega)]
    simp
theorem valF_most {p : List TN} (h : ∀ x ∈ p, patB x = true) (q : List UInt8) (k : Nat) : valF p q k ≤ 9 := valF_le.2 ⟨by omega, fun x hx _ => (getD_val (h x hx) k).2⟩
theorem valF_none {p : List TN} {q : List UInt8} (h : ∀ x ∈ p, x.1 ≠ q) (k : Nat) : valF p q k = 0 :=
  eq_of_le fun n => by
    rw [valF_le]
    exact ⟨fun h => h.1, fun h0 => ⟨h0, fun x hx e => absurd e (h x hx)⟩⟩
theorem valF_same (p : List TN) (x : TN) (k : Nat) : valF (p ++ [x]) x.1 k = max (valF p x.1 k) (x.2.getD k 0) :=
  eq_of_le fun n => by
    rw [Int.max_le, valF_le, valF_le]
    simp only [List.mem_append, List.mem_singleton]
    exact ⟨fun ⟨h0, h1⟩ => ⟨⟨h0, fun y hy e => h1 y (.inl hy) e⟩, h1 x (.inr rfl) rfl⟩, fun ⟨⟨h0, h1⟩, h2⟩ => ⟨h0, fun y hy e => hy.elim (fun k => h1 y k e) (fun k => by rw [k]; exact h2)⟩⟩
theorem valF_other (p : List TN) (x : TN) {q : List UInt8} (hq : x.1 ≠ q) (k : Nat) : valF (p ++ [x]) q k = valF p q k :=
  eq_of_le fun n => by
    rw [valF_le, valF_le]
    simp only [List.mem_append, List.mem_singleton]
    exact ⟨fun ⟨h0, h1⟩ => ⟨h0, fun y hy e => h1 y (.inl hy) e⟩, fun ⟨h0, h1⟩ => ⟨h0, fun y hy e => hy.elim (fun k => h1 y k e) (fun k => absurd (k ▸ e) hq)⟩⟩
/-- A node's values go into a text's numbers. -/
theorem Sup.lift {s : List UInt8} {H : TN → Nat → Prop} {f g : Nat → Int} (h : Sup s H f) (p : List TN) (a n : Nat)
    (e : ∀ i, g i = if a ≤ i then max (f i) (valF p ((s.drop a).take n) (i - a)) else f i) : Sup s (fun x b => H x b ∨ (x ∈ p ∧ x.1 = (s.drop a).take n ∧ b = a)) g := by
  refine h.adds (fun i m h0 => ?_) (fun i => ?_)
  · rw [e i]
    by_cases hi : a ≤ i
    · rw [if_pos hi, Int.max_le, valF_le]
      refine ⟨fun ⟨h1, _, h2⟩ => ⟨h1, fun x b ⟨hx, hq, hb⟩ => ?_⟩, fun ⟨h1, h2⟩ => ⟨h1, h0, fun x hx hq => ?_⟩⟩
      · rw [hb, hit, if_pos ⟨hi, by rw [hq]; exact List.take_prefix _ _⟩]
        exact h2 x hx hq
      · have := h2 x a ⟨hx, hq, rfl⟩
        rw [hit, if_pos ⟨hi, by rw [hq]; exact List.take_prefix _ _⟩] at this
        exact this
    · rw [if_neg hi]
      refine ⟨fun h1 => ⟨h1, fun x b ⟨hx, hq, hb⟩ => ?_⟩, fun h1 => h1.1⟩
      rw [hb, hit, if_neg (fun k => hi k.1)]
      exact h0
  · rw [e i]
    have := h.nonneg i
    split
    · omega
    · exact this

/-! ### Beginnings -/
def addQ (s : List (List UInt8)) (q : List UInt8) : List (List UInt8) := if q ∈ s then s else s ++ [q]
/-- The beginnings of l of at most so many bytes, put to others. -/
def addTo (s : List (List UInt8)) (l : List UInt8) : Nat → List (List UInt8)
  | 0 => s
  | n + 1 => addQ (addTo s l n) (l.take (n + 1))
def nodesL (p : List TN) : List (List UInt8) := p.foldl (fun s x => addTo s x.1 x.1.length) [[]]
theorem nodesL_snoc (p : List TN) (x : TN) : nodesL (p ++ [x]) = addTo (nodesL p) x.1 x.1.length := by simp [nodesL]
theorem mem_addQ {s : List (List UInt8)} {q r : List UInt8} : r ∈ addQ s q ↔ r ∈ s ∨ r = q := by
  unfold addQ
  split
  · rename_i h
    exact ⟨.inl, fun k => k.elim id (fun e => by rw [e]; exact h)⟩
  · simp
theorem mem_addTo {s : List (List UInt8)} {l r : List UInt8} : ∀ {n : Nat}, r ∈ addTo s l n ↔ r ∈ s ∨ ∃ k, 1 ≤ k ∧ k ≤ n ∧ r = l.take k
  | 0 => ⟨.inl, fun h => h.elim id (fun ⟨k, h1, h2, _⟩ => by omega)⟩
  | n + 1 => by
    rw [addTo, mem_addQ, mem_addTo (n := n)]
    constructor
    · rintro ((h | ⟨k, h1, h2, h3⟩) | h)
      · exact .inl h
      · exact .inr ⟨k, h1, by omega, h3⟩
      · exact .inr ⟨n + 1, by omega, Nat.le_refl _, h⟩
    · rintro (h | ⟨k, h1, h2, h3⟩)
      · exact .inl (.inl h)
      · by_cases e : k = n + 1
        · exact .inr (by rw [h3, e])
        · exact .inl (.inr ⟨k, h1, by omega, h3⟩)
theorem mem_nodes {r : List UInt8} : ∀ {p : List TN}, r ∈ nodesL p ↔ r = [] ∨ ∃ x ∈ p, r <+: x.1 := by
  have key : ∀ (p : List TN) (s : List (List UInt8)), [] ∈ s → (r ∈ p.foldl (fun s x => addTo s x.1 x.1.length) s ↔ r ∈ s ∨ ∃ x ∈ p, r <+: x.1) := by
    intro p
    induction p with
    | nil => intro s _; simp
    | cons x p ih =>
      intro s hs
      rw [List.foldl_cons, ih _ (mem_addTo.2 (.inl hs)), mem_addTo]
      constructor
      · rintro ((h | ⟨k, _, h2, h3⟩) | ⟨y, hy, h⟩)
        · exact .inl h
        · exact .inr ⟨x, by simp, by rw [h3]; exact List.take_prefix _ _⟩
        · exact .inr ⟨y, by simp [hy], h⟩
      · rintro (h | ⟨y, hy, h⟩)
        · exact .inl (.inl h)
        · rcases List.mem_cons.1 hy with rfl | hy
          · refine .inl ?_
            have e := List.prefix_iff_eq_take.1 h
            by_cases h0 : r.length = 0
            · rw [List.length_eq_zero_iff.1 h0]; exact .inl hs
            · exact .inr ⟨r.length, by omega, h.length_le, e⟩
          · exact .inr ⟨y, hy, h⟩
  intro p
  have := key p [[]] (by simp)
  rw [nodesL, this]
  simp

/-- Nodes: nothing first, none twice, with each one what it begins with. -/
structure Nds (ns : List (List UInt8)) : Prop where
  head : ns[0]? = some []
  nodup : ns.Nodup
  closed : ∀ q b, q ++ [b] ∈ ns → q ∈ ns
theorem nds_one : Nds [[]] := ⟨rfl, by simp, fun q b h => by simp at h⟩
theorem Nds.nil {ns : List (List UInt8)} (h : Nds ns) : [] ∈ ns := List.mem_of_getElem? h.head
theorem Nds.pos {ns : List (List UInt8)} (h : Nds ns) : 0 < ns.length := (List.getElem?_eq_some_iff.1 h.head).1
theorem Nds.add {ns : List (List UInt8)} (h : Nds ns) {q : List UInt8} (hq : q ∈ ns) (b : UInt8) : Nds (addQ ns (q ++ [b])) := by
  unfold addQ
  split
  · exact h
  · rename_i hn
    refine ⟨by rw [List.getElem?_append_left h.pos]; exact h.head, ?_, fun r c hr => ?_⟩
    · rw [List.nodup_append]
      exact ⟨h.nodup, by simp, fun a ha b' hb e => hn (by simp at hb; rw [← hb, ← e]; exact ha)⟩
    · rcases List.mem_append.1 hr with hr | hr
      · exact List.mem_append.2 (.inl (h.closed r c hr))
      · have e := List.mem_singleton.1 hr
        have := List.append_inj_left' e rfl
        rw [this]
        exact List.mem_append.2 (.inl hq)
theorem take_snoc' {l : List UInt8} {n : Nat} (h : n < l.length) : l.take (n + 1) = l.take n ++ [l[n]] := by rw [List.take_succ_eq_append_getElem h]
theorem Nds.addTo {ns : List (List UInt8)} (h : Nds ns) (l : List UInt8) : ∀ n, n ≤ l.length → Nds (addTo ns l n)
  | 0, _ => h
  | n + 1, hn => by
    have ih := Nds.addTo h l n (by omega)
    rw [L11.addTo, take_snoc' (by omega)]
    refine ih.add ?_ _
    by_cases h0 : n = 0
    · subst h0; exact h.nil
    · exact mem_addTo.2 (.inr ⟨n, by omega, Nat.le_refl _, rfl⟩)
theorem nds_nodes (p : List TN) : Nds (nodesL p) := by
  have key : ∀ (p : List TN) (s : List (List UInt8)), Nds s → Nds (p.foldl (fun s x => addTo s x.1 x.1.length) s) := by
    intro p
    induction p with
    | nil => exact fun _ h => h
    | cons x p ih => exact fun s h => ih _ (h.addTo x.1 _ (Nat.le_refl _))
  exact key p _ nds_one
theorem take_mem_addTo {ns : List (List UInt8)} (h : Nds ns) (l : List UInt8) (n : Nat) : l.take n ∈ addTo ns l n := by
  by_cases h0 : n = 0
  · subst h0; exact h.nil
  · exact mem_addTo.2 (.inr ⟨n, by omega, Nat.le_refl _, rfl⟩)

/-- How many there are. -/
theorem addQ_length (s : List (List UInt8)) (q : List UInt8) : s.length ≤ (addQ s q).length ∧ (addQ s q).length ≤ s.length + 1 := by
  unfold addQ; split <;> simp
theorem addTo_length (s : List (List UInt8)) (l : List UInt8) : ∀ n, s.length ≤ (addTo s l n).length ∧ (addTo s l n).length ≤ s.length + n
  | 0 => by simp [addTo]
  | n + 1 => by
    have h1 := addTo_length s l n
    have h2 := addQ_length (addTo s l n) (l.take (n + 1))
    rw [addTo]
    omega
def sumLen (p : List TN) : Nat := (p.map fun x => x.1.length).sum
theorem nodes_length (p : List TN) : 1 ≤ (nodesL p).length ∧ (nodesL p).length ≤ 1 + sumLen p := by
  have key : ∀ (p : List TN) (s : List (List UInt8)), s.length ≤ (p.foldl (fun s x => addTo s x.1 x.1.length) s).length ∧ (p.foldl (fun s x => addTo s x.1 x.1.length) s).length ≤ s.length + sumLen p := by
    intro p
    induction p with
    | nil => intro s; simp [sumLen]
    | cons x p ih =>
      intro s
      have h1 := ih (addTo s x.1 x.1.length)
      have h2 := addTo_length s x.1 x.1.length
      rw [List.foldl_cons]
      have e : sumLen (x :: p) = x.1.length + sumLen p := by simp [sumLen]
      omega
  have := key p [[]]
  simpa [nodesL] using this
theorem length_le_of_subset {α : Type} [DecidableEq α] : ∀ {l m : List α}, l.Nodup → (∀ x ∈ l, x ∈ m) → l.length ≤ m.length
  | [], _, _, _ => by simp
  | a :: l, m, h, hs => by
    rw [List.nodup_cons] at h
    have ha : a ∈ m := hs a (by simp)
    have := length_le_of_subset (m := m.erase a) h.2 (fun x hx => by
      have hne : x ≠ a := fun e => h.1 (by rw [← e]; exact hx)
      exact (List.mem_erase_of_ne hne).2 (hs x (by simp [hx])))
    rw [List.length_erase_of_mem ha] at this
    have hp : 0 < m.length := List.length_pos_of_mem ha
    simp only [List.length_cons]
    omega
theorem nodes_le {p q : List TN} (h : ∀ x ∈ p, x ∈ q) : (nodesL p).length ≤ (nodesL q).length :=
  length_le_of_subset (nds_nodes p).nodup fun r hr => by
    rw [mem_nodes] at hr ⊢
    exact hr.imp id fun ⟨x, hx, k⟩ => ⟨x, h x hx, k⟩
theorem nodes_congr {p q : List TN} (h : ∀ x, x ∈ p ↔ x ∈ q) : (nodesL p).length = (nodesL q).length :=
  Nat.le_antisymm (nodes_le fun x => (h x).1) (nodes_le fun x => (h x).2)
theorem nodes_append (p q : List TN) : (nodesL (p ++ q)).length < (nodesL p).length + (nodesL q).length := by
  have hq := nds_nodes q
  have hsub : (nodesL (p ++ q)).length ≤ (nodesL p ++ (nodesL q).tail).length := length_le_of_subset (nds_nodes _).nodup fun r hr => by
    rw [mem_nodes] at hr
    by_cases h0 : r = []
    · exact List.mem_append.2 (.inl (mem_nodes.2 (.inl h0)))
    · rcases hr with hr | ⟨x, hx, k⟩
      · exact absurd hr h0
      · rcases List.mem_append.1 hx with hx | hx
        · exact List.mem_append.2 (.inl (mem_nodes.2 (.inr ⟨x, hx, k⟩)))
        · refine List.mem_append.2 (.inr ?_)
          have hm : r ∈ nodesL q := mem_nodes.2 (.inr ⟨x, hx, k⟩)
          have he := hq.head
          cases hn : nodesL q with
          | nil => rw [hn] at hm; simp at hm
          | cons a t =>
            rw [hn] at hm he
            simp at he
            subst he
            rcases List.mem_cons.1 hm with hm | hm
            · exact absurd hm h0
            · exact hm
  have hp := hq.pos
  rw [List.length_append, List.length_tail] at hsub
  omega
/-- Of one pattern. -/
theorem nodes_one (x : TN) : (nodesL [x]).length = x.1.length + 1 := by
  have key : ∀ n, n ≤ x.1.length → (addTo [[]] x.1 n).length = n + 1 := by
    intro n
    induction n with
    | zero => intro _; rfl
    | succ n ih =>
      intro hn
      have h1 := ih (by omega)
      rw [addTo, addQ, if_neg, List.length_append, h1]
      · rfl
      · intro hm
        rcases mem_addTo.1 hm with h2 | ⟨k, h2, h3, h4⟩
        · have := congrArg List.length (List.mem_singleton.1 h2)
          rw [List.length_take, List.length_nil] at this
          omega
        · have := congrArg List.length h4
          rw [List.length_take, List.length_take] at this
          omega
  exact key _ (Nat.le_refl _)
theorem numF_one {w : List UInt8} {ns : List Int} (hn : ∀ v ∈ ns, 0 ≤ v) (i : Nat) : numF [(textL w, ns)] (textL w) i = ns.getD i 0 := by
  have hv : 0 ≤ ns.getD i 0 := by
    by_cases hk : i < ns.length
    · rw [List.getD, List.getElem?_eq_getElem hk]; exact hn _ (List.getElem_mem hk)
    · rw [List.getD, List.getElem?_eq_none (by omega)]; simp
  refine eq_of_le fun n => ?_
  rw [numF_sup]
  constructor
  · rintro ⟨h0, h1⟩
    have := h1 (textL w, ns) 0 ⟨by simp, by rw [textL_length]; omega⟩
    rw [hit, if_pos ⟨Nat.zero_le _, by simp⟩] at this
    exact this
  · intro h1
    refine ⟨by omega, fun x a ⟨hx, ha⟩ => ?_⟩
    rw [List.mem_singleton.1 hx]
    by_cases h0 : a = 0
    · subst h0
      rw [hit, if_pos ⟨Nat.zero_le _, by simp⟩]
      exact h1
    · rw [hit_no]
      · omega
      · intro h
        have := h.length_le
        have hl := textL_length w
        rw [List.length_drop] at this
        simp only at this
        omega
theorem numF_nil (s : List UInt8) (i : Nat) : numF [] s i = 0 := rfl
end L11
end Go.Proofs.Ytenajekmnggkeaa

