/- Lines of a layout are taken as they were written. -/
import Derived.Test.YteflkagilhmeiaaDoorDig14
namespace Go.Proofs.YteflkagilhmeiaaDoor
open Go.RowKit
namespace L14

/-- A line's numbers are as another layout's. -/
def Agree (M D : LayD) (x : Nat × Nat) : Prop := ∀ i, i < cntK x.1 → valD M x.1 x.2 i = valD D x.1 x.2 i
def bump (tk : Nat → Nat) (j : Nat) : Nat → Nat := fun q => if q = j then tk j + 1 else tk q
/-- None is one too many, and those of one kind stand in their order. -/
def inOrder : List (Nat × Nat) → (Nat → Nat) → Bool
  | [], _ => true
  | x :: r, tk => decide (x.1 < 10) && (decide (x.2 = tk x.1) && (decide (x.2 < mostK x.1) && inOrder r (bump tk x.1)))
def tookK : List (Nat × Nat) → (Nat → Nat) → Nat → Nat
  | [], tk => tk
  | x :: r, tk => tookK r (bump tk x.1)
def wordsL (D : LayD) (x : Nat × Nat) : List (List UInt8) := (List.range (cntK x.1)).map fun i => Lib.itoa (valD D x.1 x.2 i)
def bodyL (D : LayD) (x : Nat × Nat) : List UInt8 := nameL x.1 ++ (wordsL D x).flatMap (fun w => 32 :: w)
theorem lineL_body (D : LayD) (x : Nat × Nat) : lineL D x = bodyL D x ++ [10] := by
  simp only [lineL, bodyL, wordsL, List.flatMap_map]
theorem wordsL_free (D : LayD) (x : Nat × Nat) : ∀ w ∈ wordsL D x, (32 : UInt8) ∉ w ∧ (10 : UInt8) ∉ w := fun w hw => by
  obtain ⟨i, _, rfl⟩ := List.mem_map.1 hw
  exact itoa_free _
theorem wordsL_len (D : LayD) (x : Nat × Nat) : (wordsL D x).length = cntK x.1 := by simp [wordsL]
theorem bodyL_free (D : LayD) (x : Nat × Nat) : (10 : UInt8) ∉ bodyL D x := fun h => by
  rcases List.mem_append.1 h with h | h
  · exact (name_free _).2 h
  · obtain ⟨w, hw, hb⟩ := List.mem_flatMap.1 h
    rcases List.mem_cons.1 hb with hb | hb
    · cases hb
    · exact (wordsL_free D x w hw).2 hb

theorem put_self (D M : LayD) (j t i : Nat) : valD (putL M j t i (valD D j t i)) j t i = valD D j t i := by
  unfold putL valD
  by_cases h : j = 2
  · simp only [h, if_true]
    by_cases hi : i = 0 <;> simp [hi]
  · simp [h]
theorem put_stays (D M : LayD) (j t i j' t' q : Nat) (h : valD M j' t' q = valD D j' t' q) : valD (putL M j t i (valD D j t i)) j' t' q = valD D j' t' q := by
  unfold putL valD at *
  by_cases hj : j = 2
  · by_cases hj' : j' = 2
    · simp only [hj, hj', if_true] at h ⊢
      by_cases ht : t' = t
      · subst ht
        simp only [if_true]
        by_cases hi : i = 0
        · by_cases hq : q = 0
          · simp [hi, hq]
          · simp only [hi, hq, if_true, if_false] at h ⊢; exact h
        · by_cases hq : q = 0
          · simp only [hi, hq, if_true, if_false] at h ⊢; exact h
          · simp [hi, hq]
      · simp only [ht, if_false]; exact h
    · simp only [hj, hj', if_true, if_false] at h ⊢; exact h
  · by_cases hj' : j' = 2
    · simp only [hj, hj', if_true, if_false] at h ⊢; exact h
    · simp only [hj, hj', if_false] at h ⊢
      by_cases hk : baseK j' + q = baseK j + i
      · simp only [hk, if_true]
      · simp only [hk, if_false]; exact h
theorem put_v (D M : LayD) (j t i k : Nat) : (putL M j t i (valD D j t i)).v k = M.v k ∨ (putL M j t i (valD D j t i)).v k = D.v k := by
  unfold putL valD
  by_cases hj : j = 2
  · simp only [hj, if_true]; exact .inl trivial
  · simp only [hj, if_false]
    by_cases hk : k = baseK j + i
    · subst hk; simp
    · simp [hk]
/-- A line's numbers are put. -/
theorem putAll_D (D : LayD) (j t : Nat) (hw : ∀ i, i < cntK j → Wide (valD D j t i)) : ∀ (n i : Nat) (M : LayD), i + n = cntK j →
    ∃ M', putAll M j t i ((List.range' i n).map fun q => Lib.itoa (valD D j t q)) = some M' ∧ M'.n = M.n ∧ (∀ q, i ≤ q → q < cntK j → valD M' j t q = valD D j t q) ∧ (∀ j' t' q, valD M j' t' q = valD D j' t' q → valD M' j' t' q = valD D j' t' q) ∧ ∀ k, M'.v k = M.v k ∨ M'.v k = D.v k
  | 0, i, M, hn => ⟨M, rfl, rfl, fun q h1 h2 => absurd hn (by omega), fun _ _ _ h => h, fun _ => .inl rfl⟩
  | n + 1, i, M, hn => by
    obtain ⟨M', h1, h2, h3, h4, h5⟩ := putAll_D D j t hw n (i + 1) (putL M j t i (valD D j t i)) (by omega)
    refine ⟨M', ?_, h2.trans (putL_n _ _ _ _ _), fun q hq hq' => ?_, fun j' t' q h => h4 _ _ _ (put_stays D M j t i j' t' q h), fun k => ?_⟩
    · rw [List.range'_succ, List.map_cons, putAll, dec_itoa (hw i (by omega))]
      exact h1
    · by_cases e : q = i
      · subst e; exact h4 _ _ _ (put_self D M j t q)
      · exact h3 q (by omega) hq'
    · rcases h5 k with h | h
      · rw [h]; exact put_v D M j t i k
      · exact .inr h
/-- A line is taken. -/
theorem step_line (D M : LayD) (tk : Nat → Nat) (x : Nat × Nat) (hj : x.1 < 10) (ht : x.2 = tk x.1) (hm : x.2 < mostK x.1) (hw : ∀ i, i < cntK x.1 → Wide (valD D x.1 x.2 i)) :
    ∃ M', stepT M tk (bodyL D x) = some (M', bump tk x.1) ∧ M'.n = M.n ∧ Agree M' D x ∧ (∀ y, Agree M D y → Agree M' D y) ∧ ∀ k, M'.v k = M.v k ∨ M'.v k = D.v k := by
  obtain ⟨j, t⟩ := x
  obtain ⟨M', h1, h2, h3, h4, h5⟩ := putAll_D D j t hw (cntK j) 0 M (by omega)
  refine ⟨M', ?_, h2, fun i hi => h3 i (Nat.zero_le _) hi, fun y hy i hi => h4 _ _ _ (hy i hi), h5⟩
  dsimp only at hj ht hm
  have hlen := wordsL_len D (j, t)
  have hne : 0 < (wordsL D (j, t)).length := by rw [hlen]; exact (cntK_small j).1
  have hf := wordsL_free D (j, t)
  have hcut : nameJ ⟨(Lib.cut (bodyL D (j, t)) [32]).1.toArray⟩ = some j := by
    unfold bodyL
    cases hws : wordsL D (j, t) with
    | nil => rw [hws] at hne; exact absurd hne (by simp)
    | cons a r =>
      rw [List.flatMap_cons, List.cons_append, cut_at _ (name_free j).1]
      exact nameJ_B j hj
  have hcount : Lib.countByte (bodyL D (j, t)) 32 = cntK j := by
    rw [bodyL, count_words _ _ (name_free j).1 (fun y hy => (hf y hy).1)]; exact hlen
  have hwords : wordsOf (bodyL D (j, t)) = (List.range' 0 (cntK j)).map fun q => Lib.itoa (valD D j t q) := by
    rw [wordsOf, hcount, bodyL, ← hlen, split_words _ _ (name_free j).1 (fun y hy => (hf y hy).1)]
    simp [wordsL, List.range_eq_range']
  rw [stepT_put hcut (by omega) hcount, hwords, ← ht, h1]
  show some (M', fun q => if q = j then t + 1 else tk q) = some (M', bump tk j)
  unfold bump
  rw [← ht]
theorem lineL_ne (D : LayD) (x : Nat × Nat) (r : List UInt8) : lineL D x ++ r ≠ [] := by rw [lineL_body]; simp
/-- Lines are taken. -/
theorem take_lines (D : LayD) : ∀ (ks : List (Nat × Nat)) (M : LayD) (tk : Nat → Nat), inOrder ks tk = true → (∀ x ∈ ks, ∀ i, i < cntK x.1 → Wide (valD D x.1 x.2 i)) →
    ∃ M', (∀ f r, takeT (f + ks.length) M tk (ks.flatMap (lineL D) ++ r) = takeT f M' (tookK ks tk) r) ∧ M'.n = M.n ∧ (∀ x ∈ ks, Agree M' D x) ∧ (∀ y, Agree M D y → Agree M' D y) ∧ ∀ k, M'.v k = M.v k ∨ M'.v k = D.v k
  | [], M, tk, _, _ => ⟨M, fun f r => by simp [tookK], rfl, fun x hx => by simp at hx, fun _ h => h, fun _ => .inl rfl⟩
  | x :: ks, M, tk, ho, hw => by
    simp only [inOrder, Bool.and_eq_true, decide_eq_true_eq] at ho
    obtain ⟨M1, a1, a2, a3, a4, a5⟩ := step_line D M tk x ho.1 ho.2.1 ho.2.2.1 (hw x (by simp))
    obtain ⟨M', h1, h2, h3, h4, h5⟩ := take_lines D ks M1 (bump tk x.1) ho.2.2.2 (fun y hy => hw y (by simp [hy]))
    refine ⟨M', fun f r => ?_, h2.trans a2, fun y hy => ?_, fun y hy => h4 y (a4 y hy), fun k => ?_⟩
    · have e : (x :: ks).flatMap (lineL D) ++ r = bodyL D x ++ 10 :: (ks.flatMap (lineL D) ++ r) := by rw [List.flatMap_cons, lineL_body]; simp
      have hc := cut_at (c := 10) (ks.flatMap (lineL D) ++ r) (bodyL_free D x)
      rw [e, List.length_cons, ← Nat.add_assoc, takeT_some (L' := M1) (tk' := bump tk x.1) (by simp) (by rw [hc]) (by rw [hc]; exact a1), hc]
      exact h1 f r
    · rcases List.mem_cons.1 hy with rfl | hy
      · exact h4 _ a3
      · exact h3 y hy
    · rcases h5 k with h | h
      · rw [h]; exact a5 k
      · exact .inr h
theorem lines_len (D : LayD) : ∀ ks : List (Nat × Nat), ks.length ≤ (ks.flatMap (lineL D)).length
  | [] => Nat.le_refl _
  | x :: ks => by
    have := lines_len D ks
    rw [List.flatMap_cons, List.length_append, lineL_body]
    simp only [List.length_cons, List.length_append, List.length_nil] at this ⊢
    omega
theorem agree_v0 {L M : LayD} (h : Agree L M (0, 0)) : L.v 0 = M.v 0 := h 0 (by decide)
theorem seq_mem {n j : Nat} (hj : j < 10) (h2 : j ≠ 2) : (j, 0) ∈ seqN n := by
  have hj' : j = 0 ∨ j = 1 ∨ j = 3 ∨ j = 4 ∨ j = 5 ∨ j = 6 ∨ j = 7 ∨ j = 8 ∨ j = 9 := by omega
  rcases hj' with rfl | rfl | rfl | rfl | rfl | rfl | rfl | rfl | rfl <;> simp [seqN]
theorem seq_two {n t : Nat} (ht : t < n) : (2, t) ∈ seqN n := by simp [seqN, ht]
theorem seq_of {n : Nat} {x : Nat × Nat} (h : x ∈ seqN n) : (x.1 < 10 ∧ x.1 ≠ 2 ∧ x.2 = 0) ∨ (x.1 = 2 ∧ x.2 < n) := by
  simp only [seqN, List.mem_append, List.mem_cons, List.not_mem_nil, or_false, List.mem_map, List.mem_range] at h
  rcases h with ((rfl | rfl) | ⟨t, ht, rfl⟩) | rfl | rfl | rfl | rfl | rfl | rfl | rfl
  all_goals simp_all
theorem agree_mayL {L M : LayD} (hn : L.n = M.n) (h : ∀ x ∈ seqN M.n, Agree L M x) : mayL L = mayL M := by
  have h0 := agree_v0 (h (0, 0) (seq_mem (by decide) (by decide)))
  unfold mayL
  rw [hn]
  congr 1
  rw [Bool.eq_iff_iff, List.all_eq_true, List.all_eq_true]
  refine forall_congr' fun x => forall_congr' fun hx => ?_
  have hx' := h x hx
  unfold okL
  rw [List.all_eq_true, List.all_eq_true]
  refine forall_congr' fun i => forall_congr' fun hi => ?_
  unfold okN
  rw [h0, hx' i (List.mem_range.1 hi)]
theorem agree_textL {L M : LayD} (hn : L.n = M.n) (h : ∀ x ∈ seqN M.n, Agree L M x) : textL L = textL M := by
  unfold textL
  rw [hn, List.flatMap_def, List.flatMap_def]
  congr 1
  refine List.map_congr_left fun x hx => ?_
  rw [lineL_body, lineL_body, bodyL, bodyL]
  congr 3
  exact List.map_congr_left fun i hi => by rw [h x hx i (List.mem_range.1 hi)]
theorem place_of : ∀ k : Fin 21, k.val ≠ 4 → ∃ j : Fin 10, ∃ i : Fin 5, j.val ≠ 2 ∧ i.val < cntK j.val ∧ baseK j.val + i.val = k.val := by decide +kernel
theorem agree_LEq {L M : LayD} (hn : L.n = M.n) (h : ∀ x ∈ seqN M.n, Agree L M x) : LEq L M := by
  refine ⟨hn, fun k hk h4 => ?_, fun t ht => ?_⟩
  · obtain ⟨j, i, h2, hi, e⟩ := place_of ⟨k, hk⟩ h4
    have := h (j.val, 0) (seq_mem j.isLt h2) i.val hi
    simp only [valD, h2, if_false] at this
    simp only at e
    rwa [e] at this
  · have hx := h (2, t) (seq_two (hn ▸ ht))
    exact Prod.ext (hx 0 (Nat.zero_lt_two)) (hx 1 (Nat.one_lt_two))
theorem LEq_agree {L M : LayD} (h : LEq L M) : ∀ x ∈ seqN M.n, Agree L M x := fun x hx i hi => by
  rcases seq_of hx with ⟨h1, h2, _⟩ | ⟨h1, h2⟩
  · have := base_ok h1 h2 hi
    simp only [valD, h2, if_false]
    exact h.2.1 _ this.1 this.2
  · simp only [valD, h1, if_true]
    rw [h.2.2 x.2 (by rw [h.1]; exact h2)]
theorem LEq.symm {L M : LayD} (h : LEq L M) : LEq M L := ⟨h.1.symm, fun k a b => (h.2.1 k a b).symm, fun i hi => (h.2.2 i (by rw [h.1]; exact hi)).symm⟩
theorem LEq.refl (L : LayD) : LEq L L := ⟨rfl, fun _ _ _ => rfl, fun _ _ => rfl⟩
theorem LEq.mayL {L M : LayD} (h : LEq L M) : mayL L = mayL M := agree_mayL h.1 (LEq_agree h)
theorem LEq.textL {L M : LayD} (h : LEq L M) : textL L = textL M := agree_textL h.1 (LEq_agree h)
/-- A text of lines is read. -/
theorem parse_keys (D : LayD) (ks : List (Nat × Nat)) (hw : ∀ x ∈ ks, ∀ i, i < cntK x.1 → Wide (valD D x.1 x.2 i)) (ho : inOrder ks (fun _ => 0) = true) (hn : tookK ks (fun _ => 0) 2 = D.n) (ha : ∀ x ∈ seqN D.n, x ∈ ks ∨ Agree L0 D x) :
    ∃ M, parseT (ks.flatMap (lineL D)) = (if mayL D = true then some M else none) ∧ LEq D M := by
  obtain ⟨M', h1, h2, h3, h4, h5⟩ := take_lines D ks L0 (fun _ => 0) ho hw
  obtain ⟨f, hf⟩ : ∃ f, (ks.flatMap (lineL D)).length + 1 = (f + 1) + ks.length := ⟨(ks.flatMap (lineL D)).length - ks.length, by have := lines_len D ks; omega⟩
  have ht : takeT ((ks.flatMap (lineL D)).length + 1) L0 (fun _ => 0) (ks.flatMap (lineL D)) = some (M', tookK ks (fun _ => 0)) := by
    have := h1 (f + 1) []
    rwa [List.append_nil, ← hf, takeT_end] at this
  have hag : ∀ x ∈ seqN D.n, Agree ⟨M'.v, tookK ks (fun _ => 0) 2, M'.sh⟩ D x := fun x hx => by
    rcases ha x hx with h | h
    · exact h3 x h
    · exact h4 x h
  refine ⟨⟨M'.v, tookK ks (fun _ => 0) 2, M'.sh⟩, ?_, (agree_LEq hn hag).symm⟩
  rw [parseT, ht]
  simp only
  rw [agree_mayL (L := ⟨M'.v, tookK ks (fun _ => 0) 2, M'.sh⟩) hn hag]
set_option maxRecDepth 100000 in
theorem seq_order : ∀ n : Fin 41, inOrder (seqN n.val) (fun _ => 0) = true ∧ tookK (seqN n.val) (fun _ => 0) 2 = n.val := by decide +kernel
theorem seq_turn : ∀ k : Fin 10, inOrder ((seqN 0).drop k.val ++ (seqN 0).take k.val) (fun _ => 0) = true ∧ tookK ((seqN 0).drop k.val ++ (seqN 0).take k.val) (fun _ => 0) 2 = 0 := by decide +kernel
/-- What was written is read. -/
theorem parse_text {D : LayD} {c : Nat} (ok : LayOk D c) (hm : mayL D = true) : ∃ M, parseT (textL D) = some M ∧ LEq D M := by
  have hn : D.n < 41 := by
    unfold mayL at hm
    rw [Bool.and_eq_true, decide_eq_true_eq] at hm
    omega
  obtain ⟨o1, o2⟩ := seq_order ⟨D.n, hn⟩
  obtain ⟨M, h1, h2⟩ := parse_keys D (seqN D.n) (fun x hx i _ => valD_wide ok (j := x.1) (t := x.2) hx) o1 o2 (fun x hx => .inl hx)
  exact ⟨M, by rw [textL, h1, if_pos hm], h2⟩
theorem parse_turned {D : LayD} {c : Nat} (ok : LayOk D c) (hm : mayL D = true) (h0 : D.n = 0) {k : Nat} (hk : k < 10) : ∃ M, parseT (((seqN 0).drop k ++ (seqN 0).take k).flatMap (lineL D)) = some M ∧ LEq D M := by
  obtain ⟨o1, o2⟩ := seq_turn ⟨k, hk⟩
  have hsub : ∀ x ∈ (seqN 0).drop k ++ (seqN 0).take k, x ∈ seqN D.n := fun x hx => by
    rw [h0]
    rcases List.mem_append.1 hx with h | h
    · exact List.mem_of_mem_drop h
    · exact List.mem_of_mem_take h
  obtain ⟨M, h1, h2⟩ := parse_keys D ((seqN 0).drop k ++ (seqN 0).take k) (fun x hx i _ => valD_wide ok (j := x.1) (t := x.2) (hsub x hx)) o1 (o2.trans h0.symm) (fun x hx => .inl (by
    rw [h0, ← List.take_append_drop k (seqN 0)] at hx
    rw [List.mem_append] at hx ⊢
    exact hx.symm))
  exact ⟨M, by rw [h1, if_pos hm], h2⟩
theorem parse_nil : parseT [] = none := by
  have : takeT ([] : List UInt8).length.succ L0 (fun _ => 0) [] = some (L0, fun _ => 0) := takeT_end _ _ _
  rw [parseT, this]
  have hm : mayL ⟨L0.v, 0, L0.sh⟩ = false := by decide +kernel
  simp only [hm]
  rfl
theorem parse_may {l : List UInt8} {L : LayD} (h : parseT l = some L) : mayL L = true := by
  unfold parseT at h
  split at h
  · cases h
  · split at h
    · rename_i hm; cases h; exact hm
    · cases h
theorem mayL_zero : mayL LZ = false := by decide +kernel
/-- Where a byte 10 is, a line ends. -/
theorem ends_at (D : LayD) : ∀ (ks : List (Nat × Nat)) (i : Nat), (ks.flatMap (lineL D))[i]? = some 10 → ∃ k, k ≤ ks.length ∧ i + 1 = ((ks.take k).flatMap (lineL D)).length
  | [], i, h => by simp at h
  | x :: ks, i, h => by
    rw [List.flatMap_cons] at h
    by_cases hi : i < (lineL D x).length
    · rw [List.getElem?_append_left hi, lineL_body] at h
      refine ⟨1, by simp, ?_⟩
      have hb : ¬ i < (bodyL D x).length := fun hb => by
        rw [List.getElem?_append_left hb] at h
        exact bodyL_free D x (List.mem_of_getElem? h)
      simp only [List.take_succ_cons, List.take_zero, List.flatMap_cons, List.flatMap_nil, List.append_nil]
      rw [lineL_body] at hi ⊢
      simp only [List.length_append, List.length_cons, List.length_nil] at hi ⊢
      omega
    · rw [List.getElem?_append_right (by omega)] at h
      obtain ⟨k, h1, h2⟩ := ends_at D ks _ h
      refine ⟨k + 1, by simp; omega, ?_⟩
      rw [List.take_succ_cons, List.flatMap_cons, List.length_append]
      omega
theorem text_cut (D : LayD) (ks : List (Nat × Nat)) (k : Nat) : (ks.flatMap (lineL D)).drop ((ks.take k).flatMap (lineL D)).length = (ks.drop k).flatMap (lineL D) ∧ (ks.flatMap (lineL D)).take ((ks.take k).flatMap (lineL D)).length = (ks.take k).flatMap (lineL D) := by
  have e : ks.flatMap (lineL D) = (ks.take k).flatMap (lineL D) ++ (ks.drop k).flatMap (lineL D) := by rw [← List.flatMap_append, List.take_append_drop]
  rw [e]
  exact ⟨List.drop_left, List.take_left⟩
end L14
end Go.Proofs.YteflkagilhmeiaaDoor

