/- What a code is made of: the document's one, over whatever pairs. -/
import Derived.Test.YtijhabhnhglhgaaRCheck08
import Derived.Test.YtijhabhnhglhgaaExpand08
namespace Go.Proofs.Ytijhabhnhglhgaa
open Go.RowKit Go.Lib Go.Deep
namespace L08
open L07

/-- What one answers: a row of its own. -/
def OneQ (w : World) (l : List Int) (e : Ending) (w' : World) : Prop :=
  ∃ v', e = .returned v' ∧ w'.ownsRow w.heap.size 3 1 v' l.length (l.map (.int .i64)) ∧ Ext w w'
theorem own_base {w : World} {b b' : Nat} {e : TypeId} {size n : Nat} {v : Value} {xs : List Value} (h : w.ownsRow b e size v n xs) (hb : b' ≤ b) : w.ownsRow b' e size v n xs := by
  refine ⟨h.1, ?_⟩
  rcases h.2 with hn | ⟨g, cap, cur, rfl, hg, rest⟩
  · exact .inl hn
  · exact .inr ⟨g, cap, cur, rfl, Nat.le_trans hb hg, rest⟩
theorem findP_drop (c : Int) : ∀ (g : List Tri) (k : Nat), k < g.length → (g.getD k (0, 0, 0)).2.2 ≠ c → findP c (g.drop k) = findP c (g.drop (k + 1))
  | [], k, h, _ => by simp at h
  | p :: t, 0, _, h => by simp only [List.drop_zero, List.drop_succ_cons, findP]; rw [if_neg (by simpa using h)]
  | p :: t, k + 1, h, hn => by simp only [List.drop_succ_cons]; exact findP_drop c t k (by simpa using h) (by simpa using hn)
theorem findP_hit (c : Int) : ∀ (g : List Tri) (k : Nat), k < g.length → (g.getD k (0, 0, 0)).2.2 = c → findP c (g.drop k) = some ((g.getD k (0, 0, 0)).1, (g.getD k (0, 0, 0)).2.1)
  | [], k, h, _ => by simp at h
  | p :: t, 0, _, h => by simp only [List.drop_zero, findP]; rw [if_pos (by simpa using h)]; simp
  | p :: t, k + 1, h, hn => by simp only [List.drop_succ_cons]; exact findP_hit c t k (by simpa using h) (by simpa using hn)
theorem findP_no (c : Int) : ∀ (g : List Tri), findP c g = none → ∀ k, k < g.length → (g.getD k (0, 0, 0)).2.2 ≠ c
  | [], _, k, h => by simp at h
  | p :: t, hno, k, h => by
    simp only [findP] at hno
    split at hno
    · cases hno
    · rename_i hp
      cases k with
      | zero => simpa using hp
      | succ k => simpa using findP_no c t hno k (by simpa using h)

set_option maxRecDepth 100000 in
set_option maxHeartbeats 8000000 in
theorem one_none (g : List Tri) (A : Option Addr) (cp : Nat) (hgl : g.length ≤ 100000) (c : Int) (w : World) (hno : findP c g = none) (f : Nat) (sn : SeenT w A g) :
    Calls Try.prog 36 #[.slice A g.length cp, .int .i64 c] w (OneQ w (exp1 (fun c => findP c g) f c)) := by
  have HE := Lib.hid (show exp1 (fun c => findP c g) f c = [c] by cases f <;> simp only [exp1, hno])
  have HO := Lib.hid (show OneQ w [c] (.returned (.slice (some ⟨w.heap.size, 0, none⟩) 1 1)) (w.alloc (.cells #[.int .i64 c] 3)) from
    ⟨_, rfl, World.ownsRow_lit (base := w.heap.size) (e := 3) (size := 1) w #[.int .i64 c] 1 (Nat.le_refl _) (by simp [maxLen]) (by simp), (Ext.refl _).alloc _⟩)
  have hall : ∀ k, k < g.length → (g.getD k (0, 0, 0)).2.2 ≠ c := by
    exact fun k hk => findP_no c g hno k hk
  have HA := Lib.hid hall
  obtain ⟨n, hn⟩ : ∃ n, n = g.length := ⟨_, rfl⟩
  rw [← hn] at hgl ⊢
  have HN := Lib.hid hn
  obtain ⟨R, hR⟩ : ∃ R, exp1 (fun c => findP c g) f c = R := ⟨_, rfl⟩
  rw [hR]
  have HR := Lib.hid (show R = [c] by rw [← hR]; exact HE.out)
  have SN := Lib.hid sn
  clear hno hall hn hR HE sn
  go_enter Try.func36, Try.ntmps36
  go_wp2_with fail
  go_loop [5] (fun i => ∃ k : Nat, k ≤ n ∧ i = .int .i64 k) (fun i => n - (intOf i).toNat)
  case atStart => exact ⟨0, Nat.zero_le _, rfl⟩
  case round =>
    obtain ⟨k, hk, rfl⟩ := hrel
    by_cases hlt : k < n
    · have hlg : k < g.length := by rw [← HN.out]; exact hlt
      obtain ⟨ad, rfl, e0, e1, e2⟩ := row3 SN.out hlg
      have hz := HA.out k hlg
      have a2 : triA g k 2 = (g.getD k (0, 0, 0)).2.2 := rfl
      rw [a2] at e2
      generalize (g.getD k (0, 0, 0)).2.2 = z at *
      have hz : (z == c) = false := by simpa using hz
      have hk64 : (k : Int) < (n : Int) := by omega
      clear a2 e0 e1
      go_wp2_with fail
      go_round
      case rel => exact ⟨k + 1, by omega, by go_num⟩
      case measure => simp [intOf]; omega
    · go_wp2_with fail
      go_ret
      rw [HR.out]
      exact HO.out

set_option maxRecDepth 100000 in
set_option maxHeartbeats 8000000 in
theorem one_any (g : List Tri) (A : Option Addr) (cp : Nat) (hgl : g.length ≤ 100000) (hg : ∀ c p, findP c g = some p → 128 ≤ c ∧ c < 256 ∧ 0 ≤ p.1 ∧ p.1 < c ∧ 0 ≤ p.2 ∧ p.2 < 128) :
    ∀ (f : Nat) (c : Int) (w : World), (∀ p, findP c g = some p → c ≤ f) → f ≤ 1000 → SeenT w A g →
      Calls Try.prog 36 #[.slice A g.length cp, .int .i64 c] w (OneQ w (exp1 (fun c => findP c g) f c)) := by
  intro f
  induction f with
  | zero =>
    intro c w hcf _ sn
    have hno : findP c g = none := by
      cases h : findP c g with
      | none => rfl
      | some p => have := hcf p h; have := hg c p h; omega
    exact one_none g A cp hgl c w hno 0 sn
  | succ f ih =>
    intro c w hcf hf1 sn
    cases hfp : findP c g with
    | none => exact one_none g A cp hgl c w hfp (f + 1) sn
    | some p =>
    obtain ⟨p1, p2⟩ := p
    have hcf := hcf _ hfp
    obtain ⟨h128, h256, h1a, h1b, h2a, h2b⟩ := hg c _ hfp
    have IH := Lib.hid (fun w' (s : SeenT w' A g) => ih p1 w' (fun q hq => by have := (hg _ _ hq); omega) (by omega) s)
    have HE := Lib.hid (show exp1 (fun c => findP c g) (f + 1) c = exp1 (fun c => findP c g) f p1 ++ [p2] by simp only [exp1, hfp])
    have hL := exp1_length (fun c => findP c g) f p1
    generalize exp1 (fun c => findP c g) f p1 = L at *
    obtain ⟨R, hR⟩ : ∃ R, exp1 (fun c => findP c g) (f + 1) c = R := ⟨_, rfl⟩
    rw [hR]
    have HR : Hid (R = L ++ [p2]) := Lib.hid (hR ▸ HE.out)
    obtain ⟨n, hn⟩ : ∃ n, n = g.length := ⟨_, rfl⟩
    have HF := Lib.hid (show findP c (g.drop 0) = some (p1, p2) from hfp)
    rw [← hn] at IH hgl ⊢
    have HN := Lib.hid hn
    clear ih hcf hg hR HE hn hfp
    have hn64 : (n : Int) ≤ 100000 := by omega
    have SN := Lib.hid sn
    clear sn
    go_enter Try.func36, Try.ntmps36
    go_wp2_with fail
    go_loop [5] (fun i => ∃ k : Nat, k ≤ n ∧ i = .int .i64 k ∧ Hid (findP c (g.drop k) = some (p1, p2))) (fun i => n - (intOf i).toNat)
    case atStart => exact ⟨0, Nat.zero_le _, rfl, HF⟩
    case round =>
      obtain ⟨k, hk, rfl, hfk⟩ := hrel
      have hlt : k < n := by
        rcases Nat.lt_or_ge k n with h | h
        · exact h
        · have := hfk.out
          rw [List.drop_of_length_le (by rw [← HN.out]; exact h)] at this
          cases this
      have hlg : k < g.length := by rw [← HN.out]; exact hlt
      obtain ⟨ad, rfl, e0, e1, e2⟩ := row3 SN.out hlg
      have a0 : triA g k 0 = (g.getD k (0, 0, 0)).1 := rfl
      have a1 : triA g k 1 = (g.getD k (0, 0, 0)).2.1 := rfl
      have a2 : triA g k 2 = (g.getD k (0, 0, 0)).2.2 := rfl
      have hk64 : (k : Int) < (n : Int) := by omega
      by_cases hc : (g.getD k (0, 0, 0)).2.2 = c
      · have hh := findP_hit c g k hlg hc
        rw [hfk.out] at hh
        simp only [Option.some.injEq, Prod.mk.injEq] at hh
        rw [a0, ← hh.1] at e0
        rw [a1, ← hh.2] at e1
        rw [a2, hc] at e2
        clear a0 a1 a2 hh hc
        have KS := Lib.hid (fun w' (x : Ext w w') => show w'.cell? (ad.add (k * 3)) = some (.int .i64 p1) ∧ w'.cell? ⟨(ad.add (k * 3)).block, (ad.add (k * 3)).off + 1, none⟩ = some (.int .i64 p2) ∧ w'.cell? ⟨(ad.add (k * 3)).block, (ad.add (k * 3)).off + 2, none⟩ = some (.int .i64 c) from ⟨x.at e0, x.at e1, x.at e2⟩)
        have FIN := Lib.hid (fun (w2 : World) (v2 : Value) (a : Addr) (h2 : w2.ownsRow w.heap.size 3 1 v2 L.length (L.map (.int .i64))) (x2 : Ext w w2) (hca : w2.cell? a = some (.int .i64 p2)) =>
          (show ∃ v' w', (Builtin.append_ #[25, 25] 25 #[v2, .slice (some a) 1 1]).run Try.prog w2 = .ok v' w' ∧ OneQ w R (.returned v') w' ∧ Ext w w' from by
            obtain ⟨v', w', hr, ho, hx, _, _⟩ := run_put1 h2 x2 a p2 hca (by omega) 25
            refine ⟨v', w', hr, ⟨v', rfl, ?_, hx⟩, hx⟩
            rw [HR.out, List.length_append, List.map_append]; exact ho))
        go_wp2_with fail
        refine wp_region_noPanic ?_
        refine wp_region_held_drew (S := (fun w' => w'.cell? (ad.add (k * 3)) = some (.int .i64 p1) ∧ w'.cell? ⟨(ad.add (k * 3)).block, (ad.add (k * 3)).off + 1, none⟩ = some (.int .i64 p2) ∧ w'.cell? ⟨(ad.add (k * 3)).block, (ad.add (k * 3)).off + 2, none⟩ = some (.int .i64 c))) (by kernel_rfl) (KS.out _ (Ext.refl _).drew) (fun h0 => ?_)
        refine wpAnyH_take (i := 0) (oi := ?_) (v := ?_) ?_ (by kernel_rfl) (by kernel_rfl) (by kernel_rfl) ?_ ?_ h0 ?_
        rotate_left 2
        · simp only [List.getElem?_toArray, List.getElem?_cons_zero]; rfl
        · exact fun _ _ _ h => h
        · refine Or.inl ⟨by rfl, ?_⟩
          intro w hSw
          (try dsimp only at hSw)
          go_simp
          (try with_reducible rfl)
        (try simp only [Act.put, List.setIfInBounds_toArray, List.set_cons_zero, List.set_cons_succ])
        refine wpAnyH_take (i := 1) (oi := ?_) (v := ?_) ?_ (by kernel_rfl) (by kernel_rfl) (by kernel_rfl) ?_ ?_ h0 ?_
        rotate_left 2
        · simp only [List.getElem?_toArray, List.getElem?_cons_zero, List.getElem?_cons_succ]; rfl
        · exact fun _ _ _ h => h
        · refine Or.inl ⟨by rfl, ?_⟩
          intro w hSw
          (try dsimp only at hSw)
          go_simp
          (try with_reducible rfl)
        (try simp only [Act.put, List.setIfInBounds_toArray, List.set_cons_zero, List.set_cons_succ])
        refine wpAnyH_take (i := 2) (oi := ?_) (v := ?_) ?_ (by kernel_rfl) (by kernel_rfl) (by kernel_rfl) ?_ ?_ h0 ?_
        rotate_left 2
        · simp only [List.getElem?_toArray, List.getElem?_cons_zero, List.getElem?_cons_succ]; rfl
        · exact fun _ _ _ h => h
        · refine Or.inl ⟨by rfl, ?_⟩
          intro w hSw
          (try dsimp only at hSw)
          go_simp
          (try with_reducible rfl)
        (try simp only [Act.put, List.setIfInBounds_toArray, List.set_cons_zero, List.set_cons_succ])
        refine wpAnyH_take (i := 3) (oi := ?_) (v := ?_) ?_ (by kernel_rfl) (by kernel_rfl) (by kernel_rfl) ?_ ?_ h0 ?_
        rotate_left 2
        · simp only [List.getElem?_toArray, List.getElem?_cons_zero, List.getElem?_cons_succ]; rfl
        · exact fun _ _ _ h => h
        · refine Or.inl ⟨by rfl, ?_⟩
          intro w hSw
          (try dsimp only at hSw)
          go_simp
          (try with_reducible rfl)
        (try simp only [Act.put, List.setIfInBounds_toArray, List.set_cons_zero, List.set_cons_succ])
        refine wpAnyH_take (i := 4) (oi := ?_) (v := ?_) ?_ (by kernel_rfl) (by kernel_rfl) (by kernel_rfl) ?_ ?_ h0 ?_
        rotate_left 2
        · simp only [List.getElem?_toArray, List.getElem?_cons_zero, List.getElem?_cons_succ]; rfl
        · exact fun _ _ _ h => h
        · refine Or.inl ⟨by rfl, ?_⟩
          intro w hSw
          (try dsimp only at hSw)
          go_simp
          (try with_reducible rfl)
        (try simp only [Act.put, List.setIfInBounds_toArray, List.set_cons_zero, List.set_cons_succ])
        refine wpAnyH_take (i := 5) (oi := ?_) (v := ?_) ?_ (by kernel_rfl) (by kernel_rfl) (by kernel_rfl) ?_ ?_ h0 ?_
        rotate_left 2
        · simp only [List.getElem?_toArray, List.getElem?_cons_zero, List.getElem?_cons_succ]; rfl
        · exact fun _ _ _ h => h
        · refine Or.inl ⟨by rfl, ?_⟩
          intro w hSw
          (try dsimp only at hSw)
          go_simp
          (try with_reducible rfl)
        (try simp only [Act.put, List.setIfInBounds_toArray, List.set_cons_zero, List.set_cons_succ])
        refine wpAnyH_take (i := 7) (oi := ?_) (v := ?_) ?_ (by kernel_rfl) (by kernel_rfl) (by kernel_rfl) ?_ ?_ h0 ?_
        rotate_left 2
        · simp only [List.getElem?_toArray, List.getElem?_cons_zero, List.getElem?_cons_succ]; rfl
        · exact fun _ _ _ h => h
        · refine Or.inl ⟨by rfl, ?_⟩
          intro w hSw
          (try dsimp only at hSw)
          go_simp
          (try with_reducible rfl)
        (try simp only [Act.put, List.setIfInBounds_toArray, List.set_cons_zero, List.set_cons_succ])
        refine wpAnyH_take (i := 8) (oi := ?_) (v := ?_) ?_ (by kernel_rfl) (by kernel_rfl) (by kernel_rfl) ?_ ?_ h0 ?_
        rotate_left 2
        · simp only [List.getElem?_toArray, List.getElem?_cons_zero, List.getElem?_cons_succ]; rfl
        · exact fun _ _ _ h => h
        · refine Or.inl ⟨by rfl, ?_⟩
          intro w hSw
          (try dsimp only at hSw)
          go_simp
          (try with_reducible rfl)
        (try simp only [Act.put, List.setIfInBounds_toArray, List.set_cons_zero, List.set_cons_succ])
        refine wpAnyH_take (i := 9) (oi := ?_) (v := ?_) ?_ (by kernel_rfl) (by kernel_rfl) (by kernel_rfl) ?_ ?_ h0 ?_
        rotate_left 2
        · simp only [List.getElem?_toArray, List.getElem?_cons_zero, List.getElem?_cons_succ]; rfl
        · exact fun _ _ _ h => h
        · refine Or.inl ⟨by rfl, ?_⟩
          intro w hSw
          (try dsimp only at hSw)
          go_simp
          (try with_reducible rfl)
        (try simp only [Act.put, List.setIfInBounds_toArray, List.set_cons_zero, List.set_cons_succ])
        refine wpAnyH_take (i := 10) (oi := ?_) (v := ?_) ?_ (by kernel_rfl) (by kernel_rfl) (by kernel_rfl) ?_ ?_ h0 ?_
        rotate_left 2
        · simp only [List.getElem?_toArray, List.getElem?_cons_zero, List.getElem?_cons_succ]; rfl
        · exact fun _ _ _ h => h
        · refine Or.inl ⟨by rfl, ?_⟩
          intro w hSw
          (try dsimp only at hSw)
          go_simp
          (try with_reducible rfl)
        (try simp only [Act.put, List.setIfInBounds_toArray, List.set_cons_zero, List.set_cons_succ])
        refine wpAnyH_take (i := 11) (oi := ?_) (v := ?_) ?_ (by kernel_rfl) (by kernel_rfl) (by kernel_rfl) ?_ ?_ h0 ?_
        rotate_left 2
        · simp only [List.getElem?_toArray, List.getElem?_cons_zero, List.getElem?_cons_succ]; rfl
        · exact fun _ _ _ h => h
        · refine Or.inl ⟨by rfl, ?_⟩
          intro w hSw
          (try dsimp only at hSw)
          go_simp
          (try with_reducible rfl)
        (try simp only [Act.put, List.setIfInBounds_toArray, List.set_cons_zero, List.set_cons_succ])
        refine wpAnyH_ready (rs := [6, 12]) (by kernel_rfl) (by simp) ?_
        refine AllReadyH.cons (o := ?_) ?_ (fun K hK => ?_) ?_
        rotate_left
        · simp only [List.getElem?_toArray, List.getElem?_cons_zero, List.getElem?_cons_succ]; rfl
        · go_simp
          refine (IH.out _ (SN.out.ext ((Ext.refl _).drew))).mono ?_
          rintro e w2 ⟨v2, rfl, ho2, hx2⟩
          have hx2' : Ext w w2 := ext_drew hx2
          have x3 := hx2'.alloc (.cells #[.int .i64 p2] 3)
          obtain ⟨v', w', hr, hq, hxW⟩ := FIN.out (w2.alloc (.cells #[.int .i64 p2] 3)) v2 ⟨w2.heap.size, 0, none⟩ (ho2.alloc _) x3 (by simp)
          refine hK.out _ _ (KS.out _ hx2') (fun h1 => ?_)
          clear hK K
          (try simp only [Act.put, List.setIfInBounds_toArray, List.set_cons_zero, List.set_cons_succ])
          refine wpAnyH_ready (rs := [12]) (by kernel_rfl) (by simp) ?_
          refine AllReadyH.cons (o := ?_) ?_ (fun K hK => ?_) AllReadyH.nil
          rotate_left
          · simp only [List.getElem?_toArray, List.getElem?_cons_zero, List.getElem?_cons_succ]; rfl
          go_simp
          refine hK.out _ _ (KS.out _ x3) (fun h2 => ?_)
          clear hK K
          (try simp only [Act.put, List.setIfInBounds_toArray, List.set_cons_zero, List.set_cons_succ])
          refine wpAnyH_ready (rs := [13]) (by kernel_rfl) (by simp) ?_
          refine AllReadyH.cons (o := ?_) ?_ (fun K hK => ?_) AllReadyH.nil
          rotate_left
          · simp only [List.getElem?_toArray, List.getElem?_cons_zero, List.getElem?_cons_succ]; rfl
          refine step_app (.tmp 25) (.tmp 31) rfl (by kernel_rfl) hr ?_
          refine hK.out _ _ (KS.out _ hxW) (fun h3 => ?_)
          clear hK K
          (try simp only [Act.put, List.setIfInBounds_toArray, List.set_cons_zero, List.set_cons_succ])
          refine wpAnyH_take (i := 14) (oi := ?_) (v := ?_) ?_ (by kernel_rfl) (by kernel_rfl) (by kernel_rfl) ?_ ?_ h3 ?_
          rotate_left 2
          · simp only [List.getElem?_toArray, List.getElem?_cons_zero, List.getElem?_cons_succ]; rfl
          · exact fun _ _ _ h => h
          · refine Or.inl ⟨by rfl, ?_⟩
            intro w hSw
            (try dsimp only at hSw)
            go_simp
            (try with_reducible rfl)
          (try simp only [Act.put, List.setIfInBounds_toArray, List.set_cons_zero, List.set_cons_succ])
          refine wpAnyH_done (by kernel_rfl) ?_ _
          refine NoPanic.normal ?_
          clear h0 h1 h2 h3 hr
          go_wp2_with fail
          go_ret
          exact hq
        · refine AllReadyH.cons (o := ?_) ?_ (fun K hK => ?_) AllReadyH.nil
          rotate_left
          · simp only [List.getElem?_toArray, List.getElem?_cons_zero, List.getElem?_cons_succ]; rfl
          go_simp
          have xa : Ext w (w.drew.alloc (.cells #[.int .i64 p2] 3)) := ((Ext.refl w).drew).alloc _
          refine hK.out _ _ (KS.out _ xa) (fun h1 => ?_)
          clear hK K
          (try simp only [Act.put, List.setIfInBounds_toArray, List.set_cons_zero, List.set_cons_succ])
          refine wpAnyH_ready (rs := [6]) (by kernel_rfl) (by simp) ?_
          refine AllReadyH.cons (o := ?_) ?_ (fun K hK => ?_) AllReadyH.nil
          rotate_left
          · simp only [List.getElem?_toArray, List.getElem?_cons_zero, List.getElem?_cons_succ]; rfl
          go_simp
          refine (IH.out _ (SN.out.ext xa)).mono ?_
          rintro e w2 ⟨v2, rfl, ho2, hx2⟩
          have hx2' : Ext w w2 := xa.trans hx2
          have kN : Blk (w.drew.alloc (.cells #[.int .i64 p2] 3)) w.heap.size 3 [.int .i64 p2] := Blk.lit _ _ _ _ rfl
          have hca : w2.cell? ⟨w.heap.size, 0, none⟩ = some (.int .i64 p2) := hx2.at (kN.cell 0)
          obtain ⟨v', w', hr, hq, hxW⟩ := FIN.out w2 v2 ⟨w.heap.size, 0, none⟩ (own_base ho2 xa.size) hx2' hca
          refine hK.out _ _ (KS.out _ hx2') (fun h2 => ?_)
          clear hK K
          (try simp only [Act.put, List.setIfInBounds_toArray, List.set_cons_zero, List.set_cons_succ])
          refine wpAnyH_ready (rs := [13]) (by kernel_rfl) (by simp) ?_
          refine AllReadyH.cons (o := ?_) ?_ (fun K hK => ?_) AllReadyH.nil
          rotate_left
          · simp only [List.getElem?_toArray, List.getElem?_cons_zero, List.getElem?_cons_succ]; rfl
          refine step_app (.tmp 25) (.tmp 31) rfl (by kernel_rfl) hr ?_
          refine hK.out _ _ (KS.out _ hxW) (fun h3 => ?_)
          clear hK K
          (try simp only [Act.put, List.setIfInBounds_toArray, List.set_cons_zero, List.set_cons_succ])
          refine wpAnyH_take (i := 14) (oi := ?_) (v := ?_) ?_ (by kernel_rfl) (by kernel_rfl) (by kernel_rfl) ?_ ?_ h3 ?_
          rotate_left 2
          · simp only [List.getElem?_toArray, List.getElem?_cons_zero, List.getElem?_cons_succ]; rfl
          · exact fun _ _ _ h => h
          · refine Or.inl ⟨by rfl, ?_⟩
            intro w hSw
            (try dsimp only at hSw)
            go_simp
            (try with_reducible rfl)
          (try simp only [Act.put, List.setIfInBounds_toArray, List.set_cons_zero, List.set_cons_succ])
          refine wpAnyH_done (by kernel_rfl) ?_ _
          refine NoPanic.normal ?_
          clear h0 h1 h2 h3 hr
          go_wp2_with fail
          go_ret
          exact hq
      · have HK := Lib.hid (by rw [← findP_drop c g k hlg hc]; exact hfk.out : findP c (g.drop (k + 1)) = some (p1, p2))
        rw [a2] at e2
        generalize (g.getD k (0, 0, 0)).2.2 = z at *
        have hz : (z == c) = false := by simpa using hc
        clear a0 a1 a2 hfk e0 e1
        go_wp2_with fail
        go_round
        case rel => exact ⟨k + 1, by omega, by go_num, HK⟩
        case measure => simp [intOf]; omega
end L08
end Go.Proofs.Ytijhabhnhglhgaa

