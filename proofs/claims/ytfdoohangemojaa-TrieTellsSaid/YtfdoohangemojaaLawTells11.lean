/- TrieTells: the numbers of any word's places by any patterns, and how many nodes a trie has, are what the document says, or its error, however often it is asked. For every input, without a condition. -/
import Derived.Test.YtfdoohangemojaaMany11
import Derived.Test.YtfdoohangemojaaRNodes11
import Derived.Test.YtfdoohangemojaaDocC10
import Derived.ChangeMaps5
namespace Go.Proofs.Ytfdoohangemojaa
open Go.ChangeShapes Go.WideShapes Go.ChangeAt Go.RowKit
open Go.Lib hiding intOf
namespace TrieTells
open L10 (TN plainB patB tn rd patsB fewD fewp_any few_len)
open L11

/-- A trie that is asked. -/
structure St (V w : World) (B : Nat) (p : List TN) : Prop where
  x : Ext V w
  b : V.heap.size ≤ B
  t : ∃ F, TrieAt w B F p
theorem St.ext {V w w' : World} {B : Nat} {p : List TN} (h : St V w B p) (x : Ext w w') : St V w' B p := by
  obtain ⟨F, T⟩ := h.t
  exact ⟨h.x.trans x, h.b, F, T.ext x⟩
/-- Numbers that were answered. -/
def Kept (w : World) (B : Nat) (A : Option Addr) (vs : List Int) : Prop := SeenL w A vs ∧ ∀ ad, A = some ad → ad.block ≠ B
theorem Kept.ext {w w' : World} {B : Nat} {A : Option Addr} {vs : List Int} (h : Kept w B A vs) (x : Ext w w') : Kept w' B A vs := ⟨h.1.ext x, h.2⟩
theorem Kept.ask {w w' : World} {B : Nat} {A : Option Addr} {vs : List Int} (h : Kept w B A vs) (x : But (Only B) w w') : Kept w' B A vs := ⟨seenL_but h.1 x h.2, h.2⟩
def StV (V w : World) (B : Nat) (p : List TN) (l : List UInt8) (e : Ending) (w' : World) : Prop :=
  St V w' B p ∧ But (Only B) w w' ∧ ∃ A c, e = .returned (.slice A (valsL p l).length c) ∧ Kept w' B A (valsL p l)
theorem St.vals {V w : World} {B : Nat} {p : List TN} (h : St V w B p) (s : ByteArray) : Calls Try.prog 18 #[.pointer (some ⟨B, 0, none⟩), .string s] w (StV V w B p s.data.toList) := by
  obtain ⟨F, T⟩ := h.t
  refine (vals_any w B F p T s).mono ?_
  rintro e w' ⟨x, F', A, c, rfl, T', _, hs, ha⟩
  exact ⟨⟨x.ext h.x (fun k hk => by rw [show k = B from hk]; exact h.b), h.b, F', T'⟩, x, A, c, rfl, hs, fun ad e hb => by have := (ha ad e).1; have := T.lt; omega⟩
def StN (V w : World) (B : Nat) (p : List TN) (e : Ending) (w' : World) : Prop := e = .returned (.int .i64 (nodesL p).length) ∧ St V w' B p ∧ But (Only B) w w'
theorem St.nodes {V w : World} {B : Nat} {p : List TN} (h : St V w B p) : Calls Try.prog 19 #[.pointer (some ⟨B, 0, none⟩)] w (StN V w B p) := by
  obtain ⟨F, T⟩ := h.t
  refine (nodes_any w B F p T).mono ?_
  rintro e w' ⟨rfl, x, F', T', _⟩
  exact ⟨rfl, ⟨x.ext h.x (fun k hk => by rw [show k = B from hk]; exact h.b), h.b, F', T'⟩, x⟩
theorem same_self {w : World} {A B : Option Addr} {l : List Int} (c d : Nat) (hs : SeenL w A l) (ht : SeenL w B l) (hn : l.length ≤ 1000000) : Calls Try.prog 21 #[.slice A l.length c, .slice B l.length d] w (Ret w (.bool true)) := by
  have := same_lists A B l l c d w hs ht hn
  rwa [decide_eq_true rfl] at this
theorem vals_most (p : List TN) (l : List UInt8) : (valsL p l).length ≤ l.length + 1 := by
  unfold valsL
  split <;> simp
theorem pats_in {D : PatsD} (hp : patsB (rd D) = true) : ∀ y ∈ D.l, patB (tn y) = true := by
  have h1 := L10.patsB_rd D
  rw [hp] at h1
  have h2 := h1.symm
  simp only [Bool.and_eq_true, decide_eq_true_eq, List.all_eq_true] at h2
  exact h2.2.1

set_option maxRecDepth 100000 in
set_option maxHeartbeats 16000000 in
theorem main (D : PatsD) (P : PatsP) (ok : PatsOk D P) (s : ByteArray) (hs : s.size ≤ 60) (o : ByteArray) (ho : o.size ≤ 60) (w : World) (sn : SeenPats w D P) (hf : fewD D = true) (hp : patsB (rd D) = true) :
    Calls Try.prog 4 #[patsV D P, .string s, .string o] w (Ret w (.bool true)) := by
  obtain ⟨f1, f2, f3⟩ := few_len hf
  obtain ⟨V, hV⟩ : ∃ V, V = w.alloc (.cells #[.slice P.x D.l.length P.c, .slice P.y D.m.length P.d] 37) := ⟨_, rfl⟩
  have W0 : Ext w V := by rw [hV]; exact (Ext.refl _).alloc _
  have kB : Blk V w.heap.size 37 [.slice P.x D.l.length P.c, .slice P.y D.m.length P.d] := by rw [hV]; exact Blk.lit _ _ _ _ rfl
  have FEW := Lib.hid (fun w' (x : Ext V w') => by have := fewp_any D P w' ((sn.ext W0).ext x); rw [hf] at this; exact this)
  have NEW := Lib.hid (fun w' (x : Ext V w') => new_yes D P ok.li ok.mi w' ((sn.ext W0).ext x) (by omega) (by omega) hp)
  have hpat := pats_in hp
  have RVA := Lib.hid (fun w' (x : Ext V w') (u : ByteArray) => rvals_any D P w' ((sn.ext W0).ext x) hpat (by omega) u)
  have RND := Lib.hid (fun w' (x : Ext V w') => rnodes_any D P w' ((sn.ext W0).ext x) hpat (by omega))
  have CHK := Lib.hid (fun w' (x : Ext V w') => by
    have := L10.rcheck_any D P ok.li ok.mi (fun y hy => by have := f3 y hy; omega) w' ((sn.ext W0).ext x) (by omega) (by omega)
    rw [hp] at this
    exact this)
  have AW := Lib.hid (awake_any V)
  have hm1 := vals_most (D.l.map tn) s.data.toList
  have hm2 := vals_most (D.l.map tn) o.data.toList
  rw [list_size] at hm1 hm2
  have HM := Lib.hid (And.intro hm1 hm2)
  clear hm1 hm2
  unfold patsV at FEW NEW RVA RND CHK ⊢
  unfold L11.RValsQ at RVA
  obtain ⟨l, m⟩ := D
  obtain ⟨A, c, A2, d⟩ := P
  dsimp only at FEW NEW RVA RND CHK HM kB hV f1 f2 ⊢
  have HX := Lib.hid W0
  generalize l.length = n at *
  generalize m.length = q at *
  generalize l.map tn = p at *
  clear sn ok hp hf f3 W0 hpat
  go_enter Try.func4, Try.ntmps4
  go_upto_region 1 with (fail)
  rw [← hV]
  clear hV
  generalize hR : w.heap.size = R at *
  clear hR
  have KB := Lib.hid kB
  go_wp2_with fail
  refine AW.out.mono ?_; rintro e w1 ⟨rfl, x1⟩
  have q0 := (KB.out.ext x1).cell 0
  have q1 := (KB.out.ext x1).cell 1
  dsimp only [List.getElem?_cons_zero, List.getElem?_cons_succ] at q0 q1
  have X1 := Lib.hid x1
  clear x1 AW kB
  go_wp2_with fail
  refine (FEW.out _ X1.out).mono ?_; rintro e w2 ⟨rfl, x2⟩
  have q0 := x2.at q0
  have q1 := x2.at q1
  have X2 := Lib.hid (X1.out.trans x2)
  clear x2 X1 FEW
  go_wp2_with fail
  refine (NEW.out _ X2.out).mono ?_; rintro e w3 ⟨B, F, rfl, x3, T3, hB, hF⟩
  have S3 := Lib.hid (show St V w3 B p from ⟨X2.out.trans x3, Nat.le_trans X2.out.size hB, F, T3⟩)
  have HB := Lib.hid (show V.heap.size ≤ B from Nat.le_trans X2.out.size hB)
  clear x3 X2 NEW hB hF q1 T3 q0
  go_wp2_with fail
  refine (S3.out.vals s).mono ?_; rintro e w4 ⟨s4, _, Aa, ca, rfl, ka⟩
  have S4 := Lib.hid s4
  have KA := Lib.hid ka
  clear s4 ka S3
  go_wp2_with fail
  refine S4.out.nodes.mono ?_; rintro e w5 ⟨rfl, s5, b5⟩
  have S5 := Lib.hid s5
  have KA := Lib.hid (KA.out.ask b5)
  clear s5 b5 S4
  go_wp2_with fail
  refine (S5.out.vals o).mono ?_; rintro e w6 ⟨s6, b6, Ab, cb, rfl, kb⟩
  have S6 := Lib.hid s6
  have KA := Lib.hid (KA.out.ask b6)
  have KO := Lib.hid kb
  clear s6 b6 S5 kb
  go_wp2_with fail
  refine (S6.out.vals s).mono ?_; rintro e w7 ⟨s7, b7, Ac, cc, rfl, kc⟩
  have S7 := Lib.hid s7
  have KA := Lib.hid (KA.out.ask b7)
  have KO := Lib.hid (KO.out.ask b7)
  have KC := Lib.hid kc
  have q0 := (KB.out.ext s7.x).cell 0
  have q1 := (KB.out.ext s7.x).cell 1
  dsimp only [List.getElem?_cons_zero, List.getElem?_cons_succ] at q0 q1
  clear s7 b7 S6 kc
  go_wp2_with fail
  refine (RVA.out _ S7.out.x s).mono ?_; rintro e w8 ⟨x8, Aw, cw, rfl, kw⟩
  have q0 := x8.at q0
  have q1 := x8.at q1
  have S8 := Lib.hid (S7.out.ext x8)
  have KA := Lib.hid (KA.out.ext x8)
  have KO := Lib.hid (KO.out.ext x8)
  have KC := Lib.hid (KC.out.ext x8)
  have KW := Lib.hid kw
  clear x8 S7 kw
  have hz := HM.out
  generalize hva : valsL p s.data.toList = va at *
  generalize hvb : valsL p o.data.toList = vb at *
  have HVB := Lib.hid hvb
  clear hva hvb
  have SM := Lib.hid (same_self ca cw KA.out.1 KW.out (by omega))
  obtain ⟨za, hza⟩ : ∃ za, za = va.length := ⟨_, rfl⟩
  obtain ⟨zb, hzb⟩ : ∃ zb, zb = vb.length := ⟨_, rfl⟩
  have HZA := Lib.hid hza
  have HZB := Lib.hid hzb
  have RV2 := Lib.hid (fun w' (x : Ext V w') => RVA.out w' x o)
  rw [HVB.out] at RV2
  rw [← hza] at SM ⊢
  rw [← hzb] at RV2 ⊢
  clear hza hzb hz RVA KA
  generalize hN0 : (nodesL p).length = N0 at *
  have HN0 := Lib.hid hN0
  clear hN0
  go_wp2_with fail
  refine SM.out.mono ?_; rintro e w9 ⟨rfl, x9⟩
  have q0 := x9.at q0
  have q1 := x9.at q1
  have S9 := Lib.hid (S8.out.ext x9)
  have KO := Lib.hid (KO.out.ext x9)
  have KC := Lib.hid (KC.out.ext x9)
  have KW := Lib.hid (KW.out.ext x9)
  clear x9 S8 SM
  go_wp2_with fail
  refine (RV2.out _ S9.out.x).mono ?_; rintro e w10 ⟨x10, Au, cu, rfl, ku⟩
  have q0 := x10.at q0
  have q1 := x10.at q1
  have S10 := Lib.hid (S9.out.ext x10)
  have KC := Lib.hid (KC.out.ext x10)
  have KW := Lib.hid (KW.out.ext x10)
  have SM := Lib.hid (same_self cb cu (KO.out.ext x10).1 ku (by have := HM.out; omega))
  rw [← HZB.out] at SM
  clear x10 S9 ku KO RV2
  go_wp2_with fail
  refine SM.out.mono ?_; rintro e w11 ⟨rfl, x11⟩
  have q0 := x11.at q0
  have q1 := x11.at q1
  have S11 := Lib.hid (S10.out.ext x11)
  have SM := Lib.hid (same_self cc cw (KC.out.ext x11).1 (KW.out.ext x11) (by have := HM.out; omega))
  rw [← HZA.out] at SM
  clear x11 S10 KC KW
  go_wp2_with fail
  refine SM.out.mono ?_; rintro e w12 ⟨rfl, x12⟩
  have q0 := x12.at q0
  have q1 := x12.at q1
  have S12 := Lib.hid (S11.out.ext x12)
  clear x12 S11 SM
  go_wp2_with fail
  refine (RND.out _ S12.out.x).mono ?_; rintro e w13 ⟨rfl, x13⟩
  have S13 := Lib.hid (S12.out.ext x13)
  clear x13 S12 RND q0 q1
  (try rw [HN0.out])
  go_wp2_with fail
  refine S13.out.nodes.mono ?_; rintro e w14 ⟨rfl, s14, _⟩
  rw [HN0.out]
  have q0 := (KB.out.ext s14.x).cell 0
  have q1 := (KB.out.ext s14.x).cell 1
  dsimp only [List.getElem?_cons_zero, List.getElem?_cons_succ] at q0 q1
  have S14 := Lib.hid s14
  clear s14 S13
  go_wp2_with fail
  refine (CHK.out _ S14.out.x).mono ?_; rintro e w15 ⟨rfl, x15⟩
  have X15 := Lib.hid ((HX.out.trans S14.out.x).trans x15)
  clear x15 S14 CHK
  go_wp2_with fail
  go_ret
  exact ⟨rfl, X15.out⟩
/-- The other ways out. -/
theorem short (D : PatsD) (P : PatsP) (s o : ByteArray) (w : World) (sn : SeenPats w D P) (h : fewD D = false ∨ 60 < s.size ∨ 60 < o.size) :
    Calls Try.prog 4 #[patsV D P, .string s, .string o] w (Ret w (.bool true)) := by
  obtain ⟨V, hV⟩ : ∃ V, V = w.alloc (.cells #[.slice P.x D.l.length P.c, .slice P.y D.m.length P.d] 37) := ⟨_, rfl⟩
  have W0 : Ext w V := by rw [hV]; exact (Ext.refl _).alloc _
  have kB : Blk V w.heap.size 37 [.slice P.x D.l.length P.c, .slice P.y D.m.length P.d] := by rw [hV]; exact Blk.lit _ _ _ _ rfl
  obtain ⟨b, hb⟩ : ∃ b, fewD D = b := ⟨_, rfl⟩
  have FEW := Lib.hid (fun w' (x : Ext V w') => by have := fewp_any D P w' ((sn.ext W0).ext x); rw [hb] at this; exact this)
  have HB := Lib.hid (show b = false ∨ (b = true ∧ 60 < s.size) ∨ (b = true ∧ ¬ 60 < s.size ∧ 60 < o.size) by
    cases b with
    | false => exact .inl rfl
    | true =>
      by_cases h1 : 60 < s.size
      · exact .inr (.inl ⟨rfl, h1⟩)
      · exact .inr (.inr ⟨rfl, h1, by rcases h with h | h | h; · rw [hb] at h; cases h
                                      · exact absurd h h1
                                      · exact h⟩))
  have AW := Lib.hid (awake_any V)
  unfold patsV at FEW ⊢
  have HX := Lib.hid W0
  clear sn hb h W0
  generalize D.l.length = n at *
  generalize D.m.length = q at *
  obtain ⟨A, c, A2, d⟩ := P
  dsimp only at *
  go_enter Try.func4, Try.ntmps4
  go_upto_region 1 with (fail)
  rw [← hV]
  clear hV
  generalize w.heap.size = R at *
  go_wp2_with fail
  refine AW.out.mono ?_; rintro e w1 ⟨rfl, x1⟩
  have q0 : w1.cell? ⟨R, 0, none⟩ = some (.slice A n c) := (kB.ext x1).cell 0
  have q1 : w1.cell? ⟨R, 1, none⟩ = some (.slice A2 q d) := (kB.ext x1).cell 1
  go_wp2_with fail
  refine (FEW.out _ x1).mono ?_; rintro e w2 ⟨rfl, x2⟩
  have FIN := Lib.hid (show Ext w w2 from (HX.out.trans x1).trans x2)
  rcases HB.out with rfl | ⟨rfl, hs⟩ | ⟨rfl, hs, ho⟩
  all_goals
    clear x1 x2
    go_wp2_with fail
    go_ret
    exact ⟨rfl, FIN.out⟩
theorem none_ (D : PatsD) (P : PatsP) (ok : PatsOk D P) (s : ByteArray) (hs : s.size ≤ 60) (o : ByteArray) (ho : o.size ≤ 60) (w : World) (sn : SeenPats w D P) (hf : fewD D = true) (hp : patsB (rd D) = false) :
    Calls Try.prog 4 #[patsV D P, .string s, .string o] w (Ret w (.bool true)) := by
  obtain ⟨f1, f2, f3⟩ := few_len hf
  obtain ⟨V, hV⟩ : ∃ V, V = w.alloc (.cells #[.slice P.x D.l.length P.c, .slice P.y D.m.length P.d] 37) := ⟨_, rfl⟩
  have W0 : Ext w V := by rw [hV]; exact (Ext.refl _).alloc _
  have kB : Blk V w.heap.size 37 [.slice P.x D.l.length P.c, .slice P.y D.m.length P.d] := by rw [hV]; exact Blk.lit _ _ _ _ rfl
  have FEW := Lib.hid (fun w' (x : Ext V w') => by have := fewp_any D P w' ((sn.ext W0).ext x); rw [hf] at this; exact this)
  have NEW := Lib.hid (fun w' (x : Ext V w') => new_no D P ok.li ok.mi w' ((sn.ext W0).ext x) (by omega) (by omega) hp)
  have CHK := Lib.hid (fun w' (x : Ext V w') => by
    have := L10.rcheck_any D P ok.li ok.mi (fun y hy => by have := f3 y hy; omega) w' ((sn.ext W0).ext x) (by omega) (by omega)
    rw [hp] at this
    exact this)
  have AW := Lib.hid (awake_any V)
  unfold patsV at FEW NEW CHK ⊢
  have HX := Lib.hid W0
  clear sn ok hp hf f1 f2 f3 W0
  generalize D.l.length = n at *
  generalize D.m.length = q at *
  obtain ⟨A, c, A2, d⟩ := P
  dsimp only at *
  go_enter Try.func4, Try.ntmps4
  go_upto_region 1 with (fail)
  rw [← hV]
  clear hV
  generalize w.heap.size = R at *
  go_wp2_with fail
  refine AW.out.mono ?_; rintro e w1 ⟨rfl, x1⟩
  have q0 : w1.cell? ⟨R, 0, none⟩ = some (.slice A n c) := (kB.ext x1).cell 0
  have q1 : w1.cell? ⟨R, 1, none⟩ = some (.slice A2 q d) := (kB.ext x1).cell 1
  have X1 := Lib.hid x1
  clear x1 kB
  go_wp2_with fail
  refine (FEW.out _ X1.out).mono ?_; rintro e w2 ⟨rfl, x2⟩
  have q0 := x2.at q0
  have q1 := x2.at q1
  have X2 := Lib.hid (X1.out.trans x2)
  clear x2 FEW
  go_wp2_with fail
  refine (NEW.out _ X2.out).mono ?_; rintro e w3 ⟨rfl, x3⟩
  have q0 := x3.at q0
  have q1 := x3.at q1
  have X3 := Lib.hid (X2.out.trans x3)
  clear x3 NEW
  go_wp2_with fail
  refine (CHK.out _ X3.out).mono ?_; rintro e w4 ⟨rfl, x4⟩
  have X4 := Lib.hid ((HX.out.trans X3.out).trans x4)
  clear x4 CHK
  go_wp2_with fail
  go_ret
  exact ⟨rfl, X4.out⟩
theorem walk (D : PatsD) (P : PatsP) (ok : PatsOk D P) (s : ByteArray) (_ : s.size ≤ maxLen) (o : ByteArray) (_ : o.size ≤ maxLen) (w : World) (sn : SeenPats w D P) :
    Calls Try.prog 4 #[patsV D P, .string s, .string o] w (Ret w (.bool true)) := by
  cases hf : fewD D with
  | false => exact short D P s o w sn (.inl hf)
  | true =>
    by_cases hs : s.size ≤ 60
    · by_cases ho : o.size ≤ 60
      · cases hp : patsB (rd D) with
        | false => exact none_ D P ok s hs o ho w sn hf hp
        | true => exact main D P ok s hs o ho w sn hf hp
      · exact short D P s o w sn (.inr (.inr (by omega)))
    · exact short D P s o w sn (.inr (.inl (by omega)))

set_option maxRecDepth 100000 in
theorem lifted (os : Os) (started : os.Started) (H : Type) (enc : TypeId × Value → H) :
    ReturnsInHanded {} Try.checked os 4 .any (Rows.trieTellsSpec.pre6 enc Try.prog Try.f4 [] false) (Rows.trieTellsSpec.post enc Try.prog Try.f4 false true false false) := by
  refine law_lift (C := Try.checked) own started (by kernel_rfl) Try.func4 laidOut rfl rfl Try.underlying4 (by kernel_rfl) ?_
    (ChangeSpec.witness6 (enc := enc) (C := Try.checked) false ⟨#[], #[.agg #[.slice none 0 0, .slice none 0 0], .string ByteArray.empty, .string ByteArray.empty], []⟩ 8 (by kernel_rfl) (by kernel_rfl) (by kernel_rfl) (by kernel_rfl)) ?_
  · intro H ds h
    match ds, h with
    | [_, _, _], _ => rfl
  · intro W base args ds p hval hA hlt hwt hsh
    rw [Try.params4] at hA hval
    obtain ⟨v0, vs0, d0, ds0, p0, q0, hargs, rfl, rfl, h0, r0⟩ := trodAll_cons hA
    obtain ⟨v1, vs1, d1, ds1, p1, q1, rfl, rfl, rfl, h1, r1⟩ := trodAll_cons r0
    obtain ⟨v2, vs2, d2, ds2, p2, q2, rfl, rfl, rfl, h2, r2⟩ := trodAll_cons r1
    obtain ⟨rfl, rfl, rfl⟩ := trodAll_nil r2
    obtain rfl : args = #[v0, v1, v2] := by cases args; simp_all
    obtain ⟨D0, P0, rfl, ok0, hs0⟩ := arg_pats (hval 0 37 v0 rfl rfl) h0
    obtain ⟨a1, rfl, rfl, rfl, hs1⟩ := Go.ChangeMaps.open_string Try.underlying9 (hval 1 9 v1 rfl rfl) h1
    obtain ⟨a2, rfl, rfl, rfl, hs2⟩ := Go.ChangeMaps.open_string Try.underlying9 (hval 2 9 v2 rfl rfl) h2
    exact walk D0 P0 ok0 a1 hs1 a2 hs2 W hs0

theorem holds : Rows.TrieTellsSaid :=
  OpenClaim.holds_of_wide 4 Try.f4 rfl rfl rfl rfl rfl rfl rfl ⟨rfl, rfl, rfl, rfl, rfl⟩ rfl rfl rfl rfl rfl (by kernel_rfl) Try.func4 (by kernel_rfl)
    (of_decide_eq_true (by kernel_rfl)) (by unfold Func.isWrapper; first | (rw [if_pos (by decide +kernel)]; kernel_rfl) | (rw [if_neg (by decide +kernel)]; exact ⟨rfl, rfl⟩))
    (fun os started H enc _ => lifted os started H enc)
end TrieTells
end Go.Proofs.Ytfdoohangemojaa

