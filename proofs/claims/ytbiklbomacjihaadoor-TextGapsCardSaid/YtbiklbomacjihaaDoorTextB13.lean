/- The landed spell of layer 13: a word's bytes. -/
import Derived.Test.YtbiklbomacjihaaDoorTextA13
import Derived.Test.YtbiklbomacjihaaDoorDocC13
import Derived.Lib.AppendStr
import Derived.Laws.DeepStrings4
namespace Go.Proofs.YtbiklbomacjihaaDoor
open Go.RowKit
namespace L13
open L10 (risesB)

/-- An append of a text whose run is known. -/
theorem wpList_ranS {P : Program} {w w' : World} {ops : Array Oper} {rest : List Oper} {o : Oper} {a : Act} {Q : Exit → Act → World → Prop} {t u : TypeId} {v : Value} (hgd : o.guard = none) (s x : Operand)
    (ho : o.op = .call { callee := .builtin .append, args := #[s, x], argTypes := #[t, u] }) (hrun : (Builtin.append_ #[t, u] o.type #[a.eval s, a.eval x]).run P w = .ok v w')
    (h : wpList P ops Q rest (a.put o.dst v) w') : wpList P ops Q (o :: rest) a w := by
  refine wpList_plain hgd fun K hK => ?_
  unfold Oper.wp execOp
  simp only [ho, resolve, invoke, builtin, Sem.run_bind, Sem.run_pure, Result.andThen_ok, List.map_toArray, List.map_cons, List.map_nil, hrun]
  exact hK _ _ h
/-- append(own, text...). -/
theorem run_str {w w0 : World} {v : Value} {m : List UInt8} (h : OwnB 5 w0 w v m) (s : ByteArray) (hm : m.length + s.size ≤ 900000) (ty : TypeId) :
    ∃ v' w', (Builtin.append_ #[22, 9] ty #[v, .string s]).run Tryd.prog w = .ok v' w' ∧ OwnB 5 w0 w' v' (m ++ s.data.toList) := by
  obtain ⟨i, h1, h2, h3, h4⟩ := info_parts byte_info13
  obtain ⟨v', w', hr, ho, hg, _⟩ := Lib.run_append_own_string (P := Tryd.prog) (w := w) w0.heap.size 22 9 ty 5 i Tryd.underlying22 Tryd.underlying9 h1 h2 h3 h4 v m.length (bv m) h.1 s (by unfold maxLen; omega) (by omega) h.2.size
  refine ⟨v', w', hr, ?_, Below.grown h.2 hg h.2.size (fun n e => (h.1.lt n e).1)⟩
  have e : Lib.strCells s = bv s.data.toList := by
    simp [Lib.strCells, bv]
  rw [e] at ho
  rw [List.length_append, bv_append, show s.data.toList.length = s.size by simp]
  exact ho
/-- The places ahead of j are below k, the others not. -/
def Part (ss : List Int) (j : Nat) (k : Int) : Prop := j ≤ ss.length ∧ (∀ t, t < j → ss.getD t 0 < k) ∧ ∀ t, j ≤ t → t < ss.length → k ≤ ss.getD t 0
theorem getD_mem {l : List Int} {k : Nat} (h : k < l.length) : l.getD k 0 ∈ l := by
  rw [List.getD, List.getElem?_eq_getElem h]; exact List.getElem_mem h
theorem mem_getD {l : List Int} {a : Int} (h : a ∈ l) : ∃ i, i < l.length ∧ l.getD i 0 = a := by
  obtain ⟨i, hi, rfl⟩ := List.getElem_of_mem h
  exact ⟨i, hi, by rw [List.getD, List.getElem?_eq_getElem hi]; rfl⟩
theorem pair_lt {l : List Int} (hp : l.Pairwise (· < ·)) {i j : Nat} (hij : i < j) (hj : j < l.length) : l.getD i 0 < l.getD j 0 := by
  have := List.pairwise_iff_getElem.1 hp i j (by omega) hj hij
  rw [List.getD, List.getD, List.getElem?_eq_getElem hj, List.getElem?_eq_getElem (show i < l.length by omega)]
  exact this
theorem Part.start {ss : List Int} (h : ∀ a ∈ ss, 0 ≤ a) : Part ss 0 0 := ⟨Nat.zero_le _, fun t h => absurd h (by omega), fun _ _ ht => h _ (getD_mem ht)⟩
theorem Part.hit {ss : List Int} {j : Nat} {k : Int} (h : Part ss j k) (hp : ss.Pairwise (· < ·)) (hj : j < ss.length) (e : ss.getD j 0 = k) : k ∈ ss ∧ Part ss (j + 1) (k + 1) := by
  refine ⟨e ▸ getD_mem hj, hj, fun t ht => ?_, fun t h1 h2 => ?_⟩
  · rcases Nat.lt_or_ge t j with h1 | h1
    · have := h.2.1 t h1; omega
    · obtain rfl : t = j := by omega
      omega
  · have := pair_lt hp (show j < t by omega) h2
    omega
theorem Part.miss {ss : List Int} {j : Nat} {k : Int} (h : Part ss j k) (hp : ss.Pairwise (· < ·)) (e : j < ss.length → ss.getD j 0 ≠ k) : ¬ k ∈ ss ∧ Part ss j (k + 1) := by
  have key : ∀ t, j ≤ t → t < ss.length → k + 1 ≤ ss.getD t 0 := fun t h1 h2 => by
    have h3 := h.2.2 t h1 h2
    rcases Nat.lt_or_ge j t with h4 | h4
    · have := pair_lt hp h4 h2
      have := h.2.2 j (Nat.le_refl _) (by omega)
      omega
    · obtain rfl : t = j := by omega
      have := e h2
      omega
  refine ⟨fun hm => ?_, h.1, fun t ht => by have := h.2.1 t ht; omega, key⟩
  obtain ⟨t, h1, h2⟩ := mem_getD hm
  rcases Nat.lt_or_ge t j with h3 | h3
  · have := h.2.1 t h3; omega
  · have := key t h3 h1; omega
theorem SeenL.tail {w : World} {ad : Addr} {l : List Int} (h : SeenL w (some ad) l) : SeenL w (some (ad.add 1)) (l.drop 1) := fun i v hv => by
  have h1 : (l.map (.int .i64))[1 + i]? = some v := by
    rw [List.map_drop, List.getElem?_drop] at hv
    exact hv
  obtain ⟨a, e, hb, hc⟩ := h _ _ h1
  cases e
  exact ⟨ad.add 1, rfl, by rw [addr_block]; exact hb, by rw [addr_add]; exact hc⟩

/-- Bytes of one's own that are answered. -/
def SplQ (w : World) (l : List UInt8) (e : Ending) (w' : World) : Prop :=
  Ext w w' ∧ ∃ A c, e = .returned (.slice A l.length c) ∧ SeenB w' A l ∧ ∀ ad, A = some ad → w.heap.size ≤ ad.block ∧ ad.block < w'.heap.size
theorem OwnB.lie {t : TypeId} {w0 w : World} {l : List UInt8} {A : Option Addr} {c : Nat} (h : OwnB t w0 w (.slice A l.length c) l) : ∀ ad, A = some ad → w0.heap.size ≤ ad.block ∧ ad.block < w.heap.size := fun ad e =>
  h.1.lt ad.block (by rw [e]; rfl)

set_option maxRecDepth 100000 in
set_option maxHeartbeats 4000000 in
theorem spell_any (x : CW) (hw : wordB (tw x) = true) (w : World) (s1 : SeenL w x.A x.cs) (s2 : SeenL w x.B x.ss) (hd1 : x.ss.length ≤ x.d) (hd2 : x.d ≤ maxLen) : Calls Tryd.prog 23 #[cwV x] w (SplQ w (bytesL (tw x))) := by
  obtain ⟨cs, A, c, ss, B, d⟩ := x
  obtain ⟨hl1, hl2⟩ := word_short hw
  simp only [wordB, tw, Bool.and_eq_true] at hw hl1 hl2
  obtain ⟨_, hcode, hrise⟩ := hw
  have HPW := Lib.hid (rises_pair _ _ hrise)
  have hst : Part ss 0 0 := Part.start (fun a ha => by have := L10.rises_mem _ _ hrise a ha; omega)
  dsimp only at s1 s2 hd1 hd2 ⊢
  unfold maxLen at hd2
  have hsl : ss.length ≤ 60 := by
    have key : ∀ (l : List Int) (least n : Int), risesB n least l = true → least ≤ n → (l.length : Int) ≤ n - least := by
      intro l
      induction l with
      | nil => intro least n _ h; simp only [List.length_nil]; omega
      | cons a r ih =>
        intro least n h hln
        simp only [risesB, Bool.and_eq_true, decide_eq_true_eq] at h
        have := ih (a + 1) n h.2 (by omega)
        simp only [List.length_cons]
        omega
    have := key ss 1 cs.length hrise (by omega)
    omega
  obtain ⟨V, hV⟩ : ∃ V, V = w.alloc (.cells #[.slice A cs.length c, .slice B ss.length d] 36) := ⟨_, rfl⟩
  have W0 : Ext w V := by rw [hV]; exact (Ext.refl _).alloc _
  have kB : Blk V w.heap.size 36 [.slice A cs.length c, .slice B ss.length d] := by rw [hV]; exact Blk.lit _ _ _ _ rfl
  have S1 := Lib.hid (fun w' (x : Ext V w') => SeenL.ext (SeenL.ext s1 W0) x)
  have S2 := Lib.hid (SeenL.ext s2 W0)
  have CB := Lib.hid (fun k (h : k < cs.length) => show 33 ≤ cs.getD k 0 ∧ cs.getD k 0 ≤ 126 by
    have := List.all_eq_true.1 hcode _ (getD_mem h)
    simpa [codeB] using this)
  have BL := Lib.hid (fun k => bytesM_length ss (cs.take k) 0)
  have BS := Lib.hid (fun k (h : k < cs.length) => show bytesM ss (cs.take (k + 1)) 0 = bytesM ss (cs.take k) 0 ++ ((if (k : Int) ∈ ss then [194, 173] else []) ++ [UInt8.ofNat (cs.getD k 0).toNat]) by
    rw [take_succ' h, bytesM_append, List.length_take, Nat.min_eq_left (by omega), Nat.zero_add]
    rfl)
  have BE := Lib.hid (show bytesL (tw ⟨cs, A, c, ss, B, d⟩) = bytesM ss (cs.take cs.length) 0 by rw [List.take_length]; rfl)
  have BZ := Lib.hid (show bytesM ss (cs.take 0) 0 = [] by simp [bytesM])
  generalize bytesL (tw ⟨cs, A, c, ss, B, d⟩) = res at *
  obtain ⟨m, hm⟩ : ∃ m, m = cs.length := ⟨_, rfl⟩
  have HM := Lib.hid hm
  obtain ⟨n, hn⟩ : ∃ n, n = ss.length := ⟨_, rfl⟩
  have HN := Lib.hid hn
  have HST := Lib.hid hst
  unfold cwV
  dsimp only
  rw [← hn] at hV kB hsl hd1 ⊢
  rw [← hm] at hV kB hl2 ⊢
  clear s1 s2 hn hm hcode hrise hl1 hst
  have hn64 : (n : Int) ≤ 60 := by omega
  have hm64 : (m : Int) ≤ 60 := by omega
  go_enter Tryd.func23, Tryd.ntmps23
  go_upto_region 1 with (fail)
  rw [← hV]
  clear hV
  generalize w.heap.size = R at *
  have q0 : V.cell? ⟨R, 0, none⟩ = some (.slice A m c) := kB.cell 0
  have q1 : V.cell? ⟨R, 1, none⟩ = some (.slice B n d) := kB.cell 1
  have HX := Lib.hid W0
  clear W0 kB
  go_wp2_with fail
  go_loopw [3, 4, 12] (fun v pv i wr => ∃ (vv : Value) (P : Option Addr) (q e j k : Nat), vv = v ∧ pv = .slice P q e ∧ q + j = n ∧ q ≤ e ∧ e ≤ 9223372036854775807 ∧ k ≤ m ∧ i = .int .i64 k ∧ Hid (OwnB 5 V wr vv (bytesM ss (cs.take k) 0)) ∧ Hid (SeenL V P (ss.drop j)) ∧ Hid (Part ss j k)) (fun _ _ i _ => m - (intOf i).toNat)
  case atStart => exact ⟨_, _, _, _, 0, 0, rfl, rfl, rfl, hd1, by omega, Nat.zero_le _, rfl, Lib.hid (by rw [BZ.out]; exact OwnB.nil _ _ _ (Ext.refl _)), S2, HST⟩
  case round =>
    obtain ⟨vv, P, q, e, j, k, hvv, rfl, hqj, hqe, he64, hk, rfl, ho, hse, hpt⟩ := hrel
    subst hvv
    by_cases hlt : k < m
    · have hkl : k < cs.length := by rw [← HM.out]; exact hlt
      obtain ⟨ad, rfl, hc⟩ := (S1.out wr ho.out.2).get hkl
      have hcb := CB.out k hkl
      have hbs := BS.out k hkl
      have hb1 := BL.out k
      rw [List.length_take] at hb1
      have hk64 : (k : Int) < m := by omega
      generalize cs.getD k 0 = z at *
      have cw : IntKind.u8.wrap z = z := by
        simp only [IntKind.wrap, IntKind.signed, IntKind.bits]
        simp
        omega
      have hzb : z = ((UInt8.ofNat z.toNat).toNat : Int) := by rw [UInt8.toNat_ofNat']; omega
      have lit : ∀ W : World, SeenB (W.alloc (.cells #[.int .u8 z] 5)) (some ⟨W.heap.size, 0, none⟩) [UInt8.ofNat z.toNat] := fun W => (Blk.lit W W.heap.size 5 #[.int .u8 z] rfl).seen (by
        show [Value.int .u8 z] = [Value.int .u8 ((UInt8.ofNat z.toNat).toNat : Int)]
        rw [← hzb])
      have plain : ¬ (k : Int) ∈ ss → Hid (∃ v3 w6, (Builtin.append_ #[22, 22] 22 #[vv, .slice (some ⟨wr.heap.size, 0, none⟩) 1 1]).run Tryd.prog (wr.alloc (.cells #[.int .u8 z] 5)) = .ok v3 w6 ∧ OwnB 5 V w6 v3 (bytesM ss (cs.take (k + 1)) 0)) := fun hno => by
        obtain ⟨v3, w6, g3, o3⟩ := run_bytes13 (ho.out.over ((Ext.refl wr).alloc (.cells #[.int .u8 z] 5))) (some ⟨wr.heap.size, 0, none⟩) 1 1 [UInt8.ofNat z.toNat] (lit wr) rfl (by simp only [List.length_cons, List.length_nil]; omega) 22
        refine ⟨v3, w6, g3, ?_⟩
        rw [hbs, if_neg hno, List.nil_append]
        exact o3
      have two : (k : Int) ∈ ss → Hid (∃ v2 w5 v3 w6, (Builtin.append_ #[22, 9] 22 #[vv, .string ⟨#[194, 173]⟩]).run Tryd.prog wr = .ok v2 w5 ∧ (Builtin.append_ #[22, 22] 22 #[v2, .slice (some ⟨w5.heap.size, 0, none⟩) 1 1]).run Tryd.prog (w5.alloc (.cells #[.int .u8 z] 5)) = .ok v3 w6 ∧ OwnB 5 V w6 v3 (bytesM ss (cs.take (k + 1)) 0)) := fun hyes => by
        obtain ⟨v2, w5, g2, o2⟩ := run_str ho.out ⟨#[194, 173]⟩ (by simp only [ByteArray.size]; simp; omega) 22
        obtain ⟨v3, w6, g3, o3⟩ := run_bytes13 (o2.over ((Ext.refl w5).alloc (.cells #[.int .u8 z] 5))) (some ⟨w5.heap.size, 0, none⟩) 1 1 [UInt8.ofNat z.toNat] (lit w5) rfl (by simp only [List.length_append, List.length_cons, List.length_nil]; omega) 22
        refine ⟨v2, w5, v3, w6, g2, g3, ?_⟩
        rw [hbs, if_pos hyes, ← List.append_assoc]
        exact o3
      clear lit hbs hb1 hzb hcb
      by_cases hq0 : q = 0
      · obtain ⟨hno, hp2⟩ := hpt.out.miss HPW.out (fun h => absurd h (by rw [← HN.out]; omega))
        obtain ⟨v3, w6, g3, o3⟩ := (plain hno).out
        have O3 := Lib.hid o3
        have P2 := Lib.hid hp2
        have g0 : ¬ (0 : Int) < (q : Int) := by omega
        clear plain two hno o3 hpt hp2
        go_wp2_with (at_builtin; refine wpList_ran rfl _ _ rfl g3 ?_)
        go_roundw
        case rel => exact ⟨_, P, 0, e, j, k + 1, rfl, rfl, by omega, by omega, he64, by omega, by go_num, O3, hse, P2⟩
        case measure => simp [intOf]; omega
      · have hjn : j < ss.length := by rw [← HN.out]; omega
        obtain ⟨ad1, rfl, hc1⟩ := (SeenL.ext hse.out ho.out.2).get (show 0 < (ss.drop j).length by rw [List.length_drop]; omega)
        have e1 : (ss.drop j).getD 0 0 = ss.getD j 0 := by simp [List.getD, List.getElem?_drop]
        rw [e1, Addr.add_zero'] at hc1
        have hmi := fun h => hpt.out.miss HPW.out (fun _ => h)
        have hhi := hpt.out.hit HPW.out hjn
        have g0 : (0 : Int) < (q : Int) := by omega
        generalize ss.getD j 0 = u at *
        by_cases hu : u = k
        · obtain ⟨hyes, hp2⟩ := hhi hu
          obtain ⟨v2, w5, v3, w6, g2, g3, o3⟩ := (two hyes).out
          have O3 := Lib.hid o3
          have P2 := Lib.hid hp2
          have SE := Lib.hid (show SeenL V (some (ad1.add 1)) (ss.drop (j + 1)) by have := SeenL.tail hse.out; rwa [List.drop_drop] at this)
          have g1 : (u == (k : Int)) = true := by simpa using hu
          clear plain two hyes o3 hpt hp2 hmi hhi hu e1
          by_cases he : e = 1
          · subst he
            have S0 := Lib.hid (show SeenL V (some ad1) (ss.drop (j + 1)) by rw [List.drop_eq_nil_of_le (by rw [← HN.out]; omega)]; exact SeenL.nil)
            clear SE
            go_wp2_with (at_builtin; first | refine wpList_ran rfl _ _ rfl g3 ?_ | refine wpList_ranS rfl _ _ rfl g2 ?_)
            go_roundw
            case rel => exact ⟨_, some ad1, 0, 0, j + 1, k + 1, rfl, rfl, by omega, by omega, by omega, by omega, by go_num, O3, S0, P2⟩
            case measure => simp [intOf]; omega
          · go_wp2_with (at_builtin; first | refine wpList_ran rfl _ _ rfl g3 ?_ | refine wpList_ranS rfl _ _ rfl g2 ?_)
            go_roundw
            case rel => exact ⟨_, _, q - 1, e - 1, j + 1, k + 1, rfl, rfl, by omega, by omega, by omega, by omega, by go_num, O3, SE, P2⟩
            case measure => simp [intOf]; omega
        · obtain ⟨hno, hp2⟩ := hmi hu
          obtain ⟨v3, w6, g3, o3⟩ := (plain hno).out
          have O3 := Lib.hid o3
          have P2 := Lib.hid hp2
          have g1 : (u == (k : Int)) = false := by simpa using hu
          clear plain two hno o3 hpt hp2 hmi hhi hu e1
          go_wp2_with (at_builtin; refine wpList_ran rfl _ _ rfl g3 ?_)
          go_roundw
          case rel => exact ⟨_, some ad1, q, e, j, k + 1, rfl, rfl, hqj, hqe, he64, by omega, by go_num, O3, hse, P2⟩
          case measure => simp [intOf]; omega
    · obtain rfl : m = k := by omega
      have ho := Lib.hid (show OwnB 5 V wr vv res by rw [BE.out, ← HM.out]; exact ho.out)
      obtain ⟨A9, c9, rfl, _, s9⟩ := ho.out.seen
      have FIN := Lib.hid (show SplQ w res (.returned (.slice A9 res.length c9)) wr from ⟨HX.out.trans ho.out.2, A9, c9, rfl, s9, fun ad e => ⟨Nat.le_trans HX.out.size (OwnB.lie ho.out ad e).1, (OwnB.lie ho.out ad e).2⟩⟩)
      go_wp2_with fail
      go_ret
      exact FIN.out
end L13
end Go.Proofs.YtbiklbomacjihaaDoor

