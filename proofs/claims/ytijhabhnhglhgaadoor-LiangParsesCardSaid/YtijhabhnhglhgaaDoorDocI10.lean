/- The document's Words of layer 10. -/
import Derived.Test.YtijhabhnhglhgaaDoorDocH10
namespace Go.Proofs.YtijhabhnhglhgaaDoor
open Go.RowKit
namespace L10

def strV (l : List UInt8) : Value := .string ⟨l.toArray⟩
def SeenS (w : World) (A : Option Addr) (l : List (List UInt8)) : Prop := Seen w.heap.size w A (l.map strV)
theorem SeenS.ext {w w' : World} {A : Option Addr} {l : List (List UInt8)} (h : SeenS w A l) (x : Ext w w') : SeenS w' A l := Seen.ext h x
theorem SeenS.get {w : World} {A : Option Addr} {l : List (List UInt8)} (h : SeenS w A l) {k : Nat} (hk : k < l.length) : ∃ ad, A = some ad ∧ w.cell? (ad.add k) = some (strV l[k]) := by
  obtain ⟨ad, e, _, hc⟩ := h k (strV l[k]) (by simp [hk])
  exact ⟨ad, e, hc⟩
theorem string_info : (Tryd.prog.info? 9).map (fun i => (i.zero, i.size, i.bytes)) = some (some (.string ⟨#[]⟩), 1, 16) := by kernel_rfl

/-- What Words keeps: two rows of its own, apart. -/
structure Ws (w wr : World) (vo vw : Value) (out : List (List UInt8)) (acc : List UInt8) : Prop where
  x : Ext w wr
  o : wr.ownsRow w.heap.size 9 1 vo out.length (out.map strV)
  b : wr.ownsRow w.heap.size 5 1 vw acc.length (bv acc)
  ob : ∀ g, vo.ownBlock = some g → vw.ownBlock ≠ some g
theorem Ws.kept {w wr w' : World} {vo vw : Value} {out : List (List UInt8)} {acc : List UInt8} (h : Ws w wr vo vw out acc) (x : Ext wr w') : Ws w w' vo vw out acc :=
  ⟨h.x.trans x, OwnsRow.ext h.o x, OwnsRow.ext h.b x, h.ob⟩
theorem Ws.clear {w wr : World} {vo vw : Value} {out : List (List UInt8)} {acc : List UInt8} (h : Ws w wr vo vw out acc) : Ws w wr vo (.slice none 0 0) out [] :=
  ⟨h.x, h.o, World.ownsRow_nil _ _ _ _, fun g _ e => by cases e⟩
theorem Ws.putB {w wr : World} {vo vw : Value} {out : List (List UInt8)} {acc : List UInt8} (h : Ws w wr vo vw out acc) (b : UInt8) (z : Int) (hz : z = b.toNat) (hn : acc.length ≤ 900000) (ty : TypeId) :
    ∃ v' w', (Builtin.append_ #[22, 22] ty #[vw, .slice (some ⟨wr.heap.size, 0, none⟩) 1 1]).run Tryd.prog (wr.alloc (.cells #[.int .u8 z] 5)) = .ok v' w' ∧ Ws w w' vo v' out (acc ++ [b]) := by
  subst hz
  obtain ⟨i, hi, hz0, hsz, hby⟩ := info_parts byte_info
  have h := h.kept ((Ext.refl wr).alloc (.cells #[.int .u8 (b.toNat : Int)] 5))
  obtain ⟨v', w', hr, ho, hg, _, hat⟩ := run_append_own_at (P := Tryd.prog) (wr.alloc (.cells #[.int .u8 (b.toNat : Int)] 5)) w.heap.size 22 ty 5 i (.int .u8 0) 1 1 Tryd.underlying22 hi hz0 hsz hby rfl (by omega) vw acc.length (bv acc) h.b ⟨wr.heap.size, 0, none⟩ 1 1 [.int .u8 (b.toNat : Int)] rfl
    (fun j u hu => by
      cases j with
      | zero => simp at hu; subst hu; simp [Addr.add]
      | succ j => simp at hu) (by simp [Value.oneCell']) (by unfold maxLen; omega) (by omega) h.x.size
  have K := Kp.of_grown hg
  refine ⟨v', w', hr, ext_grown h.x h.b (Nat.le_refl _) hg, K.row h.o (fun g e e' => h.ob g e e'.symm), ?_, fun g e => ?_⟩
  · simp only [List.length_append, List.length_cons, List.length_nil, bv_append]
    exact ho
  · have h3 := grown_apart h.o hat (fun g e' e => h.ob g e e')
    exact fun e' => h3 g e' e
theorem Ws.putO {w wr : World} {vo vw : Value} {out : List (List UInt8)} {acc : List UInt8} (h : Ws w wr vo vw out acc) (s : ByteArray) (l : List UInt8) (hs : s = ⟨l.toArray⟩) (hn : out.length ≤ 900000) (ty : TypeId) :
    ∃ v' w', (Builtin.append_ #[52, 52] ty #[vo, .slice (some ⟨wr.heap.size, 0, none⟩) 1 1]).run Tryd.prog (wr.alloc (.cells #[.string s] 9)) = .ok v' w' ∧ Ws w w' v' vw (out ++ [l]) acc := by
  subst hs
  obtain ⟨i, hi, hz0, hsz, hby⟩ := info_parts string_info
  have h := h.kept ((Ext.refl wr).alloc (.cells #[.string ⟨l.toArray⟩] 9))
  obtain ⟨v', w', hr, ho, hg, _, hat⟩ := run_append_own_at (P := Tryd.prog) (wr.alloc (.cells #[.string ⟨l.toArray⟩] 9)) w.heap.size 52 ty 9 i (.string ⟨#[]⟩) 1 16 Tryd.underlying52 hi hz0 hsz hby rfl (by omega) vo out.length (out.map strV) h.o ⟨wr.heap.size, 0, none⟩ 1 1 [.string ⟨l.toArray⟩] rfl
    (fun j u hu => by
      cases j with
      | zero => simp at hu; subst hu; simp [Addr.add]
      | succ j => simp at hu) (by simp [Value.oneCell']) (by unfold maxLen; omega) (by omega) h.x.size
  have K := Kp.of_grown hg
  refine ⟨v', w', hr, ext_grown h.x h.o (Nat.le_refl _) hg, ?_, K.row h.b (fun g e e' => h.ob g e'.symm e), grown_apart h.b hat h.ob⟩
  simp only [List.length_append, List.length_cons, List.length_nil, List.map_append, List.map_cons, List.map_nil]
  exact ho
/-- What Words answers. -/
def WsQ (w : World) (l : List (List UInt8)) (e : Ending) (w' : World) : Prop := Ext w w' ∧ ∃ A c, e = .returned (.slice A l.length c) ∧ SeenS w' A l ∧ ∀ ad, A = some ad → w.heap.size ≤ ad.block
theorem wordsGo_len : ∀ (l : List UInt8) (acc : List UInt8), ((wordsGo acc l).length ≤ l.length + 1) ∧ ∀ x ∈ wordsGo acc l, x.length ≤ acc.length + l.length
  | [], acc => by
    rw [wordsGo]
    split
    · simp
    · simp
  | b :: r, acc => by
    rw [wordsGo]
    have h1 := wordsGo_len r []
    have h2 := wordsGo_len r (acc ++ [b])
    simp only [List.length_append, List.length_cons, List.length_nil] at h1 h2 ⊢
    split
    · split
      · exact ⟨by omega, fun x hx => by have := h1.2 x hx; omega⟩
      · simp only [List.length_cons, List.mem_cons]
        exact ⟨by omega, fun x hx => by
          rcases hx with rfl | hx
          · omega
          · have := h1.2 x hx; omega⟩
    · exact ⟨by omega, fun x hx => by have := h2.2 x hx; omega⟩

set_option maxRecDepth 100000 in
set_option maxHeartbeats 4000000 in
theorem rwords_any (A : Option Addr) (l : List UInt8) (c : Nat) (hl : l.length ≤ 100000) (w : World) (hs : SeenB w A l) : Calls Tryd.prog 22 #[.slice A l.length c] w (WsQ w (wordsL l)) := by
  have HS := Lib.hid (fun w' (x : Ext w w') => hs.ext x)
  obtain ⟨n, hn⟩ : ∃ n, n = l.length := ⟨_, rfl⟩
  rw [← hn] at hl ⊢
  have HN := Lib.hid hn
  have hn64 : (n : Int) ≤ 100000 := by omega
  clear hs hn
  go_enter Tryd.func22, Tryd.ntmps22
  go_wp2_with fail
  go_loopw [3, 4, 5] (fun o b i wr => ∃ (vo vw : Value) (out : List (List UInt8)) (acc : List UInt8) (k : Nat), vo = o ∧ vw = b ∧ i = .int .i64 k ∧ k ≤ n ∧ acc.length ≤ k ∧ out.length ≤ k ∧ Hid (Ws w wr vo vw out acc) ∧ Hid (wordsL l = out ++ wordsGo acc (l.drop k))) (fun _ _ i _ => n - (intOf i).toNat)
  case atStart => exact ⟨_, _, [], [], 0, rfl, rfl, rfl, Nat.zero_le _, by simp, by simp, Lib.hid ⟨Ext.refl _, World.ownsRow_nil _ _ _ _, World.ownsRow_nil _ _ _ _, fun g e => by cases e⟩, Lib.hid rfl⟩
  case round =>
    obtain ⟨vo, vw, out, acc, k, hvo, hvw, rfl, hk, hacc, hout, hws, hgo⟩ := hrel
    subst hvo hvw
    obtain ⟨Aw, cw, rfl, _, _, _⟩ := row_slice hws.out.b
    have STR := row_str hws.out.b
    by_cases hlt : k < n
    · have hlt' : k < l.length := by rw [← HN.out]; exact hlt
      have hk64 : (k : Int) < (n : Int) := by omega
      obtain ⟨ad, rfl, hc⟩ := (HS.out wr hws.out.x).get hlt'
      have hgo := hgo.out
      rw [drop_at hlt', wordsGo] at hgo
      by_cases hg : gapB l[k] = true
      · rw [if_pos hg] at hgo
        have hz : ((l[k].toNat : Int) = 9) ∨ ((l[k].toNat : Int) = 10) ∨ ((l[k].toNat : Int) = 13) ∨ ((l[k].toNat : Int) = 32) := by
          simp only [gapB, decide_eq_true_eq] at hg
          rcases hg with e | e | e | e
          · left; rw [e]; rfl
          · right; left; rw [e]; rfl
          · right; right; left; rw [e]; rfl
          · right; right; right; rw [e]; rfl
        clear hg
        generalize (l[k].toNat : Int) = z at *
        by_cases ha : acc = []
        · subst ha
          rw [if_pos rfl] at hgo
          have HGO := Lib.hid hgo
          have HW := Lib.hid hws.out.clear
          clear hgo hws STR
          rcases hz with rfl | rfl | rfl | rfl
          all_goals
            go_wp2_with fail
            go_roundw
            case rel => exact ⟨vo, .slice none 0 0, out, [], k + 1, rfl, rfl, by go_num, by omega, by simp, by omega, HW, HGO⟩
            case measure => simp [intOf]; omega
        · rw [if_neg ha] at hgo
          have HGO := Lib.hid (show wordsL l = (out ++ [acc]) ++ wordsGo [] (l.drop (k + 1)) by rw [hgo]; simp)
          have hpos : (0 : Int) < acc.length := by have := List.length_pos_iff.2 ha; omega
          obtain ⟨v3, w3, r3, ws3⟩ := hws.out.putO ⟨acc.toArray⟩ acc rfl (by omega) 52
          have HW := Lib.hid ws3.clear
          obtain ⟨q, hq⟩ : ∃ q, q = acc.length := ⟨_, rfl⟩
          rw [← hq] at STR hpos hacc
          rw [← hq]
          clear hgo hws ws3 ha hq
          generalize (⟨acc.toArray⟩ : ByteArray) = sa at *
          rcases hz with rfl | rfl | rfl | rfl
          all_goals
            go_wp2_with (at_builtin; refine wpList_ran rfl _ _ rfl r3 ?_)
            go_roundw
            case rel => exact ⟨v3, .slice none 0 0, out ++ [acc], [], k + 1, rfl, rfl, by go_num, by omega, by simp, by rw [List.length_append]; simp; omega, HW, HGO⟩
            case measure => simp [intOf]; omega
      · rw [if_neg hg] at hgo
        have HGO := Lib.hid hgo
        have n1 : ((l[k].toNat : Int) != 9) = true ∧ ((l[k].toNat : Int) != 10) = true ∧ ((l[k].toNat : Int) != 13) = true ∧ ((l[k].toNat : Int) != 32) = true := by
          have key : ∀ c : UInt8, l[k] ≠ c → ¬ ((l[k].toNat : Int) = c.toNat) := fun c hc e => hc (UInt8.toNat.inj (by omega))
          simp only [gapB, decide_eq_true_eq, not_or] at hg
          obtain ⟨h1, h2, h3, h4⟩ := hg
          exact ⟨by simpa using key 9 h1, by simpa using key 10 h2, by simpa using key 13 h3, by simpa using key 32 h4⟩
        obtain ⟨n1, n2, n3, n4⟩ := n1
        obtain ⟨v3, w3, r3, ws3⟩ := hws.out.putB l[k] _ rfl (by omega) 22
        have HW := Lib.hid ws3
        clear hgo hws ws3 hg STR
        generalize (l[k].toNat : Int) = z at *
        go_wp2_with (at_builtin; refine wpList_ran rfl _ _ rfl r3 ?_)
        go_roundw
        case rel => exact ⟨vo, v3, out, acc ++ [l[k]], k + 1, rfl, rfl, by go_num, by omega, by rw [List.length_append]; simp; omega, by omega, HW, HGO⟩
        case measure => simp [intOf]; omega
    · obtain rfl : k = n := by omega
      have hgo := hgo.out
      rw [List.drop_of_length_le (by rw [← HN.out]; omega), wordsGo] at hgo
      by_cases ha : acc = []
      · subst ha
        rw [if_pos rfl, List.append_nil] at hgo
        obtain ⟨Ao, co, rfl, _, _, so⟩ := row_slice hws.out.o
        have FIN := Lib.hid (show WsQ w (wordsL l) (.returned (.slice Ao out.length co)) wr from ⟨hws.out.x, Ao, co, by rw [hgo], by rw [hgo]; exact so, fun ad e => (hws.out.o.lt ad.block (by rw [show Ao = some ad from e]; rfl)).1⟩)
        generalize out.length = q at *
        clear hgo hws STR so
        go_wp2_with fail
        go_ret
        exact FIN.out
      · rw [if_neg ha] at hgo
        have hpos : (0 : Int) < acc.length := by have := List.length_pos_iff.2 ha; omega
        obtain ⟨v3, w3, r3, ws3⟩ := hws.out.putO ⟨acc.toArray⟩ acc rfl (by omega) 52
        obtain ⟨Ao, co, rfl, _, _, so⟩ := row_slice ws3.o
        have FIN := Lib.hid (show WsQ w (wordsL l) (.returned (.slice Ao (out ++ [acc]).length co)) w3 from ⟨ws3.x, Ao, co, by rw [hgo], by rw [hgo]; exact so, fun ad e => (ws3.o.lt ad.block (by rw [show Ao = some ad from e]; rfl)).1⟩)
        generalize (out ++ [acc]).length = q at *
        obtain ⟨qa, hq⟩ : ∃ q, q = acc.length := ⟨_, rfl⟩
        rw [← hq] at STR hpos hacc
        rw [← hq]
        clear hgo hws ws3 ha hq so
        generalize (⟨acc.toArray⟩ : ByteArray) = sa at *
        go_wp2_with (at_builtin; refine wpList_ran rfl _ _ rfl r3 ?_)
        go_ret
        exact FIN.out
end L10
end Go.Proofs.YtijhabhnhglhgaaDoor

