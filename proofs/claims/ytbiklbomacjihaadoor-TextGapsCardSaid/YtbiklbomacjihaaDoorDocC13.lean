/- The document's bytes of layer 13: a word's. -/
import Derived.Test.YtbiklbomacjihaaDoorDocB13
import Derived.Test.YtbiklbomacjihaaDoorBytes
import Derived.Test.YtbiklbomacjihaaDoorOwnI12
namespace Go.Proofs.YtbiklbomacjihaaDoor
open Go.RowKit
namespace L13
open L10 (risesB)

theorem bytesM_length (ss : List Int) : ∀ (l : List Int) (n : Nat), (bytesM ss l n).length ≤ 3 * l.length
  | [], _ => by simp [bytesM]
  | c :: r, n => by
    have := bytesM_length ss r (n + 1)
    simp only [bytesM, List.length_append, List.length_cons]
    split
    · simp; omega
    · simp; omega
theorem bytesM_append (ss m : List Int) : ∀ (l : List Int) (n : Nat), bytesM ss (l ++ m) n = bytesM ss l n ++ bytesM ss m (n + l.length)
  | [], n => by simp [bytesM]
  | c :: r, n => by
    rw [List.cons_append, bytesM, bytesM, bytesM_append ss m r (n + 1), List.length_cons]
    simp only [List.append_assoc, List.cons_append]
    rw [show n + 1 + r.length = n + (r.length + 1) by omega]
/-- The soft hyphen behind i codes, by the first k places. -/
def hyS (ss : List Int) (i : Int) (k : Nat) : List UInt8 := if i ∈ ss.take k then [194, 173] else []
theorem hyS_length (ss : List Int) (i : Int) (k : Nat) : (hyS ss i k).length ≤ 2 := by
  unfold hyS; split <;> simp
theorem take_succ' {l : List Int} {k : Nat} (h : k < l.length) : l.take (k + 1) = l.take k ++ [l.getD k 0] := by
  rw [List.take_succ_eq_append_getElem h]; simp [List.getD, h]
theorem hyS_miss {ss : List Int} {i : Int} {k : Nat} (h : k < ss.length) (hne : ss.getD k 0 ≠ i) : hyS ss i (k + 1) = hyS ss i k := by
  unfold hyS
  rw [take_succ' h]
  simp only [List.mem_append, List.mem_singleton]
  by_cases hi : i ∈ ss.take k
  · rw [if_pos (.inl hi), if_pos hi]
  · rw [if_neg (fun q => q.elim hi (fun e => hne e.symm)), if_neg hi]
theorem rises_pair {n : Int} : ∀ (l : List Int) (least : Int), risesB n least l = true → l.Pairwise (· < ·)
  | [], _, _ => List.Pairwise.nil
  | a :: r, least, h => by
    simp only [risesB, Bool.and_eq_true, decide_eq_true_eq] at h
    refine List.Pairwise.cons (fun b hb => ?_) (rises_pair r (a + 1) h.2)
    have := L10.rises_mem r (a + 1) h.2 b hb
    omega
theorem hyS_hit {ss : List Int} (hp : ss.Pairwise (· < ·)) {i : Int} {k : Nat} (h : k < ss.length) (he : ss.getD k 0 = i) : hyS ss i (k + 1) = hyS ss i k ++ [194, 173] := by
  have hn : i ∉ ss.take k := fun hi => by
    obtain ⟨j, hj, hji⟩ := List.getElem_of_mem hi
    rw [List.length_take] at hj
    rw [List.getElem_take] at hji
    have := List.pairwise_iff_getElem.1 hp j k (by omega) h (by omega)
    rw [List.getD, List.getElem?_eq_getElem h] at he
    simp only [Option.getD_some] at he
    omega
  unfold hyS
  rw [take_succ' h, he, if_pos (by simp), if_neg hn]
  rfl
theorem hyS_full (ss : List Int) (i : Int) : hyS ss i ss.length = if i ∈ ss then [194, 173] else [] := by rw [hyS, List.take_length]
theorem byte_info13 : (Tryd.prog.info? 5).map (fun i => (i.zero, i.size, i.bytes)) = some (some (.int .u8 0), 1, 1) := by kernel_rfl
theorem run_bytes13 {w w0 : World} {v : Value} {m : List UInt8} (h : OwnB 5 w0 w v m) (a : Option Addr) (n c : Nat) (l : List UInt8) (hs : SeenB w a l) (hn : n = l.length) (hm : m.length + l.length ≤ 900000) (ty : TypeId) :
    ∃ v' w', (Builtin.append_ #[22, 22] ty #[v, .slice a n c]).run Tryd.prog w = .ok v' w' ∧ OwnB 5 w0 w' v' (m ++ l) := by
  obtain ⟨v', w', h1, h2, _⟩ := run_putB (P := Tryd.prog) 22 ty 5 Tryd.underlying22 byte_info13 h a l n c hs hn (by omega)
  exact ⟨v', w', h1, h2⟩
/-- Bytes that are answered. -/
def BytQ (w : World) (l : List UInt8) (e : Ending) (w' : World) : Prop :=
  Ext w w' ∧ ∃ A c, e = .returned (.slice A l.length c) ∧ SeenB w' A l
set_option maxRecDepth 100000 in
set_option maxHeartbeats 4000000 in
theorem rbytes_any (x : CW) (hw : wordB (tw x) = true) (w : World) (s1 : SeenL w x.A x.cs) (s2 : SeenL w x.B x.ss) : Calls Tryd.prog 25 #[cwV x] w (BytQ w (bytesL (tw x))) := by
  obtain ⟨cs, A, c, ss, B, d⟩ := x
  obtain ⟨hl1, hl2⟩ := word_short hw
  simp only [wordB, tw, Bool.and_eq_true] at hw hl1 hl2
  obtain ⟨_, hcode, hrise⟩ := hw
  have hpair := rises_pair _ _ hrise
  have hsl : ss.length ≤ 60 := by
    have key : ∀ (l : List Int) (least n : Int), risesB n least l = true → least ≤ n → (l.length : Int) ≤ n - least := by
      intro l
      induction l with
      | nil => intro least n _ h; simp; omega
      | cons a r ih =>
        intro least n h hle
        simp only [risesB, Bool.and_eq_true, decide_eq_true_eq] at h
        have := ih (a + 1) n h.2 (by omega)
        rw [List.length_cons]
        omega
    have := key ss 1 cs.length hrise (by omega)
    omega
  dsimp only at s1 s2
  obtain ⟨V, hV⟩ : ∃ V, V = w.alloc (.cells #[.slice A cs.length c, .slice B ss.length d] 36) := ⟨_, rfl⟩
  have W0 : Ext w V := by rw [hV]; exact (Ext.refl _).alloc _
  have kB : Blk V w.heap.size 36 [.slice A cs.length c, .slice B ss.length d] := by rw [hV]; exact Blk.lit _ _ _ _ rfl
  have S1 := Lib.hid (fun w' (x : Ext V w') => SeenL.ext (SeenL.ext s1 W0) x)
  have S2 := Lib.hid (fun w' (x : Ext V w') => SeenL.ext (SeenL.ext s2 W0) x)
  have CB := Lib.hid (fun k (h : k < cs.length) => show 33 ≤ cs.getD k 0 ∧ cs.getD k 0 ≤ 126 by
    have := List.all_eq_true.1 hcode (cs.getD k 0) (by rw [List.getD, List.getElem?_eq_getElem h]; exact List.getElem_mem h)
    simpa [codeB] using this)
  have HIT := Lib.hid (fun i k (h : k < ss.length) (e : ss.getD k 0 = i) => hyS_hit hpair h e)
  have MISS := Lib.hid (fun i k (h : k < ss.length) (e : ss.getD k 0 ≠ i) => hyS_miss h e)
  have HFULL := Lib.hid (fun i => hyS_full ss i)
  have HYL := Lib.hid (fun i k => hyS_length ss i k)
  have H0 := Lib.hid (fun i => show hyS ss i 0 = [] by simp [hyS])
  have BL := Lib.hid (fun k => bytesM_length ss (cs.take k) 0)
  have BS := Lib.hid (fun k (h : k < cs.length) => show bytesM ss (cs.take (k + 1)) 0 = bytesM ss (cs.take k) 0 ++ ((if ((k : Nat) : Int) ∈ ss then [194, 173] else []) ++ [UInt8.ofNat (cs.getD k 0).toNat]) by
    rw [take_succ' h, bytesM_append, List.length_take, Nat.min_eq_left (by omega), Nat.zero_add]
    rfl)
  have BE := Lib.hid (show bytesL (tw ⟨cs, A, c, ss, B, d⟩) = bytesM ss (cs.take cs.length) 0 by rw [List.take_length]; rfl)
  have BZ := Lib.hid (show bytesM ss (cs.take 0) 0 = [] by simp [bytesM])
  generalize bytesL (tw ⟨cs, A, c, ss, B, d⟩) = res at *
  obtain ⟨m, hm⟩ : ∃ m, m = cs.length := ⟨_, rfl⟩
  have HM := Lib.hid hm
  obtain ⟨n, hn⟩ : ∃ n, n = ss.length := ⟨_, rfl⟩
  have HN := Lib.hid hn
  unfold cwV
  dsimp only
  rw [← hn] at hV kB hsl ⊢
  rw [← hm] at hV kB hl2 ⊢
  clear s1 s2 hn hm hcode hrise hpair hl1
  have hn64 : (n : Int) ≤ 60 := by omega
  have hm64 : (m : Int) ≤ 60 := by omega
  go_enter Tryd.func25, Tryd.ntmps25
  go_upto_region 1 with (fail)
  rw [← hV]
  clear hV
  generalize w.heap.size = R at *
  have q0 : V.cell? ⟨R, 0, none⟩ = some (.slice A m c) := kB.cell 0
  have q1 : V.cell? ⟨R, 1, none⟩ = some (.slice B n d) := kB.cell 1
  have HX := Lib.hid W0
  clear W0 kB
  go_wp2_with fail
  go_loopw [3, 4] (fun v i wr => ∃ (vv : Value) (k : Nat), vv = v ∧ k ≤ m ∧ i = .int .i64 k ∧ Hid (OwnB 5 V wr vv (bytesM ss (cs.take k) 0))) (fun _ i _ => m - (intOf i).toNat)
  case atStart => exact ⟨_, 0, rfl, Nat.zero_le _, rfl, Lib.hid (by rw [BZ.out]; exact OwnB.nil _ _ _ (Ext.refl _))⟩
  case round =>
    obtain ⟨vv, i, hvv, hi, rfl, ho⟩ := hrel
    subst hvv
    have r0 := ho.out.2.at q0
    have r1 := ho.out.2.at q1
    by_cases hlt : i < m
    · have hil : i < cs.length := by rw [← HM.out]; exact hlt
      have hi64 : (i : Int) < m := by omega
      obtain ⟨wo, hwo⟩ : ∃ wo : World, wo = wr := ⟨_, rfl⟩
      subst hwo
      go_wp2_with fail
      go_loopw [3, 5] (fun v j wr => ∃ (vv : Value) (k : Nat), vv = v ∧ k ≤ n ∧ j = .int .i64 k ∧ Hid (OwnB 5 V wr vv (bytesM ss (cs.take i) 0 ++ hyS ss i k))) (fun _ j _ => n - (intOf j).toNat)
      case atStart => exact ⟨_, 0, rfl, Nat.zero_le _, rfl, Lib.hid (by rw [H0.out, List.append_nil]; exact ho.out)⟩
      case round =>
        clear ho r0 r1
        obtain ⟨vv, k, hvv, hk, rfl, ho⟩ := hrel
        subst hvv
        have r0 := ho.out.2.at q0
        have r1 := ho.out.2.at q1
        have hb1 := BL.out i
        have hb2 := HYL.out i k
        rw [List.length_take] at hb1
        by_cases hlk : k < n
        · have hkl : k < ss.length := by rw [← HN.out]; exact hlk
          obtain ⟨ad, rfl, hc⟩ := (S2.out wr ho.out.2).get hkl
          have hk64 : (k : Int) < n := by omega
          have hht := HIT.out i k hkl
          have hms := MISS.out i k hkl
          generalize ss.getD k 0 = u at *
          by_cases he : u = i
          · have H2 := Lib.hid (hht he)
            have g1 : (u == (i : Int)) = true := by simpa using he
            have ow := ho.out.over ((Ext.refl wr).alloc (.cells #[.int .u8 194, .int .u8 173] 5))
            obtain ⟨v3, w6, g3, o3⟩ := run_bytes13 ow (some ⟨wr.heap.size, 0, none⟩) 2 2 [194, 173] ((Blk.lit wr wr.heap.size 5 #[.int .u8 194, .int .u8 173] rfl).seen rfl) rfl (by simp only [List.length_append, List.length_cons, List.length_nil]; omega) 22
            have O3 := Lib.hid o3
            clear hht hms he ow o3 hb1 hb2
            go_wp2_with (at_builtin; refine wpList_ran rfl _ _ rfl g3 ?_)
            go_roundw
            case rel => exact ⟨_, k + 1, rfl, by omega, by go_num, Lib.hid (by rw [H2.out, ← List.append_assoc]; exact O3.out)⟩
            case measure => simp [intOf]; omega
          · have H2 := Lib.hid (hms he)
            have g1 : (u == (i : Int)) = false := by simpa using he
            clear hht hms he hb1 hb2
            go_wp2_with fail
            go_roundw
            case rel => exact ⟨_, k + 1, rfl, by omega, by go_num, Lib.hid (by rw [H2.out]; exact ho.out)⟩
            case measure => simp [intOf]; omega
        · obtain rfl : k = n := by omega
          obtain ⟨ad, rfl, hc⟩ := (S1.out wr ho.out.2).get hil
          have hcb := CB.out i hil
          have H2 := Lib.hid (BS.out i hil)
          have hfu := HFULL.out i
          have ho := Lib.hid (show OwnB 5 V wr vv (bytesM ss (cs.take i) 0 ++ hyS ss i ss.length) by rw [← HN.out]; exact ho.out)
          rw [hfu] at ho
          generalize cs.getD i 0 = z at *
          have cw : IntKind.u8.wrap z = z := by
            simp only [IntKind.wrap, IntKind.signed, IntKind.bits]
            simp
            omega
          have hzb : z = ((UInt8.ofNat z.toNat).toNat : Int) := by rw [UInt8.toNat_ofNat']; omega
          have ow := ho.out.over ((Ext.refl wr).alloc (.cells #[.int .u8 z] 5))
          obtain ⟨v3, w6, g3, o3⟩ := run_bytes13 ow (some ⟨wr.heap.size, 0, none⟩) 1 1 [UInt8.ofNat z.toNat] ((Blk.lit wr wr.heap.size 5 #[.int .u8 z] rfl).seen (by
            show [Value.int .u8 z] = [Value.int .u8 ((UInt8.ofNat z.toNat).toNat : Int)]
            rw [← hzb])) rfl (by
              rw [List.length_append]
              have : (if ((i : Nat) : Int) ∈ ss then [194, 173] else ([] : List UInt8)).length ≤ 2 := by split <;> simp
              simp only [List.length_cons, List.length_nil]
              omega) 22
          have O3 := Lib.hid o3
          clear ow o3 hb1 hb2 hcb hfu hzb
          go_wp2_with (at_builtin; refine wpList_ran rfl _ _ rfl g3 ?_)
          go_roundw
          case rel => exact ⟨_, i + 1, rfl, by omega, by go_num, Lib.hid (by rw [H2.out, ← List.append_assoc]; exact O3.out)⟩
          case measure => simp [intOf]; omega
    · obtain rfl : i = m := by omega
      have ho := Lib.hid (show OwnB 5 V wr vv res by rw [BE.out, ← HM.out]; exact ho.out)
      obtain ⟨A9, c9, rfl, _, s9⟩ := ho.out.seen
      have FIN := Lib.hid (show BytQ w res (.returned (.slice A9 res.length c9)) wr from ⟨HX.out.trans ho.out.2, A9, c9, rfl, s9⟩)
      go_wp2_with fail
      go_ret
      exact FIN.out
end L13
end Go.Proofs.YtbiklbomacjihaaDoor

