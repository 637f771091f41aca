/- The landed exceptionMayBe, patternWord, exceptionWord of layer 10. -/
import Derived.Test.YtenajekmnggkeaaLandB10
namespace Go.Proofs.Ytenajekmnggkeaa
open Go.RowKit
namespace L10

theorem rises_drop {m least : Int} {l : List Int} {k : Nat} (h : k < l.length) : risesB m least (l.drop k) = (decide (least ≤ l.getD k 0 ∧ l.getD k 0 < m) && risesB m (l.getD k 0 + 1) (l.drop (k + 1))) := by
  rw [List.drop_eq_getElem_cons h, risesB, List.getD, List.getElem?_eq_getElem h]; rfl
theorem seenB_one (w : World) (t : TypeId) (z : Int) (b : UInt8) (h : z = b.toNat) : SeenB (w.alloc (.cells #[.int .u8 z] t)) (some ⟨w.heap.size, 0, none⟩) [b] := by
  subst h
  exact (Blk.lit w w.heap.size t #[.int .u8 (b.toNat : Int)] rfl).seen rfl
theorem byte_info : (Try.prog.info? 5).map (fun i => (i.zero, i.size, i.bytes)) = some (some (.int .u8 0), 1, 1) := by kernel_rfl
/-- append(own, b). -/
theorem run_byte {w w0 : World} {v : Value} {m : List UInt8} (h : OwnB 5 w0 w v m) (a : Option Addr) (b : UInt8) (hs : SeenB w a [b]) (hm : m.length ≤ 900000) (ty : TypeId) :
    ∃ v' w', (Builtin.append_ #[41, 41] ty #[v, .slice a 1 1]).run Try.prog w = .ok v' w' ∧ OwnB 5 w0 w' v' (m ++ [b]) := by
  obtain ⟨v', w', h1, h2, _⟩ := run_putB (P := Try.prog) 41 ty 5 Try.underlying41 byte_info h a [b] 1 1 hs rfl (by simp; omega)
  exact ⟨v', w', h1, h2⟩

set_option maxRecDepth 100000 in
set_option maxHeartbeats 2000000 in
theorem exc_any (x : WP) (ok : x.Ok) (w : World) (sn : SeenL w x.A x.ns) : Calls Try.prog 31 #[wpV x] w (Ret w (.bool (excB (tn x)))) := by
  obtain ⟨s, ns, A, c⟩ := x
  obtain ⟨hr, hm, hsz, hwide⟩ := ok
  dsimp only at hr hm hsz hwide sn
  unfold maxLen at hm hsz
  obtain ⟨V, hV⟩ : ∃ V, V = w.alloc (.cells #[.string s, .slice A ns.length c] 46) := ⟨_, rfl⟩
  have W0 : Ext w V := by rw [hV]; exact (Ext.refl _).alloc _
  have kB : Blk V w.heap.size 46 [.string s, .slice A ns.length c] := by rw [hV]; exact Blk.lit _ _ _ _ rfl
  have SN := Lib.hid (sn.ext W0)
  have HP := Lib.hid (show excB (tn ⟨s, ns, A, c⟩) = (risesB s.size 1 ns && (plainB s.data.toList && decide (0 < ns.length))) by
    have hl := list_len s
    rw [Bool.eq_iff_iff]
    simp only [excB, tn, hl, Bool.and_eq_true]
    exact ⟨fun ⟨a, b, c⟩ => ⟨c, a, b⟩, fun ⟨c, a, b⟩ => ⟨a, b, c⟩⟩)
  obtain ⟨b, hb⟩ : ∃ b, excB (tn ⟨s, ns, A, c⟩) = b := ⟨_, rfl⟩
  rw [hb]
  have HB := Lib.hid hb
  have HW := Lib.hid (fun k => getD_wide hwide k)
  obtain ⟨n, hn⟩ : ∃ n, n = ns.length := ⟨_, rfl⟩
  have HN := Lib.hid hn
  unfold wpV
  dsimp only
  rw [← hn] at hV kB hr ⊢
  clear hb hwide sn hn
  have hn64 : (n : Int) ≤ 9223372036854775807 := by omega
  go_enter Try.func31, Try.ntmps31
  go_upto_region 1 with (fail)
  rw [← hV]
  clear hV
  generalize w.heap.size = B at *
  have q0 : V.cell? ⟨B, 0, none⟩ = some (.string s) := kB.cell 0
  have q1 : V.cell? ⟨B, 1, none⟩ = some (.slice A n c) := kB.cell 1
  have HX := Lib.hid W0
  have h64 : (s.size : Int) ≤ 9223372036854775807 := by omega
  clear W0
  go_wp2_with fail
  go_loop [3, 9] (fun lv i => ∃ (k : Nat) (z : Int), k ≤ n ∧ i = .int .i64 k ∧ lv = .int .i64 z ∧ 1 ≤ z ∧ z ≤ 9223372036854775807 ∧ Hid (risesB s.size 1 ns = risesB s.size z (ns.drop k))) (fun _ i => n - (intOf i).toNat)
  case atStart => exact ⟨0, 1, Nat.zero_le _, rfl, rfl, by omega, by omega, rfl⟩
  case round =>
    obtain ⟨k, z, hk, rfl, rfl, hz1, hz2, hall⟩ := hrel
    by_cases hlt : k < n
    · have hlt' : k < ns.length := by rw [← HN.out]; exact hlt
      obtain ⟨ad, rfl, hc⟩ := SN.out.get hlt'
      have hall := hall.out
      rw [rises_drop hlt'] at hall
      have hw := HW.out k
      have HALL := Lib.hid hall
      generalize ns.getD k 0 = v at *
      have hk64 : (k : Int) < (n : Int) := by omega
      clear hall
      by_cases h1 : v < z
      · have H2 := Lib.hid (show false = b by rw [← HB.out, HP.out, HALL.out, decide_eq_false (by omega)]; rfl)
        clear HALL
        go_wp2_with fail
        go_ret
        exact ⟨ret_bool H2.out, HX.out⟩
      · by_cases h2 : (s.size : Int) ≤ v
        · have H2 := Lib.hid (show false = b by rw [← HB.out, HP.out, HALL.out, decide_eq_false (by omega)]; rfl)
          clear HALL
          go_wp2_with fail
          go_ret
          exact ⟨ret_bool H2.out, HX.out⟩
        · have H2 := Lib.hid (show risesB s.size 1 ns = risesB s.size (v + 1) (ns.drop (k + 1)) by rw [HALL.out, decide_eq_true (by omega)]; rfl)
          clear HALL
          go_wp2_with fail
          go_round
          case rel => exact ⟨k + 1, v + 1, by omega, by go_num, rfl, by omega, by omega, H2⟩
          case measure => simp [intOf]; omega
    · obtain rfl : k = n := by omega
      have H1 := Lib.hid (show risesB s.size 1 ns = true by rw [hall.out, HN.out, List.drop_length]; rfl)
      have H2 := Lib.hid (show b = (plainB s.data.toList && decide (0 < k)) by rw [← HB.out, HP.out, H1.out, HN.out]; rfl)
      clear hall H1
      have C1 := Lib.hid (letters_any s V)
      go_wp2_with fail
      refine C1.out.mono ?_; rintro e w3 ⟨rfl, x3⟩
      clear C1
      have q0 := x3.at q0
      have q1 := x3.at q1
      have HX3 := Lib.hid (HX.out.trans x3)
      cases hp : plainB s.data.toList with
      | false =>
        have H3 := Lib.hid (show false = b by rw [H2.out, hp]; rfl)
        clear H2 hp
        go_wp2_with fail
        go_ret
        exact ⟨ret_bool H3.out, HX3.out⟩
      | true =>
        have H3 := Lib.hid (show decide (0 < k) = b by rw [H2.out, hp, Bool.true_and])
        clear H2 hp
        go_wp2_with fail
        go_ret
        exact ⟨ret_bool H3.out, HX3.out⟩

end L10
end Go.Proofs.Ytenajekmnggkeaa

