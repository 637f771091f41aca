/- What PackBack stands on. -/
import Derived.Test.YtalanmgcacacaaaAwake06
import Derived.OpenShut
import Derived.Deep.RegionLaw
namespace Go.Proofs.Ytalanmgcacacaaa
open Go.ChangeShapes Go.WideShapes Go.ChangeAt Go.RowKit Go.Deep
namespace PackBack
open L06

/-- append(append([]byte{}, x...), y...). -/
theorem run_join (w : World) (A1 A2 : Option Addr) (n1 n2 c1 c2 : Nat) (l1 l2 : List UInt8) (h1 : SeenB w A1 l1) (h2 : SeenB w A2 l2) (e1 : n1 = l1.length) (e2 : n2 = l2.length) (hl : l1.length + l2.length ≤ 100000) :
    ∃ v1 w1 A c w2, (Builtin.append_ #[22, 22] 22 #[.slice (some ⟨w.heap.size, 0, none⟩) 0 0, .slice A1 n1 c1]).run Try.prog (w.alloc (.cells #[] 5)) = .ok v1 w1 ∧
      (Builtin.append_ #[22, 22] 22 #[v1, .slice A2 n2 c2]).run Try.prog w1 = .ok (.slice A (n1 + n2) c) w2 ∧ n1 + n2 ≤ c ∧ SeenB w2 A (l1 ++ l2) ∧ Ext w w1 ∧ Ext w w2 := by
  obtain ⟨v1, w1, r1, o1, _⟩ := run_putB (P := Try.prog) 22 22 5 Try.underlying22 uint8_info (OwnB.lit 5 w w [] #[] 0 rfl rfl (by simp) (Ext.refl _)) A1 l1 n1 c1 (h1.ext ((Ext.refl _).alloc _)) e1 (by simp; omega)
  obtain ⟨v2, w2, r2, o2, _⟩ := run_putB (P := Try.prog) 22 22 5 Try.underlying22 uint8_info o1 A2 l2 n2 c2 (h2.ext o1.2) e2 (by simp; omega)
  obtain ⟨A, c, rfl, hc, hs⟩ := o2.seen
  have e : (([] ++ l1) ++ l2).length = n1 + n2 := by simp [e1, e2]
  rw [e] at r2 hc
  exact ⟨v1, w1, A, c, w2, r1, r2, hc, by simpa using hs, o1.2, o2.2⟩

theorem putn_yes (n zi : Int) (w : World) (h1 : 1 ≤ zi) (h2 : zi ≤ 4) (hn0 : 0 ≤ n) (hn : n < 256 ^ zi.toNat) :
    Calls Try.prog 10 #[.slice none 0 0, .int .i64 n, .int .i64 zi] w
      (fun e w' => ∃ A c, e = .returned (.tuple #[.slice A zi.toNat c, .int .i64 0]) ∧ zi.toNat ≤ c ∧ SeenB w' A (be n.toNat zi.toNat) ∧ Ext w w') := by
  have T := put_yes none [] 0 zi.toNat n w SeenB.nil (by simp) (by omega) (by omega) hn0 hn
  rw [Int.toNat_of_nonneg (by omega)] at T
  refine T.mono ?_
  intro e w' h
  have := GivesB.open h
  simpa using this

/-- What was put is taken, whatever stands behind. -/
theorem take_back (n zi : Int) (A : Option Addr) (m c : Nat) (l : List UInt8) (w : World) (h1 : 1 ≤ zi) (h2 : zi ≤ 4) (hn0 : 0 ≤ n) (hn : n < 256 ^ zi.toNat) (hs : SeenB w A (be n.toNat zi.toNat ++ l)) (hm : m = zi.toNat + l.length) (hc : m ≤ c) (hl : l.length ≤ 1000) :
    Calls Try.prog 14 #[.slice A m c, .int .i64 zi] w (GivesT w n l) := by
  have e := be_length n.toNat zi.toNat
  have T := take_yes A (be n.toNat zi.toNat ++ l) c m zi.toNat w hs (by rw [List.length_append, e, hm]) hc (by rw [List.length_append, e]; omega) (by omega) (by omega) (by omega)
  have na : n.toNat < 256 ^ zi.toNat := by
    have : ((n.toNat : Nat) : Int) < ((256 ^ zi.toNat : Nat) : Int) := by simpa [Int.toNat_of_nonneg hn0] using hn
    exact_mod_cast this
  have e1 : (be n.toNat zi.toNat ++ l).take zi.toNat = be n.toNat zi.toNat := by
    have := List.take_left (l₁ := be n.toNat zi.toNat) (l₂ := l)
    rwa [e] at this
  have e2 : (be n.toNat zi.toNat ++ l).drop zi.toNat = l := by
    have := List.drop_left (l₁ := be n.toNat zi.toNat) (l₂ := l)
    rwa [e] at this
  rw [e1, e2, num_be _ _ na, Int.toNat_of_nonneg (by omega), Int.toNat_of_nonneg hn0] at T
  exact T
theorem fix_back (n : Int) (A : Option Addr) (m c : Nat) (l : List UInt8) (w : World) (h1 : -2147483648 ≤ n) (h2 : n < 2147483648) (hs : SeenB w A (be (up32 n).toNat 4 ++ l)) (hm : m = 4 + l.length) (hc : m ≤ c) (hl : l.length ≤ 1000) :
    Calls Try.prog 16 #[.slice A m c] w (GivesT w n l) := by
  have e := be_length (up32 n).toNat 4
  have hu := up32_in h1 h2
  have T := takefix_yes A (be (up32 n).toNat 4 ++ l) c m w hs (by rw [List.length_append, e, hm]) hc (by rw [List.length_append, e]; omega) (by omega)
  have e1 : (be (up32 n).toNat 4 ++ l).take 4 = be (up32 n).toNat 4 := by
    have := List.take_left (l₁ := be (up32 n).toNat 4) (l₂ := l)
    rwa [e] at this
  have e2 : (be (up32 n).toNat 4 ++ l).drop 4 = l := by
    have := List.drop_left (l₁ := be (up32 n).toNat 4) (l₂ := l)
    rwa [e] at this
  have e3 : ((num (be (up32 n).toNat 4) : Nat) : Int) = up32 n := by rw [num_be _ _ (by omega)]; omega
  rw [e1, e2, e3, down_up h1 h2] at T
  exact T
theorem putfixn (n : Int) (w : World) (h1 : -2147483648 ≤ n) (h2 : n < 2147483648) :
    Calls Try.prog 12 #[.slice none 0 0, .int .i64 n] w
      (fun e w' => ∃ A c, e = .returned (.tuple #[.slice A 4 c, .int .i64 0]) ∧ 4 ≤ c ∧ SeenB w' A (be (up32 n).toNat 4) ∧ Ext w w') := by
  have T := putfix_yes none [] 0 0 n w SeenB.nil rfl (by simp) h1 h2
  refine T.mono ?_
  intro e w' h
  have := GivesB.open h
  simpa using this
/-- What is taken of bytes is put as it was. -/
theorem put_back (zi : Int) (l : List UInt8) (w : World) (h1 : 1 ≤ zi) (h2 : zi ≤ 4) (hl : zi.toNat ≤ l.length) :
    Calls Try.prog 10 #[.slice none 0 0, .int .i64 (num (l.take zi.toNat)), .int .i64 zi] w
      (fun e w' => ∃ A c, e = .returned (.tuple #[.slice A zi.toNat c, .int .i64 0]) ∧ zi.toNat ≤ c ∧ SeenB w' A (l.take zi.toNat) ∧ Ext w w') := by
  have e : (l.take zi.toNat).length = zi.toNat := by simp; omega
  have hb := num_lt (l.take zi.toNat)
  rw [e] at hb
  have T := putn_yes (num (l.take zi.toNat)) zi w h1 h2 (by omega) (by rw [show ((256 : Int) ^ zi.toNat) = ((256 ^ zi.toNat : Nat) : Int) from by simp]; exact Int.ofNat_lt.2 hb)
  have e2 := be_num (l.take zi.toNat)
  rw [e] at e2
  rw [Int.toNat_natCast, e2] at T
  exact T

theorem many (a s : Int) (A : Option Addr) (m c : Nat) (hn : 1000 < m) (hm : m ≤ 9223372036854775807) (w : World) :
    Calls Try.prog 5 #[.int .u32 a, .int .u8 s, .slice A m c] w (Ret w (.bool true)) := by
  have hz : 1000 < (m : Int) := by omega
  go_enter Try.func5, Try.ntmps5
  go_wp2_with fail
  refine (L06.awake_any _).mono ?_; rintro e w1 ⟨rfl, x1⟩
  go_wp2_with fail
  go_ret
  exact ⟨rfl, x1⟩

theorem takeb (zi : Int) (A : Option Addr) (l : List UInt8) (c : Nat) (w : World) (hs : SeenB w A l) (hc : l.length ≤ c) (hl : l.length ≤ 1000) (h1 : 1 ≤ zi) (h2 : zi ≤ 4) (h3 : zi ≤ (l.length : Int)) :
    Calls Try.prog 14 #[.slice A l.length c, .int .i64 zi] w (fun e w' => ∃ A' c', e = .returned (.tuple #[.int .i64 (num (l.take zi.toNat)), .slice A' (l.length - zi.toNat) c', .int .i64 0]) ∧ SeenB w' A' (l.drop zi.toNat) ∧ Ext w w') := by
  have T := take_yes A l c l.length zi.toNat w hs rfl hc (by omega) (by omega) (by omega) (by omega)
  rw [Int.toNat_of_nonneg (by omega)] at T
  refine T.mono ?_
  rintro e w' ⟨A', c', he, s, x⟩
  rw [List.length_drop] at he
  exact ⟨A', c', he, s, x⟩
/-- An append within a region that draws its order, whose run is known. -/
theorem step_ran {P : Program} {ops : Array Oper} {o : Oper} {a : Act} {w w' : World} {K : Act → World → Prop} {Q : Exit → Act → World → Prop} {E : Prop} {t : TypeId} {v : Value} (s x : Operand)
    (ho : o.op = .call { callee := .builtin .append, args := #[s, x], argTypes := #[t, t] }) (hw : Region.wanted o (yielded ops a.tmps) = true) (hrun : (Builtin.append_ #[t, t] o.type #[a.eval s, a.eval x]).run P w = .ok v w')
    (h : K (a.put o.dst v) w') : if Region.wanted o (yielded ops a.tmps) = true then Oper.wp P o a w K Q else E := by
  rw [if_pos hw]
  unfold Oper.wp execOp
  simp only [ho, resolve, invoke, builtin, Sem.run_bind, Sem.run_pure, Result.andThen_ok, List.map_toArray, List.map_cons, List.map_nil, hrun]
  exact h

end PackBack
end Go.Proofs.Ytalanmgcacacaaa

