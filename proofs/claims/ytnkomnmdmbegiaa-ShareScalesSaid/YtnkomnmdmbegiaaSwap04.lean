/- The library's stable sort over elements of k cells: the exchange of two runs. -/
import Derived.Test.YtnkomnmdmbegiaaFrame
import Derived.Shelf.SlSortCmp.KitK
import Derived.Sort.WalkB2
import Derived.Sort.WalkB12
import Derived.Deep.LoopGhost
namespace Go.Proofs.Ytnkomnmdmbegiaa
open Go.RowKit Go.Sort Go.Lib Go.Shelf
namespace L04

/-- What the sort asks of a program: its own functions, and the element's size, which is left open. -/
structure Stable (P : Program) (k : Nat) : Prop where
  mixed : P.follows Departure.mixedOrders = true
  fSwap : P.funcs[38]? = some Try.f38
  fRot : P.funcs[36]? = some Try.f36
  fSym : P.funcs[31]? = some Try.f31
  fIns : P.funcs[30]? = some Try.f30
  fSta : P.funcs[25]? = some Try.f25
  fTop : P.funcs[18]? = some Try.f18
  t0 : P.underlying 0 = some (TypeDesc.tuple #[])
  a0 : ∀ w, (isAgg 0).run P w = .ok false w
  z0 : ∀ w, (Go.sizeOf 0).run P w = .ok 1 w
  v0 : ∀ w, (zeroValue 0).run P w = .ok (Value.tuple #[]) w
  t3 : P.underlying 3 = some (TypeDesc.int IntKind.i64)
  a3 : ∀ w, (isAgg 3).run P w = .ok false w
  z3 : ∀ w, (Go.sizeOf 3).run P w = .ok 1 w
  v3 : ∀ w, (zeroValue 3).run P w = .ok (Value.int IntKind.i64 0) w
  t4 : P.underlying 4 = some (TypeDesc.bool)
  a4 : ∀ w, (isAgg 4).run P w = .ok false w
  z4 : ∀ w, (Go.sizeOf 4).run P w = .ok 1 w
  v4 : ∀ w, (zeroValue 4).run P w = .ok (Value.bool false) w
  tu : P.underlying 61 = some (TypeDesc.int IntKind.u64)
  au : ∀ w, (isAgg 61).run P w = .ok false w
  zu : ∀ w, (Go.sizeOf 61).run P w = .ok 1 w
  vu : ∀ w, (zeroValue 61).run P w = .ok (Value.int IntKind.u64 0) w
  ts : P.underlying 33 = some (TypeDesc.slice 38)
  asl : ∀ w, (isAgg 33).run P w = .ok false w
  zs : ∀ w, (Go.sizeOf 33).run P w = .ok 1 w
  vs : ∀ w, (zeroValue 33).run P w = .ok (Value.slice none 0 0) w
  tc : P.underlying 40 = some (TypeDesc.func #[38, 38] #[3] false)
  ac : ∀ w, (isAgg 40).run P w = .ok false w
  zc : ∀ w, (Go.sizeOf 40).run P w = .ok 1 w
  vc : ∀ w, (zeroValue 40).run P w = .ok (Value.nilFunc) w
  aE : ∀ w, (isAgg 38).run P w = .ok true w
  zE : ∀ w, (Go.sizeOf 38).run P w = .ok k w

theorem stable_here : Stable Try.prog 2 where
  mixed := by kernel_rfl
  fSwap := Try.func38
  fRot := Try.func36
  fSym := Try.func31
  fIns := Try.func30
  fSta := Try.func25
  fTop := Try.func18
  t0 := Try.underlying0
  a0 := Try.isAgg0
  z0 := Try.sizeOf0
  v0 := Try.zeroValue0
  t3 := Try.underlying3
  a3 := Try.isAgg3
  z3 := Try.sizeOf3
  v3 := Try.zeroValue3
  t4 := Try.underlying4
  a4 := Try.isAgg4
  z4 := Try.sizeOf4
  v4 := Try.zeroValue4
  tu := Try.underlying61
  au := Try.isAgg61
  zu := Try.sizeOf61
  vu := Try.zeroValue61
  ts := Try.underlying33
  asl := Try.isAgg33
  zs := Try.sizeOf33
  vs := Try.zeroValue33
  tc := Try.underlying40
  ac := Try.isAgg40
  zc := Try.sizeOf40
  vc := Try.zeroValue40
  aE := Try.isAgg38
  zE := Try.sizeOf38

variable {P : Program} {α : Type} [Inhabited α]

/-- So many exchanges. -/
def swaps (a b : Nat) : Nat → Array α → Array α
  | 0, d => d
  | n + 1, d => swp (swaps a b n d) (a + n) (b + n)
theorem size_swaps (a b : Nat) : ∀ (n : Nat) (d : Array α), (swaps a b n d).size = d.size
  | 0, _ => rfl
  | n + 1, d => by rw [swaps, size_swp, size_swaps a b n d]

set_option maxHeartbeats 4000000 in
set_option maxRecDepth 1000000 in
theorem swapRange_any (k : Nat) (L : Stable P k) (enc : α → List Value) (g : Nat) (cb : Array Value) (blk off cap a b n : Nat) (d0 d : Array α) (w0 w : World)
    (R : RowK enc k w0 blk off d0) (hs : d0.size = d.size) (S : SWK enc k w0 blk off d w) (ha : a + n ≤ d.size) (hb : b + n ≤ d.size) (hsz : d.size < 4611686018427387904) :
    Calls P 38 #[.slice (some ⟨blk, off, none⟩) d.size cap, .int .i64 a, .int .i64 b, .int .i64 n, .func (.func g) #[] cb] w fun e w' => e = .returned (.tuple #[]) ∧ SWK enc k w0 blk off (swaps a b n d) w' := by
  have mixed := L.mixed; have t0 := L.t0; have a0 := L.a0; have z0 := L.z0; have v0 := L.v0; have t3 := L.t3; have a3 := L.a3; have z3 := L.z3; have v3 := L.v3; have t4 := L.t4; have a4 := L.a4; have z4 := L.z4; have v4 := L.v4
  have ts := L.ts; have asl := L.asl; have zs := L.zs; have vs := L.vs; have tc := L.tc; have ac := L.ac; have zc := L.zc; have vc := L.vc; have aE := L.aE; have zE := L.zE
  have FG := L.fSwap
  have S0 : Aside (SWK enc k w0 blk off d w) := S
  clear S L
  go_enter FG, Try.ntmps38
  go_wp2
  go_loopg [10] n (fun kx s10 wr => ∃ (i : Nat) (dk : Array α), s10 = .int .i64 i ∧ i ≤ n ∧ n - i ≤ kx ∧ dk.size = d.size ∧ Aside (SWK enc k w0 blk off dk wr) ∧ Hid (dk = swaps a b i d))
  case atStart => exact ⟨0, d, rfl, by omega, by omega, rfl, S0, rfl⟩
  case round =>
    clear S0
    obtain ⟨i, dk, rfl, hin, hkx, hds, S1, heq⟩ := hrel
    by_cases hlt : i < n
    · have hltz : (i : Int) < (n : Int) := by omega
      go_wp2_with fail
      have ea44 : ((a : Int) + (i : Int)).toNat = a + i := by omega
      have pa44 : (0 : Int) ≤ (a : Int) + (i : Int) := by omega
      have ba44 : (a : Int) + (i : Int) < (d.size : Int) := by omega
      have ra44 : IntKind.i64.wrap ((a : Int) + (i : Int)) = (a : Int) + (i : Int) := by rw [IntKind.wrap_i64]; omega
      have ec44 : ((b : Int) + (i : Int)).toNat = b + i := by omega
      have pc44 : (0 : Int) ≤ (b : Int) + (i : Int) := by omega
      have bc44 : (b : Int) + (i : Int) < (d.size : Int) := by omega
      have rc44 : IntKind.i64.wrap ((b : Int) + (i : Int)) = (b : Int) + (i : Int) := by rw [IntKind.wrap_i64]; omega
      have S2 : Aside (SWK enc k w0 blk off (swp dk (a + i) (b + i)) ((wr.drew.setCells blk (off + (a + i) * k) (enc dk[b + i]!)).setCells blk (off + (b + i) * k) (enc dk[a + i]!))) := S1.out.swapped R (a + i) (b + i) (by omega) (by omega)
      have l44a := S1.out.ld1 R (by omega) P (a + i) (by omega)
      have l44b := S1.out.ld1 R (by omega) P (b + i) (by omega)
      have s44a := S1.out.st1 R (by omega) P (a + i) (by omega) dk[b + i]!
      have s44b := S1.out.st2 R (by omega) P (a + i) (b + i) (by omega) (by omega) dk[b + i]! dk[a + i]!
      have n44a : (enc dk[a + i]!).length = k := R.hk _
      have n44b : (enc dk[b + i]!).length = k := R.hk _
      generalize enc dk[a + i]! = cI44 at S2 l44a s44b n44a
      generalize enc dk[b + i]! = cJ44 at S2 l44b s44a s44b n44b
      clear S1
      go_wp2_with fail
      go_big_region_o
      clear l44a l44b s44a s44b
      generalize (wr.drew.setCells blk (off + (a + i) * k) cJ44).setCells blk (off + (b + i) * k) cI44 = w2 at S2 ⊢
      go_wp2
      go_roundg (n - (i + 1))
      case measure => omega
      case rel =>
        exact ⟨i + 1, swp dk (a + i) (b + i), by simp, by omega, Nat.le_refl _, by rw [size_swp]; exact hds, S2, by show _ = _; rw [swaps, ← heq.out]⟩
    · have hltz : ¬ (i : Int) < (n : Int) := by omega
      obtain rfl : i = n := by omega
      go_wp2
      go_end0
      exact ⟨rfl, by rw [← heq.out]; exact S1.out⟩
end L04
end Go.Proofs.Ytnkomnmdmbegiaa

