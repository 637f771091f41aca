/- sort.Slice at a slice type with a name. Any program. -/
import Derived.Test.YtmmgmcfhlhghoaaGreatDoorGB16
import Derived.Shelf.SlSortFuncK.SWK
namespace Go.Proofs.YtmmgmcfhlhghoaaGreatDoor
open Go.Shelf Go.RowKit
open Go.Sort hiding Below
open Go.Lib hiding intOf
namespace Srt16
variable {P : Program} {ρ : Ren} {α : Type} [Inhabited α] {g sf size blk base : Nat} {V : Value} {sb : Array Value} {lt : α → α → Bool} {S : Array α → World → Prop}

open Go.Extern Go.Extern.Rtype
section
variable {t e u : TypeId} {j ie : TypeInfo}
omit [Inhabited α] in
theorem under_named {i : TypeInfo} {s : String} (hi : P.info? t = some i) (hd : i.desc = .named s u) (hj : P.info? u = some j) (w : World) : (under t).run P w = .ok (u, j) w := by
  simp [under, rl_info t i hi, hd, rl_info u j hj, Result.andThen]
theorem kind_named (hU : ∀ w, (under t).run P w = .ok (u, j) w) (hk : j.desc = .slice e) (w : World) : (Rtype.kind t).run P w = .ok 23 w := by
  simp [Rtype.kind, hU, hk, Result.andThen]
theorem elem_named (hU : ∀ w, (under t).run P w = .ok (u, j) w) (hk : j.desc = .slice e) (w : World) : (elem? t).run P w = .ok (some e) w := by
  simp [elem?, hU, hk, Result.andThen]
theorem value_named (hU : ∀ w, (under t).run P w = .ok (u, j) w) (hk : j.desc = .slice e) (p : Option Addr) (n c : Nat) (w : World) :
    (ReflectliteValue.unpack (.iface t (.slice p n c))).run P w = .ok (.agg #[typeHandle P t, .pointer (some ⟨w.heap.size, 0, none⟩), .int .u64 151]) (w.alloc (.cells #[.slice p n c] t)) := by
  simp [ReflectliteValue.unpack, ReflectliteValue.mk, newVar, newRow, handle, kind_named hU hk, Result.andThen, Value.cells, ReflectliteValue.flagIndir]
theorem len_named (hU : ∀ w, (under t).run P w = .ok (u, j) w) (hk : j.desc = .slice e) (hn : P.underlying t = some (.slice e)) (hpk : P.packed t = false) (a : Addr) (p : Option Addr) (n c : Nat) (w : World) (ha : w.cell? a = some (.slice p n c)) :
    (ReflectliteValue.method (ReflectliteValue.valueError "reflectlite.Value.Len" 0) ReflectliteValue.len #[.agg #[typeHandle P t, .pointer (some a), .int .u64 151]]).run P w = .ok (.int .i64 n) w := by
  rw [rl_method]
  simp only [Sem.run_bind, run_parts t a hpk w, Result.andThen]
  simp [ReflectliteValue.len, hU, hk, loadVar, isAgg, underlying, hn, ha, Builtin.len_, goInt, Result.andThen]
theorem swapper_named (hU : ∀ w, (under t).run P w = .ok (u, j) w) (hk : j.desc = .slice e) (hie : P.info? e = some ie) (ke : Nat) (hke : ∀ w, (Rtype.kind e).run P w = .ok ke w)
    (p : Option Addr) (n c f : Nat) (hf : P.funcs.findIdx? (·.name == "internal/reflectlite" ++ ".Swapper$" ++ toString (swapperK n ie ke)) = some f) (w : World) :
    (ReflectliteSwapper.swapper "internal/reflectlite" (ReflectliteValue.valueError "Swapper") #[.iface t (.slice p n c)]).run P w
      = .ok (.func (.func f) #[] (if swapperK n ie ke ≤ 2 then #[] else #[.slice p n c, typeHandle P e])) w := by
  rw [rl_swapper]
  simp only [Sem.run_bind, elem_named hU hk, Result.andThen, rl_info e ie hie, hke, handle, Sem.run_pure]
  change Sem.run P (ReflectliteSwapper.literal "internal/reflectlite" (swapperK n ie ke) (if swapperK n ie ke ≤ 2 then #[] else #[.slice p n c, typeHandle P e])) w = _
  simp at hf
  simp [ReflectliteSwapper.literal, hf, Result.andThen]

set_option maxHeartbeats 1000000 in
set_option maxRecDepth 100000 in
/-- sort.Slice at a slice type with a name: what pdqsort_func gives, it gives. -/
theorem slice_any (L : LaysGg.n6 P ρ) (hU : ∀ w, (under t).run P w = .ok (u, j) w) (hk : j.desc = .slice e) (hun : P.underlying t = some (.slice e)) (hpk : P.packed t = false) (hie : P.info? e = some ie) (ke : Nat) (hke : ∀ w, (Rtype.kind e).run P w = .ok ke w)
    (p : Option Addr) (n c : Nat) (hn : n < 4611686018427387904) (f : Nat) (hf : P.funcs.findIdx? (·.name == "internal/reflectlite" ++ ".Swapper$" ++ toString (swapperK n ie ke)) = some f) (lf : Fn) (la lb : Array Value) (w : World) (R : World → Prop)
    (hp : Calls P (ρ.f 14) #[.agg #[.func lf la lb, .func (.func f) #[] (sliceBound P e ie ke p n c)], .int .i64 0, .int .i64 n, .int .i64 (Lib.bitLen n)] (sliceWorld P ρ t p n c w) fun e w' => e = .returned (.tuple #[]) ∧ R w') :
    Calls P (ρ.f 6) #[.iface t (.slice p n c), .func lf la lb] w fun e w' => e = .returned (.tuple #[]) ∧ R w' := by
  have mixed := L.mixed; have t0 := L.t0; have a0 := L.a0; have z0 := L.z0; have v0 := L.v0; have t3 := L.t3; have a3 := L.a3; have z3 := L.z3; have v3 := L.v3; have t4 := L.t4; have a4 := L.a4; have z4 := L.z4; have v4 := L.v4; have t5 := L.t5; have a5 := L.a5; have z5 := L.z5; have v5 := L.v5; have t9 := L.t9; have a9 := L.a9; have z9 := L.z9; have v9 := L.v9; have t12 := L.t12; have a12 := L.a12; have z12 := L.z12; have v12 := L.v12; have t17 := L.t17; have a17 := L.a17; have z17 := L.z17; have v17 := L.v17; have t20 := L.t20; have a20 := L.a20; have z20 := L.z20; have v20 := L.v20; have t26 := L.t26; have a26 := L.a26; have z26 := L.z26; have v26 := L.v26; have t32 := L.t32; have a32 := L.a32; have z32 := L.z32; have v32 := L.v32; have t33 := L.t33; have a33 := L.a33; have z33 := L.z33; have v33 := L.v33; have t35 := L.t35; have a35 := L.a35; have z35 := L.z35; have v35 := L.v35; have t37 := L.t37; have a37 := L.a37; have z37 := L.z37; have v37 := L.v37; have t41 := L.t41; have a41 := L.a41; have z41 := L.z41; have v41 := L.v41; have t44 := L.t44; have a44 := L.a44; have z44 := L.z44; have v44 := L.v44; have t49 := L.t49; have a49 := L.a49; have z49 := L.z49; have v49 := L.v49; have t51 := L.t51; have a51 := L.a51; have z51 := L.z51; have v51 := L.v51; have t53 := L.t53; have a53 := L.a53; have z53 := L.z53; have v53 := L.v53; have t54 := L.t54; have a54 := L.a54; have z54 := L.z54; have v54 := L.v54; have t58 := L.t58; have a58 := L.a58; have z58 := L.z58; have v58 := L.v58; have t60 := L.t60; have a60 := L.a60; have z60 := L.z60; have v60 := L.v60; have t64 := L.t64; have a64 := L.a64; have z64 := L.z64; have v64 := L.v64; have t66 := L.t66; have a66 := L.a66; have z66 := L.z66; have v66 := L.v66; have t67 := L.t67; have a67 := L.a67; have z67 := L.z67; have v67 := L.v67; have t75 := L.t75; have a75 := L.a75; have z75 := L.z75; have v75 := L.v75; have t76 := L.t76; have a76 := L.a76; have z76 := L.z76; have v76 := L.v76; have t77 := L.t77; have a77 := L.a77; have z77 := L.z77; have v77 := L.v77; have t78 := L.t78; have a78 := L.a78; have z78 := L.z78; have v78 := L.v78; have t79 := L.t79; have a79 := L.a79; have z79 := L.z79; have v79 := L.v79; have t80 := L.t80; have a80 := L.a80; have z80 := L.z80; have v80 := L.v80; have t82 := L.t82; have a82 := L.a82; have z82 := L.z82; have v82 := L.v82
  have u44 := run_underlying L.t44
  have hv := value_named (P := P) hU hk p n c w
  have hs := fun w => swapper_named (P := P) hU hk hie ke hke p n c f hf w
  have hl := fun a w ha => len_named (P := P) hU hk hun hpk a p n c w ha
  have hb := fun w => Any.bits_Len (LaysGg.n13.bits (P := P) (ρ := ρ) { L with }) (n : Int) w (by omega) (by omega)
  change ∀ w, Calls P (ρ.f 13) _ w _ at hb
  unfold sliceBound sliceWorld at hp
  generalize (if swapperK n ie ke ≤ 2 then (#[] : Array Value) else #[.slice p n c, typeHandle P e]) = B at hs hp
  simp only [typeHandle] at hv hl
  have e13 : ∀ args w, (callFunc (ρ.f 13) args).run P w = .ok (.enter (ρ.f 13) args) w := enters_of L.f13 (by kernel_rfl) rfl
  have e14 : ∀ args w, (callFunc (ρ.f 14) args).run P w = .ok (.enter (ρ.f 14) args) w := enters_of L.f14 (by kernel_rfl) rfl
  have wr : IntKind.u64.wrap (n : Int) = n := by simp [IntKind.wrap, IntKind.bits, IntKind.signed]; omega
  go_enter L.f6, BodyGg.n6_ntmps ρ
  go_wp2
  rw [run_callFunc_extern L.f10 (by kernel_rfl) (by kernel_rfl) (by kernel_rfl) (e := fun args => ReflectliteValue.unpack (args.getD 0 (.tuple #[]))) (by kernel_rfl),
    show Sem.run P ((fun args : Array Value => ReflectliteValue.unpack (args.getD 0 (.tuple #[]))) #[.iface t (.slice p n c)]) w = _ from hv]
  simp only [Result.andThen]
  rw [Oper.upon_value]
  go_wp2
  rw [run_callFunc_extern L.f11 (by kernel_rfl) (by kernel_rfl) (by kernel_rfl) (e := ReflectliteSwapper.swapper "internal/reflectlite" (ReflectliteValue.valueError "Swapper")) (by kernel_rfl), hs]
  simp only [Result.andThen]
  rw [Oper.upon_value]
  go_wp2
  rw [run_callFunc_extern L.f12 (by kernel_rfl) (by kernel_rfl) (by kernel_rfl) (e := ReflectliteValue.method (ReflectliteValue.valueError "reflectlite.Value.Len" 0) ReflectliteValue.len) (by kernel_rfl),
    hl _ _ (by simp)]
  simp only [Result.andThen]
  rw [Oper.upon_value]
  go_wp2_with (first
    | (go_at_fn (ρ.f 13); refine (hb _).mono ?_; rintro e w' ⟨rfl, rfl⟩)
    | (go_at_fn (ρ.f 14); refine hp.mono ?_; rintro e w' ⟨rfl, hR⟩))
  go_end0
  exact ⟨rfl, hR⟩
end
end Srt16
end Go.Proofs.YtmmgmcfhlhghoaaGreatDoor

