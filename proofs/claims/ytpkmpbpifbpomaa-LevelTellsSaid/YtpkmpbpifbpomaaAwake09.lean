/- What all statements of layer 9 begin with. -/
import Derived.Test.YtpkmpbpifbpomaaLevK09
namespace Go.Proofs.Ytpkmpbpifbpomaa
open Go.RowKit Go.Lib
namespace L09
open L02 L07 L08

/-- A load of a struct, guarded or not. -/
theorem wpList_load {P : Program} {ops : Array Oper} {rest : List Oper} {op : Oper} {a : Act} {w : World} {Q : Exit → Act → World → Prop} (hw : Region.wanted op (yielded ops a.tmps) = true) (ty : TypeId) (x : Operand) (ho : op.op = .load ty x)
    (b : Nat) (hx : a.eval x = .pointer (some ⟨b, 0, none⟩)) (cs : List Value) (d : TypeDesc) (hc : w.rangeAt b 0 cs)
    (hu : P.underlying ty = some d) (hd : d.isRow = true) (hi : (P.info? ty).map (·.size) = some cs.length)
    (h : wpList P ops Q rest (a.put op.dst (.agg cs.toArray)) w) : wpList P ops Q (op :: rest) a w := by
  unfold wpList
  rw [if_pos hw]
  exact Or.inl (wp_load_mid ty x ho b 0 hx cs d hc hu hd hi h)

def D0 : FontD := ⟨0, 1048576, 65, 1, fun _ j => if j = 0 then 1 else 0, 2, fun j => if j = 1 then 1048576 else 0, 1, fun _ => 0, 1, fun _ => 0, 1, fun _ => 0, 0, fun _ _ => 0, 0, fun _ => 0, 0, fun _ => 0⟩
def P0 (b0 b1 b2 b3 b4 : Nat) : FontP := ⟨some ⟨b0, 0, none⟩, 1, some ⟨b1, 0, none⟩, 2, some ⟨b2, 0, none⟩, 1, some ⟨b3, 0, none⟩, 1, some ⟨b4, 0, none⟩, 1, none, 0, none, 0, none, 0⟩
def T0 : FaceT := ⟨1048576, 20, 2, 0, 1, fun _ j => if j = 0 then 65 else if j = 1 then 500 else if j = 2 then -10 else 100⟩
def Q0 (b5 : Nat) : FaceQ := ⟨some ⟨b5, 0, none⟩, 1⟩
def DZ : FontD := ⟨0, 0, 0, 0, fun _ _ => 0, 0, fun _ => 0, 0, fun _ => 0, 0, fun _ => 0, 0, fun _ => 0, 0, fun _ _ => 0, 0, fun _ => 0, 0, fun _ => 0⟩
def PZ : FontP := ⟨none, 0, none, 0, none, 0, none, 0, none, 0, none, 0, none, 0, none, 0⟩
def TZ : FaceT := ⟨0, 0, 0, 0, 0, fun _ _ => 0⟩
def QZ : FaceQ := ⟨none, 0⟩
theorem ok_zero : FaceOk DZ PZ TZ QZ := by
  refine ⟨⟨?_, ?_, ?_, ?_, ?_, ?_, ?_, ?_, ?_, ?_, ?_, ?_, ?_, ?_, ?_, ?_, ?_, ?_, ?_⟩, ?_, ?_, ?_, ?_, ?_, ?_⟩
  all_goals first | (simp [DZ, PZ, TZ, QZ, maxLen]; done) | (intros; simp [DZ, TZ, Wide]) | simp [DZ, TZ, Wide]
theorem seen_zero (w : World) : SeenFace w DZ PZ TZ QZ := ⟨⟨SeenN.nil, SeenF.none, SeenF.none, SeenF.none, SeenF.none, SeenN.nil, SeenF.none, SeenF.none⟩, SeenN.nil⟩
theorem ok_0 (b0 b1 b2 b3 b4 b5 : Nat) : FaceOk D0 (P0 b0 b1 b2 b3 b4) T0 (Q0 b5) := by
  refine ⟨⟨?_, ?_, ?_, ?_, ?_, ?_, ?_, ?_, ?_, ?_, ?_, ?_, ?_, ?_, ?_, ?_, ?_, ?_, ?_⟩, ?_, ?_, ?_, ?_, ?_, ?_⟩
  all_goals first | (simp [D0, P0, T0, Q0, maxLen]; done) | (simp [D0, T0, Wide]; done) | (intros; simp only [D0, T0, Wide]; (repeat' split) <;> omega)
theorem blk_ints {w : World} {b : Nat} {t : TypeId} {cs : List Value} {n : Nat} {f : Nat → Int} (h : Blk w b t cs) (hf : ∀ j, j < n → cs[j]? = some (.int .i64 (f j))) : SeenF w (some ⟨b, 0, none⟩) n f := fun j hj =>
  ⟨_, rfl, h.lt, by rw [add_zero_addr, h.cell j]; exact hf j hj⟩
theorem blk_rows {k : Nat} {w : World} {b : Nat} {t : TypeId} {cs : List Value} {n : Nat} {f : Nat → Nat → Int} (h : Blk w b t cs) (hf : ∀ i, i < n → ∀ j, j < k → cs[i * k + j]? = some (.int .i64 (f i j))) : SeenN k w (some ⟨b, 0, none⟩) n f := fun i hi j hj =>
  ⟨_, rfl, h.lt, by rw [add_zero_addr, h.cell]; exact hf i hi j hj⟩
theorem seen_0 {w : World} {b0 b1 b2 b3 b4 b5 : Nat} {t0 t1 t2 t3 t4 t5 : TypeId} (k0 : Blk w b0 t0 [.int .i64 1, .int .i64 0, .int .i64 0, .int .i64 0, .int .i64 0, .int .i64 0]) (k1 : Blk w b1 t1 [.int .i64 0, .int .i64 1048576]) (k2 : Blk w b2 t2 [.int .i64 0]) (k3 : Blk w b3 t3 [.int .i64 0]) (k4 : Blk w b4 t4 [.int .i64 0])
    (k5 : Blk w b5 t5 [.int .i64 65, .int .i64 500, .int .i64 (-10), .int .i64 100]) : SeenFace w D0 (P0 b0 b1 b2 b3 b4) T0 (Q0 b5) := by
  refine ⟨⟨blk_rows k0 ?_, blk_ints k1 ?_, blk_ints k2 ?_, blk_ints k3 ?_, blk_ints k4 ?_, SeenN.nil, SeenF.none, SeenF.none⟩, blk_rows k5 ?_⟩
  · intro i hi j hj
    obtain rfl : i = 0 := by simp [D0] at hi; omega
    match j, hj with
    | 0, _ | 1, _ | 2, _ | 3, _ | 4, _ | 5, _ => rfl
  · intro j hj
    match j, hj with
    | 0, _ | 1, _ => rfl
  · intro j hj
    match j, hj with
    | 0, _ => rfl
  · intro j hj
    match j, hj with
    | 0, _ => rfl
  · intro j hj
    match j, hj with
    | 0, _ => rfl
  · intro i hi j hj
    obtain rfl : i = 0 := by simp [T0] at hi; omega
    match j, hj with
    | 0, _ | 1, _ | 2, _ | 3, _ => rfl

theorem call0 {b0 b1 b2 b3 b4 b5 : Nat} (w : World) (sn : SeenFace w D0 (P0 b0 b1 b2 b3 b4) T0 (Q0 b5)) : Calls Try.prog 27 #[.agg #[.int .i64 0, .int .i64 1048576, .int .i64 65, .slice (some ⟨b0, 0, none⟩) 1 1, .slice (some ⟨b1, 0, none⟩) 2 2, .slice (some ⟨b2, 0, none⟩) 1 1, .slice (some ⟨b3, 0, none⟩) 1 1, .slice (some ⟨b4, 0, none⟩) 1 1, .slice none 0 0, .slice none 0 0, .slice none 0 0, .int .i64 1048576, .int .i64 20, .int .i64 2, .int .i64 0, .slice (some ⟨b5, 0, none⟩) 1 1], .int .i64 65, .int .i64 5] w (Ret w (.tuple #[.int .i64 1069547, .int .i64 0])) := by
  have h := fwidth_any D0 (P0 b0 b1 b2 b3 b4) T0 (Q0 b5) 65 5 w (ok_0 b0 b1 b2 b3 b4 b5) sn (by omega) (by omega) (by omega) (by omega)
  rw [(show widthV D0 T0 65 5 = 1069547 by kernel_rfl), (show errF D0 T0 65 = 0 by kernel_rfl)] at h
  exact h
theorem call1 {b0 b1 b2 b3 b4 b5 : Nat} (w : World) (sn : SeenFace w D0 (P0 b0 b1 b2 b3 b4) T0 (Q0 b5)) : Calls Try.prog 27 #[.agg #[.int .i64 0, .int .i64 1048576, .int .i64 65, .slice (some ⟨b0, 0, none⟩) 1 1, .slice (some ⟨b1, 0, none⟩) 2 2, .slice (some ⟨b2, 0, none⟩) 1 1, .slice (some ⟨b3, 0, none⟩) 1 1, .slice (some ⟨b4, 0, none⟩) 1 1, .slice none 0 0, .slice none 0 0, .slice none 0 0, .int .i64 1048576, .int .i64 20, .int .i64 2, .int .i64 0, .slice (some ⟨b5, 0, none⟩) 1 1], .int .i64 65, .int .i64 (-5)] w (Ret w (.tuple #[.int .i64 1048576, .int .i64 0])) := by
  have h := fwidth_any D0 (P0 b0 b1 b2 b3 b4) T0 (Q0 b5) 65 (-5) w (ok_0 b0 b1 b2 b3 b4 b5) sn (by omega) (by omega) (by omega) (by omega)
  rw [(show widthV D0 T0 65 (-5) = 1048576 by kernel_rfl), (show errF D0 T0 65 = 0 by kernel_rfl)] at h
  exact h
theorem call2 {b0 b1 b2 b3 b4 b5 : Nat} (w : World) (sn : SeenFace w D0 (P0 b0 b1 b2 b3 b4) T0 (Q0 b5)) : Calls Try.prog 29 #[.agg #[.int .i64 0, .int .i64 1048576, .int .i64 65, .slice (some ⟨b0, 0, none⟩) 1 1, .slice (some ⟨b1, 0, none⟩) 2 2, .slice (some ⟨b2, 0, none⟩) 1 1, .slice (some ⟨b3, 0, none⟩) 1 1, .slice (some ⟨b4, 0, none⟩) 1 1, .slice none 0 0, .slice none 0 0, .slice none 0 0, .int .i64 1048576, .int .i64 20, .int .i64 2, .int .i64 0, .slice (some ⟨b5, 0, none⟩) 1 1], .int .i64 (-1000), .int .i64 2] w (Ret w (.tuple #[.int .i64 (-1040), .int .i64 0])) := by
  have h := fkern_any D0 (P0 b0 b1 b2 b3 b4) T0 (Q0 b5) (-1000) 2 w (ok_0 b0 b1 b2 b3 b4 b5) sn (by omega) (by omega)
  rw [(show kernV D0 T0 (-1000) 2 = (-1040) by kernel_rfl), (show kernE D0 T0 (-1000) = 0 by kernel_rfl)] at h
  exact h
theorem call3 {b0 b1 b2 b3 b4 b5 : Nat} (w : World) (sn : SeenFace w D0 (P0 b0 b1 b2 b3 b4) T0 (Q0 b5)) : Calls Try.prog 31 #[.agg #[.int .i64 0, .int .i64 1048576, .int .i64 65, .slice (some ⟨b0, 0, none⟩) 1 1, .slice (some ⟨b1, 0, none⟩) 2 2, .slice (some ⟨b2, 0, none⟩) 1 1, .slice (some ⟨b3, 0, none⟩) 1 1, .slice (some ⟨b4, 0, none⟩) 1 1, .slice none 0 0, .slice none 0 0, .slice none 0 0, .int .i64 1048576, .int .i64 20, .int .i64 2, .int .i64 0, .slice (some ⟨b5, 0, none⟩) 1 1], .int .i64 65, .int .i64 0] w (Ret w (.tuple #[.int .i64 (-10486), .int .i64 104857, .int .i64 0])) := by
  have h := fedges_any D0 (P0 b0 b1 b2 b3 b4) T0 (Q0 b5) 65 0 w (ok_0 b0 b1 b2 b3 b4 b5) sn (by omega) (by omega) (by omega) (by omega)
  rw [(show edgeV D0 T0 65 0 2 = (-10486) by kernel_rfl), (show edgeV D0 T0 65 0 3 = 104857 by kernel_rfl), (show errF D0 T0 65 = 0 by kernel_rfl)] at h
  exact h
theorem call4 {b0 b1 b2 b3 b4 b5 : Nat} (w : World) (sn : SeenFace w D0 (P0 b0 b1 b2 b3 b4) T0 (Q0 b5)) : Calls Try.prog 27 #[.agg #[.int .i64 0, .int .i64 1048576, .int .i64 65, .slice (some ⟨b0, 0, none⟩) 1 1, .slice (some ⟨b1, 0, none⟩) 2 2, .slice (some ⟨b2, 0, none⟩) 1 1, .slice (some ⟨b3, 0, none⟩) 1 1, .slice (some ⟨b4, 0, none⟩) 1 1, .slice none 0 0, .slice none 0 0, .slice none 0 0, .int .i64 1048576, .int .i64 20, .int .i64 2, .int .i64 0, .slice (some ⟨b5, 0, none⟩) 1 1], .int .i64 66, .int .i64 0] w (Ret w (.tuple #[.int .i64 0, .int .i64 80])) := by
  have h := fwidth_any D0 (P0 b0 b1 b2 b3 b4) T0 (Q0 b5) 66 0 w (ok_0 b0 b1 b2 b3 b4 b5) sn (by omega) (by omega) (by omega) (by omega)
  rw [(show widthV D0 T0 66 0 = 0 by kernel_rfl), (show errF D0 T0 66 = 80 by kernel_rfl)] at h
  exact h
theorem call5 {b0 b1 b2 b3 b4 b5 : Nat} (w : World) (sn : SeenFace w D0 (P0 b0 b1 b2 b3 b4) T0 (Q0 b5)) : Calls Try.prog 29 #[.agg #[.int .i64 0, .int .i64 1048576, .int .i64 65, .slice (some ⟨b0, 0, none⟩) 1 1, .slice (some ⟨b1, 0, none⟩) 2 2, .slice (some ⟨b2, 0, none⟩) 1 1, .slice (some ⟨b3, 0, none⟩) 1 1, .slice (some ⟨b4, 0, none⟩) 1 1, .slice none 0 0, .slice none 0 0, .slice none 0 0, .int .i64 1048576, .int .i64 20, .int .i64 2, .int .i64 0, .slice (some ⟨b5, 0, none⟩) 1 1], .int .i64 16777216, .int .i64 0] w (Ret w (.tuple #[.int .i64 0, .int .i64 90])) := by
  have h := fkern_any D0 (P0 b0 b1 b2 b3 b4) T0 (Q0 b5) 16777216 0 w (ok_0 b0 b1 b2 b3 b4 b5) sn (by omega) (by omega)
  rw [(show kernV D0 T0 16777216 0 = 0 by kernel_rfl), (show kernE D0 T0 16777216 = 90 by kernel_rfl)] at h
  exact h
theorem call6 (w : World) : Calls Try.prog 31 #[.agg #[.int .i64 0, .int .i64 0, .int .i64 0, .slice none 0 0, .slice none 0 0, .slice none 0 0, .slice none 0 0, .slice none 0 0, .slice none 0 0, .slice none 0 0, .slice none 0 0, .int .i64 0, .int .i64 0, .int .i64 0, .int .i64 0, .slice none 0 0], .int .i64 65, .int .i64 0] w (Ret w (.tuple #[.int .i64 0, .int .i64 0, .int .i64 90])) := by
  have h := fedges_any DZ PZ TZ QZ 65 0 w ok_zero (seen_zero w) (by omega) (by omega) (by omega) (by omega)
  rw [(show edgeV DZ TZ 65 0 2 = 0 by kernel_rfl), (show edgeV DZ TZ 65 0 3 = 0 by kernel_rfl), (show errF DZ TZ 65 = 90 by kernel_rfl)] at h
  exact h
theorem call7 {b0 b1 b2 b3 b4 b5 : Nat} (w : World) (sn : SeenFace w D0 (P0 b0 b1 b2 b3 b4) T0 (Q0 b5)) : Calls Try.prog 33 #[.agg #[.int .i64 0, .int .i64 1048576, .int .i64 65, .slice (some ⟨b0, 0, none⟩) 1 1, .slice (some ⟨b1, 0, none⟩) 2 2, .slice (some ⟨b2, 0, none⟩) 1 1, .slice (some ⟨b3, 0, none⟩) 1 1, .slice (some ⟨b4, 0, none⟩) 1 1, .slice none 0 0, .slice none 0 0, .slice none 0 0, .int .i64 1048576, .int .i64 20, .int .i64 2, .int .i64 0, .slice (some ⟨b5, 0, none⟩) 1 1]] w (Ret w (.bool true)) := by
  have h := fcheck_any D0 (P0 b0 b1 b2 b3 b4) T0 (Q0 b5)  w (ok_0 b0 b1 b2 b3 b4 b5) sn
  rw [(show faceB D0 T0 = true by kernel_rfl)] at h
  exact h
theorem call8 (w : World) : Calls Try.prog 33 #[.agg #[.int .i64 0, .int .i64 0, .int .i64 0, .slice none 0 0, .slice none 0 0, .slice none 0 0, .slice none 0 0, .slice none 0 0, .slice none 0 0, .slice none 0 0, .slice none 0 0, .int .i64 0, .int .i64 0, .int .i64 0, .int .i64 0, .slice none 0 0]] w (Ret w (.bool false)) := by
  have h := fcheck_any DZ PZ TZ QZ  w ok_zero (seen_zero w)
  rw [(show faceB DZ TZ = false by kernel_rfl)] at h
  exact h
theorem call9 {b0 b1 b2 b3 b4 b5 : Nat} (w : World) (sn : SeenFace w D0 (P0 b0 b1 b2 b3 b4) T0 (Q0 b5)) : Calls Try.prog 35 #[.agg #[.int .i64 0, .int .i64 1048576, .int .i64 65, .slice (some ⟨b0, 0, none⟩) 1 1, .slice (some ⟨b1, 0, none⟩) 2 2, .slice (some ⟨b2, 0, none⟩) 1 1, .slice (some ⟨b3, 0, none⟩) 1 1, .slice (some ⟨b4, 0, none⟩) 1 1, .slice none 0 0, .slice none 0 0, .slice none 0 0, .int .i64 1048576, .int .i64 20, .int .i64 2, .int .i64 0, .slice (some ⟨b5, 0, none⟩) 1 1], .int .i64 5] w (Ret w (.int .i64 2)) := by
  have h := fclamp_any D0 (P0 b0 b1 b2 b3 b4) T0 (Q0 b5) 5 w (ok_0 b0 b1 b2 b3 b4 b5) sn (by omega) (by omega)
  rw [(show clampV D0 T0 5 = 2 by kernel_rfl)] at h
  exact h
theorem call10 {b0 b1 b2 b3 b4 b5 : Nat} (w : World) (sn : SeenFace w D0 (P0 b0 b1 b2 b3 b4) T0 (Q0 b5)) : Calls Try.prog 35 #[.agg #[.int .i64 0, .int .i64 1048576, .int .i64 65, .slice (some ⟨b0, 0, none⟩) 1 1, .slice (some ⟨b1, 0, none⟩) 2 2, .slice (some ⟨b2, 0, none⟩) 1 1, .slice (some ⟨b3, 0, none⟩) 1 1, .slice (some ⟨b4, 0, none⟩) 1 1, .slice none 0 0, .slice none 0 0, .slice none 0 0, .int .i64 1048576, .int .i64 20, .int .i64 2, .int .i64 0, .slice (some ⟨b5, 0, none⟩) 1 1], .int .i64 (-5)] w (Ret w (.int .i64 0)) := by
  have h := fclamp_any D0 (P0 b0 b1 b2 b3 b4) T0 (Q0 b5) (-5) w (ok_0 b0 b1 b2 b3 b4 b5) sn (by omega) (by omega)
  rw [(show clampV D0 T0 (-5) = 0 by kernel_rfl)] at h
  exact h

set_option maxRecDepth 100000 in
set_option maxHeartbeats 16000000 in
theorem awake_any (w : World) : Calls Try.prog 25 #[] w (Ret w (.bool true)) := by
  obtain ⟨V, hV⟩ : ∃ V, V = ((((((w.alloc (.cells #[.int .i64 1, .int .i64 0, .int .i64 0, .int .i64 0, .int .i64 0, .int .i64 0] 61)).alloc (.cells #[.int .i64 0, .int .i64 1048576] 3)).alloc (.cells #[.int .i64 0] 3)).alloc (.cells #[.int .i64 0] 3)).alloc (.cells #[.int .i64 0] 3)).alloc (.cells #[.int .i64 65, .int .i64 500, .int .i64 (-10), .int .i64 100] 56)).alloc (.cells #[.int .i64 0, .int .i64 1048576, .int .i64 65, .slice (some ⟨w.heap.size, 0, none⟩) 1 1, .slice (some ⟨w.heap.size + 1, 0, none⟩) 2 2, .slice (some ⟨w.heap.size + 1 + 1, 0, none⟩) 1 1, .slice (some ⟨w.heap.size + 1 + 1 + 1, 0, none⟩) 1 1, .slice (some ⟨w.heap.size + 1 + 1 + 1 + 1, 0, none⟩) 1 1, .slice none 0 0, .slice none 0 0, .slice none 0 0, .int .i64 1048576, .int .i64 20, .int .i64 2, .int .i64 0, .slice (some ⟨w.heap.size + 1 + 1 + 1 + 1 + 1, 0, none⟩) 1 1] 45) := ⟨_, rfl⟩
  have W0 : Ext w V := by rw [hV]; exact (((((((Ext.refl _).alloc _).alloc _).alloc _).alloc _).alloc _).alloc _).alloc _
  have k0 : Blk V (w.heap.size) 61 [.int .i64 1, .int .i64 0, .int .i64 0, .int .i64 0, .int .i64 0, .int .i64 0] := by rw [hV]; exact (Blk.lit _ _ _ _ (by simp)).ext (((((((Ext.refl _).alloc _).alloc _).alloc _).alloc _).alloc _).alloc _)
  have k1 : Blk V (w.heap.size + 1) 3 [.int .i64 0, .int .i64 1048576] := by rw [hV]; exact (Blk.lit _ _ _ _ (by simp)).ext ((((((Ext.refl _).alloc _).alloc _).alloc _).alloc _).alloc _)
  have k2 : Blk V (w.heap.size + 1 + 1) 3 [.int .i64 0] := by rw [hV]; exact (Blk.lit _ _ _ _ (by simp)).ext (((((Ext.refl _).alloc _).alloc _).alloc _).alloc _)
  have k3 : Blk V (w.heap.size + 1 + 1 + 1) 3 [.int .i64 0] := by rw [hV]; exact (Blk.lit _ _ _ _ (by simp)).ext ((((Ext.refl _).alloc _).alloc _).alloc _)
  have k4 : Blk V (w.heap.size + 1 + 1 + 1 + 1) 3 [.int .i64 0] := by rw [hV]; exact (Blk.lit _ _ _ _ (by simp)).ext (((Ext.refl _).alloc _).alloc _)
  have k5 : Blk V (w.heap.size + 1 + 1 + 1 + 1 + 1) 56 [.int .i64 65, .int .i64 500, .int .i64 (-10), .int .i64 100] := by rw [hV]; exact (Blk.lit _ _ _ _ (by simp)).ext ((Ext.refl _).alloc _)
  have k6 : Blk V (w.heap.size + 1 + 1 + 1 + 1 + 1 + 1) 45 [.int .i64 0, .int .i64 1048576, .int .i64 65, .slice (some ⟨w.heap.size, 0, none⟩) 1 1, .slice (some ⟨w.heap.size + 1, 0, none⟩) 2 2, .slice (some ⟨w.heap.size + 1 + 1, 0, none⟩) 1 1, .slice (some ⟨w.heap.size + 1 + 1 + 1, 0, none⟩) 1 1, .slice (some ⟨w.heap.size + 1 + 1 + 1 + 1, 0, none⟩) 1 1, .slice none 0 0, .slice none 0 0, .slice none 0 0, .int .i64 1048576, .int .i64 20, .int .i64 2, .int .i64 0, .slice (some ⟨w.heap.size + 1 + 1 + 1 + 1 + 1, 0, none⟩) 1 1] := by rw [hV]; exact Blk.lit _ _ _ _ (by simp)
  have SN := Lib.hid (seen_0 k0 k1 k2 k3 k4 k5)
  go_enter Try.func25, Try.ntmps25
  go_upto_region 3 with (fail)
  rw [← hV]
  clear hV k0 k1 k2 k3 k4 k5
  generalize w.heap.size + 1 + 1 + 1 + 1 + 1 + 1 = b6 at *
  generalize w.heap.size + 1 + 1 + 1 + 1 + 1 = b5 at *
  generalize w.heap.size + 1 + 1 + 1 + 1 = b4 at *
  generalize w.heap.size + 1 + 1 + 1 = b3 at *
  generalize w.heap.size + 1 + 1 = b2 at *
  generalize w.heap.size + 1 = b1 at *
  generalize w.heap.size = b0 at *
  have HG := Lib.hid k6
  have X0 := Lib.hid (Ext.refl V)
  have HW := Lib.hid W0
  clear k6 W0
  go_wp2_with (first | (refine wpList_load (by kernel_rfl) 45 _ rfl b6 rfl [.int .i64 0, .int .i64 1048576, .int .i64 65, .slice (some ⟨b0, 0, none⟩) 1 1, .slice (some ⟨b1, 0, none⟩) 2 2, .slice (some ⟨b2, 0, none⟩) 1 1, .slice (some ⟨b3, 0, none⟩) 1 1, .slice (some ⟨b4, 0, none⟩) 1 1, .slice none 0 0, .slice none 0 0, .slice none 0 0, .int .i64 1048576, .int .i64 20, .int .i64 2, .int .i64 0, .slice (some ⟨b5, 0, none⟩) 1 1] _ (HG.out.ext X0.out).range Try.underlying45 rfl (by kernel_rfl) ?_) | fail)
  refine (call0 _ (SN.out.ext X0.out)).mono ?_; rintro e w1 ⟨rfl, x1⟩
  have X1 := Lib.hid (X0.out.trans x1)
  clear x1
  go_wp2_with (first | (refine wpList_load (by kernel_rfl) 45 _ rfl b6 rfl [.int .i64 0, .int .i64 1048576, .int .i64 65, .slice (some ⟨b0, 0, none⟩) 1 1, .slice (some ⟨b1, 0, none⟩) 2 2, .slice (some ⟨b2, 0, none⟩) 1 1, .slice (some ⟨b3, 0, none⟩) 1 1, .slice (some ⟨b4, 0, none⟩) 1 1, .slice none 0 0, .slice none 0 0, .slice none 0 0, .int .i64 1048576, .int .i64 20, .int .i64 2, .int .i64 0, .slice (some ⟨b5, 0, none⟩) 1 1] _ (HG.out.ext X1.out).range Try.underlying45 rfl (by kernel_rfl) ?_) | fail)
  refine (call1 _ (SN.out.ext X1.out)).mono ?_; rintro e w2 ⟨rfl, x2⟩
  have X2 := Lib.hid (X1.out.trans x2)
  clear x2
  go_wp2_with (first | (refine wpList_load (by kernel_rfl) 45 _ rfl b6 rfl [.int .i64 0, .int .i64 1048576, .int .i64 65, .slice (some ⟨b0, 0, none⟩) 1 1, .slice (some ⟨b1, 0, none⟩) 2 2, .slice (some ⟨b2, 0, none⟩) 1 1, .slice (some ⟨b3, 0, none⟩) 1 1, .slice (some ⟨b4, 0, none⟩) 1 1, .slice none 0 0, .slice none 0 0, .slice none 0 0, .int .i64 1048576, .int .i64 20, .int .i64 2, .int .i64 0, .slice (some ⟨b5, 0, none⟩) 1 1] _ (HG.out.ext X2.out).range Try.underlying45 rfl (by kernel_rfl) ?_) | fail)
  refine (call2 _ (SN.out.ext X2.out)).mono ?_; rintro e w3 ⟨rfl, x3⟩
  have X3 := Lib.hid (X2.out.trans x3)
  clear x3
  go_wp2_with (first | (refine wpList_load (by kernel_rfl) 45 _ rfl b6 rfl [.int .i64 0, .int .i64 1048576, .int .i64 65, .slice (some ⟨b0, 0, none⟩) 1 1, .slice (some ⟨b1, 0, none⟩) 2 2, .slice (some ⟨b2, 0, none⟩) 1 1, .slice (some ⟨b3, 0, none⟩) 1 1, .slice (some ⟨b4, 0, none⟩) 1 1, .slice none 0 0, .slice none 0 0, .slice none 0 0, .int .i64 1048576, .int .i64 20, .int .i64 2, .int .i64 0, .slice (some ⟨b5, 0, none⟩) 1 1] _ (HG.out.ext X3.out).range Try.underlying45 rfl (by kernel_rfl) ?_) | fail)
  refine (call3 _ (SN.out.ext X3.out)).mono ?_; rintro e w4 ⟨rfl, x4⟩
  have X4 := Lib.hid (X3.out.trans x4)
  clear x4
  go_wp2_with (first | (refine wpList_load (by kernel_rfl) 45 _ rfl b6 rfl [.int .i64 0, .int .i64 1048576, .int .i64 65, .slice (some ⟨b0, 0, none⟩) 1 1, .slice (some ⟨b1, 0, none⟩) 2 2, .slice (some ⟨b2, 0, none⟩) 1 1, .slice (some ⟨b3, 0, none⟩) 1 1, .slice (some ⟨b4, 0, none⟩) 1 1, .slice none 0 0, .slice none 0 0, .slice none 0 0, .int .i64 1048576, .int .i64 20, .int .i64 2, .int .i64 0, .slice (some ⟨b5, 0, none⟩) 1 1] _ (HG.out.ext X4.out).range Try.underlying45 rfl (by kernel_rfl) ?_) | fail)
  refine (call4 _ (SN.out.ext X4.out)).mono ?_; rintro e w5 ⟨rfl, x5⟩
  have X5 := Lib.hid (X4.out.trans x5)
  clear x5
  go_wp2_with (first | (refine wpList_load (by kernel_rfl) 45 _ rfl b6 rfl [.int .i64 0, .int .i64 1048576, .int .i64 65, .slice (some ⟨b0, 0, none⟩) 1 1, .slice (some ⟨b1, 0, none⟩) 2 2, .slice (some ⟨b2, 0, none⟩) 1 1, .slice (some ⟨b3, 0, none⟩) 1 1, .slice (some ⟨b4, 0, none⟩) 1 1, .slice none 0 0, .slice none 0 0, .slice none 0 0, .int .i64 1048576, .int .i64 20, .int .i64 2, .int .i64 0, .slice (some ⟨b5, 0, none⟩) 1 1] _ (HG.out.ext X5.out).range Try.underlying45 rfl (by kernel_rfl) ?_) | fail)
  refine (call5 _ (SN.out.ext X5.out)).mono ?_; rintro e w6 ⟨rfl, x6⟩
  have X6 := Lib.hid (X5.out.trans x6)
  clear x6
  go_wp2_with (first | (refine wpList_load (by kernel_rfl) 45 _ rfl b6 rfl [.int .i64 0, .int .i64 1048576, .int .i64 65, .slice (some ⟨b0, 0, none⟩) 1 1, .slice (some ⟨b1, 0, none⟩) 2 2, .slice (some ⟨b2, 0, none⟩) 1 1, .slice (some ⟨b3, 0, none⟩) 1 1, .slice (some ⟨b4, 0, none⟩) 1 1, .slice none 0 0, .slice none 0 0, .slice none 0 0, .int .i64 1048576, .int .i64 20, .int .i64 2, .int .i64 0, .slice (some ⟨b5, 0, none⟩) 1 1] _ (HG.out.ext X6.out).range Try.underlying45 rfl (by kernel_rfl) ?_) | fail)
  refine (call6 _).mono ?_; rintro e w7 ⟨rfl, x7⟩
  have X7 := Lib.hid (X6.out.trans x7)
  clear x7
  go_wp2_with (first | (refine wpList_load (by kernel_rfl) 45 _ rfl b6 rfl [.int .i64 0, .int .i64 1048576, .int .i64 65, .slice (some ⟨b0, 0, none⟩) 1 1, .slice (some ⟨b1, 0, none⟩) 2 2, .slice (some ⟨b2, 0, none⟩) 1 1, .slice (some ⟨b3, 0, none⟩) 1 1, .slice (some ⟨b4, 0, none⟩) 1 1, .slice none 0 0, .slice none 0 0, .slice none 0 0, .int .i64 1048576, .int .i64 20, .int .i64 2, .int .i64 0, .slice (some ⟨b5, 0, none⟩) 1 1] _ (HG.out.ext X7.out).range Try.underlying45 rfl (by kernel_rfl) ?_) | fail)
  refine (call7 _ (SN.out.ext X7.out)).mono ?_; rintro e w8 ⟨rfl, x8⟩
  have X8 := Lib.hid (X7.out.trans x8)
  clear x8
  go_wp2_with (first | (refine wpList_load (by kernel_rfl) 45 _ rfl b6 rfl [.int .i64 0, .int .i64 1048576, .int .i64 65, .slice (some ⟨b0, 0, none⟩) 1 1, .slice (some ⟨b1, 0, none⟩) 2 2, .slice (some ⟨b2, 0, none⟩) 1 1, .slice (some ⟨b3, 0, none⟩) 1 1, .slice (some ⟨b4, 0, none⟩) 1 1, .slice none 0 0, .slice none 0 0, .slice none 0 0, .int .i64 1048576, .int .i64 20, .int .i64 2, .int .i64 0, .slice (some ⟨b5, 0, none⟩) 1 1] _ (HG.out.ext X8.out).range Try.underlying45 rfl (by kernel_rfl) ?_) | fail)
  refine (call8 _).mono ?_; rintro e w9 ⟨rfl, x9⟩
  have X9 := Lib.hid (X8.out.trans x9)
  clear x9
  go_wp2_with (first | (refine wpList_load (by kernel_rfl) 45 _ rfl b6 rfl [.int .i64 0, .int .i64 1048576, .int .i64 65, .slice (some ⟨b0, 0, none⟩) 1 1, .slice (some ⟨b1, 0, none⟩) 2 2, .slice (some ⟨b2, 0, none⟩) 1 1, .slice (some ⟨b3, 0, none⟩) 1 1, .slice (some ⟨b4, 0, none⟩) 1 1, .slice none 0 0, .slice none 0 0, .slice none 0 0, .int .i64 1048576, .int .i64 20, .int .i64 2, .int .i64 0, .slice (some ⟨b5, 0, none⟩) 1 1] _ (HG.out.ext X9.out).range Try.underlying45 rfl (by kernel_rfl) ?_) | fail)
  refine (call9 _ (SN.out.ext X9.out)).mono ?_; rintro e w10 ⟨rfl, x10⟩
  have X10 := Lib.hid (X9.out.trans x10)
  clear x10
  go_wp2_with (first | (refine wpList_load (by kernel_rfl) 45 _ rfl b6 rfl [.int .i64 0, .int .i64 1048576, .int .i64 65, .slice (some ⟨b0, 0, none⟩) 1 1, .slice (some ⟨b1, 0, none⟩) 2 2, .slice (some ⟨b2, 0, none⟩) 1 1, .slice (some ⟨b3, 0, none⟩) 1 1, .slice (some ⟨b4, 0, none⟩) 1 1, .slice none 0 0, .slice none 0 0, .slice none 0 0, .int .i64 1048576, .int .i64 20, .int .i64 2, .int .i64 0, .slice (some ⟨b5, 0, none⟩) 1 1] _ (HG.out.ext X10.out).range Try.underlying45 rfl (by kernel_rfl) ?_) | fail)
  refine (call10 _ (SN.out.ext X10.out)).mono ?_; rintro e w11 ⟨rfl, x11⟩
  have X11 := Lib.hid (X10.out.trans x11)
  clear x11
  go_wp2_with fail
  go_ret
  exact ⟨rfl, HW.out.trans X11.out⟩
end L09
end Go.Proofs.Ytpkmpbpifbpomaa

