/- Calls whose answers the document fixes: layer 7. -/
import Derived.Test.YtggedodfkjdegaaReadT07
import Derived.Test.YtggedodfkjdegaaTfmF07
import Derived.Test.YtggedodfkjdegaaRefSameC07
namespace Go.Proofs.Ytggedodfkjdegaa
open Go.RowKit
namespace L07
open L06

def aD : FontD := { sum := 0, design := 1048576, first := 65, nc := 1, chr := fun _ j => if j = 0 then 1 else 0, nw := 2, wd := fun j => if j = 1 then 524288 else 0, nh := 1, hd := fun _ => 0, nd := 1, dd := fun _ => 0, ni := 1, id := fun _ => 0, ns := 0, stp := fun _ _ => 0, nk := 0, kd := fun _ => 0, np := 0, pd := fun _ => 0 }
def aP (s : Nat) : FontP := { xc := some ⟨s, 0, none⟩, zc := 1, xw := some ⟨s + 1, 0, none⟩, zw := 2, xh := some ⟨s + 1 + 1, 0, none⟩, zh := 1, xd := some ⟨s + 1 + 1 + 1, 0, none⟩, zd := 1, xi := some ⟨s + 1 + 1 + 1 + 1, 0, none⟩, zi := 1, xs := none, zs := 0, xk := none, zk := 0, xp := none, zp := 0 }
theorem a_yes : checkB aD = true := by rfl
theorem a_len : (writeB aD).length = 56 := by rw [writeB, List.length_append, bodyW_length, catB_length (k := 2) (fun _ => rfl)]; rfl
theorem a_65 : hasB aD 65 = true := by rfl
theorem a_66 : hasB aD 66 = false := by rfl
theorem a_ok (s : Nat) : FontOk aD (aP s) := by
  constructor
  case bc => intro i j _ hj; show Wide (if j = 0 then 1 else 0); split <;> simp [Wide]
  case bw => intro j; show Wide (if j = 1 then 524288 else 0); split <;> simp [Wide]
  all_goals simp [aD, aP, Wide, maxLen]
theorem a_seen (w : World) (s : Nat) (k0 : Blk w s 35 [.int .i64 1, .int .i64 0, .int .i64 0, .int .i64 0, .int .i64 0, .int .i64 0]) (k1 : Blk w (s + 1) 3 [.int .i64 0, .int .i64 524288]) (k2 : Blk w (s + 1 + 1) 3 [.int .i64 0])
    (k3 : Blk w (s + 1 + 1 + 1) 3 [.int .i64 0]) (k4 : Blk w (s + 1 + 1 + 1 + 1) 3 [.int .i64 0]) : SeenFont w aD (aP s) := by
  have one : ∀ {b : Nat}, Blk w b 3 [.int .i64 0] → SeenF w (some ⟨b, 0, none⟩) 1 (fun _ => 0) := fun k => seen_blk (n := 1) k (fun j hj => by
    obtain rfl : j = 0 := by omega
    rfl)
  refine ⟨fun i hi j hj => ?_, seen_blk k1 (fun j hj => ?_), one k2, one k3, one k4, SeenN.nil, SeenF.none, SeenF.none⟩
  · obtain rfl : i = 0 := by have : aD.nc = 1 := rfl; omega
    refine ⟨_, rfl, k0.lt, ?_⟩
    rw [add_zero_addr]
    match j, hj with
    | 0, _ => exact k0.cell 0
    | 1, _ => exact k0.cell 1
    | 2, _ => exact k0.cell 2
    | 3, _ => exact k0.cell 3
    | 4, _ => exact k0.cell 4
    | 5, _ => exact k0.cell 5
  · match j, hj with
    | 0, _ => rfl
    | 1, _ => rfl
theorem long_no {l : List UInt8} (h : l.length = 57) : ¬ FontOf l := fun f => by
  have := heads_of f
  omega

theorem font_a (s : Nat) : fontV aD (aP s) = .agg #[.int .i64 0, .int .i64 1048576, .int .i64 65, .slice (some ⟨s, 0, none⟩) 1 1, .slice (some ⟨s + 1, 0, none⟩) 2 2, .slice (some ⟨s + 1 + 1, 0, none⟩) 1 1, .slice (some ⟨s + 1 + 1 + 1, 0, none⟩) 1 1, .slice (some ⟨s + 1 + 1 + 1 + 1, 0, none⟩) 1 1, .slice none 0 0, .slice none 0 0, .slice none 0 0] := rfl
theorem font_no : fontV noD noP = .agg #[.int .i64 0, .int .i64 0, .int .i64 0, .slice none 0 0, .slice none 0 0, .slice none 0 0, .slice none 0 0, .slice none 0 0, .slice none 0 0, .slice none 0 0, .slice none 0 0] := rfl
theorem a_few : fewB aD = true := by rfl
end L07
end Go.Proofs.Ytggedodfkjdegaa

