/- Results that stand in boxes. -/
import Derived.Test.YtaieafmgeheomaaDoorMid09
namespace Go.Proofs.YtaieafmgeheomaaDoor
open Go.RowKit Go.Lib

theorem load_box {W : World} {b : Nat} {cs : List Value} (hb : W.rangeAt b 0 cs) : (loadCellsFrom ⟨b, 0, none⟩ 0 cs.length #[]).run Tryd.prog W = .ok cs.toArray W := by
  have := run_loadCells_list (P := Tryd.prog) W ⟨b, 0, none⟩ cs (fun j v hv => by rw [Addr.add_mid]; exact hb j v hv)
  simpa [loadCells] using this
/-- Two structs' boxes as results. -/
theorem results_boxes {fn : Func} {p q : Nat} {t u : TypeId} (h : fn.results = #[.cell p t, .cell q u]) (tmps : Array Value) (W : World) (b c : Nat) (cs ds : List Value) (hp : tmps[p]? = some (.pointer (some ⟨b, 0, none⟩))) (hq : tmps[q]? = some (.pointer (some ⟨c, 0, none⟩)))
    (hb : W.rangeAt b 0 cs) (hc : W.rangeAt c 0 ds) (ha : (isAgg t).run Tryd.prog W = .ok true W) (hs : (Go.sizeOf t).run Tryd.prog W = .ok cs.length W) (ha' : (isAgg u).run Tryd.prog W = .ok true W) (hs' : (Go.sizeOf u).run Tryd.prog W = .ok ds.length W) :
    (results fn tmps).run Tryd.prog W = .ok (.tuple #[.agg cs.toArray, .agg ds.toArray]) W := by
  have hl := load_box hb
  have hl' := load_box hc
  simp only [results, h]
  simp [go_sem, loadVar, loadCells, asAddr, hp, hq, hl, hl', ha, hs, ha', hs']
/-- A struct's box, and a box of one cell, as results. -/
theorem results_box_one {fn : Func} {p q : Nat} {t u : TypeId} (h : fn.results = #[.cell p t, .cell q u]) (tmps : Array Value) (W : World) (b c : Nat) (cs : List Value) (v : Value) (hp : tmps[p]? = some (.pointer (some ⟨b, 0, none⟩))) (hq : tmps[q]? = some (.pointer (some ⟨c, 0, none⟩)))
    (hb : W.rangeAt b 0 cs) (hc : W.cell? ⟨c, 0, none⟩ = some v) (ha : (isAgg t).run Tryd.prog W = .ok true W) (hs : (Go.sizeOf t).run Tryd.prog W = .ok cs.length W) (ha' : (isAgg u).run Tryd.prog W = .ok false W) :
    (results fn tmps).run Tryd.prog W = .ok (.tuple #[.agg cs.toArray, v]) W := by
  have hl := load_box hb
  simp only [results, h]
  simp [go_sem, loadVar, loadCells, asAddr, hp, hq, hl, hc, ha, hs, ha']
/-- A struct's box, and a temporary, as results. -/
theorem results_box_tmp {fn : Func} {p q : Nat} {t : TypeId} (h : fn.results = #[.cell p t, .tmp q]) (tmps : Array Value) (W : World) (b : Nat) (cs : List Value) (v : Value) (hp : tmps[p]? = some (.pointer (some ⟨b, 0, none⟩))) (hq : tmps[q]? = some v)
    (hb : W.rangeAt b 0 cs) (ha : (isAgg t).run Tryd.prog W = .ok true W) (hs : (Go.sizeOf t).run Tryd.prog W = .ok cs.length W) : (results fn tmps).run Tryd.prog W = .ok (.tuple #[.agg cs.toArray, v]) W := by
  have hl := load_box hb
  simp only [results, h]
  simp [go_sem, loadVar, loadCells, asAddr, hp, hq, hl, ha, hs]
end Go.Proofs.YtaieafmgeheomaaDoor

