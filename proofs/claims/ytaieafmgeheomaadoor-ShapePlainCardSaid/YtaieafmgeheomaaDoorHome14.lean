/- The frame of a law over this seat's listed variables (a door's seat): what strconv and the landed code read of them. -/
import Derived.Test.YtaieafmgeheomaaDoorFrame
import Derived.Test.YtaieafmgeheomaaDoorCards
import Derived.Test.YtaieafmgeheomaaDoorTie
import Derived.Lib.LaidU8
import Derived.PinnedBridge
import Derived.Lay
import Derived.SevenTiedAt
import Derived.Stop.LaidErr
import Derived.Shelf.Vars
import Derived.Lib.ItoaNum
import Derived.Lib.AppendIntMem
namespace Go.Proofs.YtaieafmgeheomaaDoor
open Go.ChangeShapes Go.WideShapes Go.ChangeAt Go.RowKit

def doorLaid : List (String × DataW Unit) := [("compositor/param.names", Rows.laid_compositor_param_names)]

/-- The names of a layout's lines, by their places. -/
def nameL : Nat → List UInt8
  | 0 => [119, 105, 100, 116, 104]
  | 1 => [115, 112, 97, 99, 101]
  | 2 => [115, 104, 97, 112, 101]
  | 3 => [104, 97, 110, 103]
  | 4 => [112, 97, 114, 116, 115]
  | 5 => [98, 97, 100]
  | 6 => [101, 120, 116, 114, 97]
  | 7 => [112, 101, 110, 97, 108, 116, 105, 101, 115]
  | 8 => [100, 101, 109, 101, 114, 105, 116, 115]
  | _ => [108, 111, 111, 115, 101]
def nameB (j : Nat) : ByteArray := ⟨(nameL j).toArray⟩
/-- What is read of the listed variables. -/
structure Home (w : World) : Prop where
  names : ∀ j, j < 10 → w.cell? ⟨0, j, none⟩ = some (.string (nameB j))

theorem Home.ext {w w' : World} (h : Home w) (x : Ext w w') : Home w' := ⟨fun j hj => x.at (h.names j hj)⟩

theorem names_of {W : World} (h : laidMet Tryd.prog doorLaid W) (j : Nat) (hj : j < 10) : W.cell? ⟨0, j, none⟩ = some (.string (nameB j)) := by
  obtain ⟨g, t, cs, fuel, p, hg, hty, hvar, hd⟩ := Lib.laidMet.reads h (n := "compositor/param.names") (d := Rows.laid_compositor_param_names) (by simp [doorLaid])
  obtain rfl := Option.some.inj ((show Tryd.prog.globalNamed "compositor/param.names" = some 0 by kernel_rfl).symm.trans hg)
  obtain rfl := Option.some.inj ((show (Tryd.prog.globals[0]?).map (·.type) = some 53 by kernel_rfl).symm.trans hty)
  obtain ⟨fuel', d, q, hdi, he⟩ := Lib.array_elem Tryd.underlying53 hd j hj
  rw [show Tryd.prog.cellsOf 9 = 1 by kernel_rfl] at he
  obtain ⟨s, hs, hx, _⟩ := DataW.trod_string Tryd.underlying9 he
  obtain ⟨rfl, _⟩ := Prod.mk.inj hx
  have e0 := congrArg (·[0]?) hs
  simp only [List.getElem?_take, List.getElem?_drop] at e0
  rw [World.var?_cell hg hvar j, ← Array.getElem?_toList]
  have e1 : cs.toList[j]? = some (.string s) := by simpa using e0
  rw [e1]
  have e2 : s.data.toList = nameL j := by
    match j, hj with
    | 0, _ | 1, _ | 2, _ | 3, _ | 4, _ | 5, _ | 6, _ | 7, _ | 8, _ | 9, _ => simpa [nameL] using hdi.symm
  rw [show s = nameB j by cases s; rename_i a; simp only [nameB, ← e2]]

theorem home_of {W : World} (h : laidMet Tryd.prog doorLaid W) (_ : W.ShapedOpen Tryd.prog) : Home W := ⟨names_of h⟩

theorem plainLaid (w : World) : laidMetH Tryd.prog doorLaid w = laidMet Tryd.prog doorLaid w := MakeChecks.laidMetH_plain _ _ _ (by kernel_rfl)
set_option maxRecDepth 100000 in
theorem laidStart (os : Os) (args : Array Value) : laidMetH Tryd.prog doorLaid (((World.laidAll Tryd.prog os doorLaid).forCall (fun _ _ => 0) ⟨#[], args, []⟩).memory) := by
  rw [plainLaid]; exact laidMet_laidAll _ (by kernel_rfl) (by kernel_rfl)

set_option maxRecDepth 100000 in
/-- A law's step: from its walk. -/
theorem law_liftH {os : Os} {f : FuncId} {fn : Func} {s : ChangeSpec} {B : TypeId} {H : Type} {enc : TypeId × Value → H}
    (started : os.Started) (noInit : Tryd.prog.inits.idxOf? f = none) (hfn : Tryd.prog.funcs[f]? = some fn)
    (hvars : s.vars = []) (hres : fn.resultTypes = #[B]) (hB : Tryd.prog.underlying B = some .bool)
    (hr : fn.params.toList.all (fun t => Tryd.prog.readableRec t && decide (t < Tryd.prog.types.size)) = true)
    (hspec : ∀ (H : Type) (ds : List (DataW H)), ds.length = fn.params.toList.length → s.fn H (ds ++ []) = { results := [.lit (.bool true)], args := ds })
    (witness : ∃ (w : World) (tape : Tape) (i : Input), w.os = os ∧ (w.forCall tape i).Shaped Tryd.prog ∧ i.vars = [] ∧ Input.okWide Tryd.prog (w.forCall tape i) .any w.heap.size f i ∧
      ((s.pre enc Tryd.prog fn [] false (w.forCall tape i).memory i.args ∧ laidMetH Tryd.prog doorLaid (w.forCall tape i).memory) ∧ sizedMet enc Tryd.prog fn (OpenSpec.ofChange s) false (w.forCall tape i).memory i.args) ∧ ({} : Assume).holds Tryd.prog (lone (Frame.enter Tryd.prog f i.args .normal) [] (w.forCall tape i)))
    (walk : ∀ (W : World) (base : Nat) (args : Array Value) (ds : List (DataW H)) (p : List MemPlace),
      (∀ (j : Nat) t v, fn.params[j]? = some t → args[j]? = some v → Value.okWide Tryd.prog W .any base t v) →
      DataW.TrodAll enc Tryd.prog W 0 (fun _ => true) true fn.params.toList args.toList ds p → (∀ x ∈ p, x.block < W.heap.size) → Home W →
      Calls Tryd.prog f args W (Ret W (.bool true))) :
    ReturnsInHanded {} Tryd.checked os f .any (fun w args => (s.pre enc Tryd.prog fn [] false w args ∧ laidMetH Tryd.prog doorLaid w) ∧ sizedMet enc Tryd.prog fn (OpenSpec.ofChange s) false w args) (s.post enc Tryd.prog fn false true false false) := by
  refine returnsInHanded_of_calls (C := Tryd.checked) own started noInit witness ?_
  intro w tape i _ hsh _ hok hpre _
  obtain ⟨_, _, _, fn', hfn', _, _, _, _, hval⟩ := hok
  have e : fn' = fn := Option.some.inj (hfn'.symm.trans hfn)
  subst e
  obtain ⟨⟨⟨ds, gs, before, hw, _⟩, hL⟩, _⟩ := hpre
  have hW := DataW.Whole.of_heap (w' := w.forCall tape i) (by rfl) hw
  have hL := hL.of_heap (w' := w.forCall tape i) (by rfl)
  generalize hWe : w.forCall tape i = W at *
  have hval : ∀ (j : Nat) t v, fn'.params[j]? = some t → i.args[j]? = some v → Value.okWide Tryd.prog W .any w.heap.size t v := hval
  rw [plainLaid] at hL
  have hlt : ∀ x ∈ before, x.block < W.heap.size := fun x hx => hW.lt x hx
  have hW' := hW
  obtain ⟨p, q, hA, hV, rfl, hfz, hnd⟩ := hW
  rw [hvars] at hV
  obtain ⟨rfl, rfl⟩ := trodVars_none hV
  simp only [List.append_nil] at hlt hW'
  have hA : DataW.TrodAll enc Tryd.prog W 0 (fun _ => true) true fn'.params.toList i.args.toList ds p := hA
  have hlen : ds.length = fn'.params.toList.length := by
    have : ∀ (ts : List TypeId) (vs : List Value) (ds : List (DataW H)) (p : List MemPlace), DataW.TrodAll enc Tryd.prog W 0 (fun _ => true) true ts vs ds p → ds.length = ts.length := by
      intro ts
      induction ts with
      | nil => intro vs ds p h; obtain ⟨_, rfl, _⟩ := trodAll_nil h; rfl
      | cons t ts ih =>
        intro vs ds p h
        obtain ⟨v, vs', d, ds', p', q, rfl, rfl, rfl, h1, h2⟩ := trodAll_cons h
        simp [ih _ _ _ h2]
    exact this _ _ _ _ hA
  refine (walk W w.heap.size i.args ds p hval hA hlt (home_of hL hsh)).mono fun e W' ⟨he, hx⟩ => ?_
  subst he
  have e1 := hspec H ds hlen
  subst hWe
  refine ChangeSpec.post_blind ⟨ds, [], p, [], p, [], by simpa using hW', ?_, ?_, ?_, ?_, fun h => by cases h⟩
  · rw [e1]
    have hres' : fn'.resultTypes = #[B] := hres
    show DataW.TrodAll _ _ _ _ _ _ fn'.resultTypes.toList _ _ _
    rw [hres']
    exact trodAll_mk1 (shut_bool hB _)
  · rw [e1]
    exact trodAll_ext laidOut hx _ _ _ _ hr hA hlt
  · rw [e1, hvars]
    rfl
  · exact Below.frame hx _

/-- The card's last steps, of any of a door's laws. -/
theorem standsIn {ts : List TypeId} (h : (ts.all fun u => !Tryd.prog.wantsStandIn u) = true) {ps : Array TypeId} (hp : ps.toList = ts) (j : Nat) (t : TypeId) (ht : ps[j]? = some t) : Tryd.prog.wantsStandIn t = false := by
  subst hp
  have hm : t ∈ ps.toList := by simpa using Array.mem_of_getElem? ht
  simpa using List.all_eq_true.1 h t hm
end Go.Proofs.YtaieafmgeheomaaDoor

