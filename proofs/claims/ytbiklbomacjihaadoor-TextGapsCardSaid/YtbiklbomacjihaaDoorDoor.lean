/- The frame of a law that reads Go's tables of UTF-8 (a door's seat): as XFrame's, beside what the row lists. -/
import Derived.Test.YtbiklbomacjihaaDoorFrame
import Derived.Test.YtbiklbomacjihaaDoorCards
import Derived.Test.YtbiklbomacjihaaDoorTie
import Derived.Lib.LaidU8T
import Derived.PinnedBridge
import Derived.Lay
import Derived.SevenTiedAt
namespace Go.Proofs.YtbiklbomacjihaaDoor
open Go.ChangeShapes Go.WideShapes Go.ChangeAt Go.RowKit

def doorLaid : List (String × DataW Unit) := [("unicode/utf8.acceptRanges", Rows.laid_unicode_utf8_acceptRanges), ("unicode/utf8.first", Rows.laid_unicode_utf8_first)]
def doorRen : Go.Shelf.Ren := ⟨fun n => n, fun | 5 => 5 | 119 => 61 | 138 => 64 | 139 => 65 | n => n, fun | 3 => 1 | 4 => 2 | n => n⟩
theorem u8t : U8Types Tryd.prog doorRen := ⟨by kernel_rfl, by kernel_rfl, by kernel_rfl, by kernel_rfl⟩
theorem u8x : U8Extra Tryd.prog doorRen := ⟨by kernel_rfl, by kernel_rfl, by kernel_rfl, by kernel_rfl, by kernel_rfl, by kernel_rfl, by kernel_rfl⟩
theorem accept_eq : Rows.laid_unicode_utf8_acceptRanges = Lib.acceptData := by kernel_rfl
/-- The tables of UTF-8 are there. -/
def Tabs (w : World) : Prop := Lib.Utf8Tabs 1 2 w
theorem tabs_of {W : World} (h : laidMet Tryd.prog doorLaid W) : Tabs W :=
  utf8Tabs_of_readsT u8t u8x (Pinned.utf8First_eq ▸ Lib.laidMet.reads h (n := "unicode/utf8.first") (.tail _ (.head _))) (accept_eq ▸ Lib.laidMet.reads h (n := "unicode/utf8.acceptRanges") (.head _))
theorem Tabs.ext {w w' : World} (h : Tabs w) (x : Ext w w') : Tabs w' :=
  ⟨fun c hc => x.at (h.1 c hc), fun i hi => ⟨x.at (h.2 i hi).1, x.at (h.2 i hi).2⟩⟩
theorem plainLaid (w : World) : laidMetH Tryd.prog doorLaid w = laidMet Tryd.prog doorLaid w := MakeChecks.laidMetH_plain _ _ _ (by kernel_rfl)
set_option maxRecDepth 100000 in
theorem laidStart (os : Os) (args : Array Value) : laidMetH Tryd.prog doorLaid (((World.laidAll Tryd.prog os doorLaid).forCall (fun _ _ => 0) ⟨#[], args, []⟩).memory) := by
  rw [plainLaid]; exact laidMet_laidAll _ (by kernel_rfl) (by kernel_rfl)

/-- A law's step: from its walk. -/
theorem law_liftD {os : Os} {f : FuncId} {fn : Func} {s : ChangeSpec} {B : TypeId} {H : Type} {enc : TypeId × Value → H}
    (started : os.Started) (noInit : Tryd.prog.inits.idxOf? f = none) (hfn : Tryd.prog.funcs[f]? = some fn)
    (hvars : s.vars = []) (hres : fn.resultTypes = #[B]) (hB : Tryd.prog.underlying B = some .bool)
    (hr : fn.params.toList.all (fun t => Tryd.prog.readableRec t && decide (t < Tryd.prog.types.size)) = true)
    (hspec : ∀ (H : Type) (ds : List (DataW H)), ds.length = fn.params.toList.length → s.fn H (ds ++ []) = { results := [.lit (.bool true)], args := ds })
    (witness : ∃ (w : World) (tape : Tape) (i : Input), w.os = os ∧ (w.forCall tape i).Shaped Tryd.prog ∧ i.vars = [] ∧ Input.okWide Tryd.prog (w.forCall tape i) .any w.heap.size f i ∧
      ((s.pre enc Tryd.prog fn [] false (w.forCall tape i).memory i.args ∧ laidMetH Tryd.prog doorLaid (w.forCall tape i).memory) ∧ sizedMet enc Tryd.prog fn (OpenSpec.ofChange s) false (w.forCall tape i).memory i.args) ∧ ({} : Assume).holds Tryd.prog (lone (Frame.enter Tryd.prog f i.args .normal) [] (w.forCall tape i)))
    (walk : ∀ (W : World) (base : Nat) (args : Array Value) (ds : List (DataW H)) (p : List MemPlace),
      (∀ (j : Nat) t v, fn.params[j]? = some t → args[j]? = some v → Value.okWide Tryd.prog W .any base t v) →
      DataW.TrodAll enc Tryd.prog W 0 (fun _ => true) true fn.params.toList args.toList ds p → (∀ x ∈ p, x.block < W.heap.size) → Tabs W →
      Calls Tryd.prog f args W (Ret W (.bool true))) :
    ReturnsInHanded {} Tryd.checked os f .any (fun w args => (s.pre enc Tryd.prog fn [] false w args ∧ laidMetH Tryd.prog doorLaid w) ∧ sizedMet enc Tryd.prog fn (OpenSpec.ofChange s) false w args) (s.post enc Tryd.prog fn false true false false) := by
  refine returnsInHanded_of_change_and (C := Tryd.checked) (X := fun w _ => laidMetH Tryd.prog doorLaid w) (fun _ _ _ hh h => h.of_heap hh) own started noInit hfn witness ?_
  intro W base args ds gs before hval hW _ _ hL _
  have hval : ∀ (j : Nat) t v, fn.params[j]? = some t → args[j]? = some v → Value.okWide Tryd.prog W .any base t v := hval
  rw [plainLaid] at hL
  have hlt : ∀ x ∈ before, x.block < W.heap.size := fun x hx => hW.lt x hx
  have hW' := hW
  obtain ⟨p, q, hA, hV, rfl, hfz, hnd⟩ := hW
  rw [hvars] at hV
  obtain ⟨rfl, rfl⟩ := trodVars_none hV
  simp only [List.append_nil] at hlt hW'
  have hA : DataW.TrodAll enc Tryd.prog W 0 (fun _ => true) true fn.params.toList args.toList ds p := hA
  have hlen : ds.length = fn.params.toList.length := by
    have : ∀ (ts : List TypeId) (vs : List Value) (ds : List (DataW H)) (p : List MemPlace), DataW.TrodAll enc Tryd.prog W 0 (fun _ => true) true ts vs ds p → ds.length = ts.length := by
      intro ts
      induction ts with
      | nil => intro vs ds p h; obtain ⟨_, rfl, _⟩ := trodAll_nil h; rfl
      | cons t ts ih =>
        intro vs ds p h
        obtain ⟨v, vs', d, ds', p', q, rfl, rfl, rfl, h1, h2⟩ := trodAll_cons h
        simp [ih _ _ _ h2]
    exact this _ _ _ _ hA
  refine (walk W base args ds p hval hA hlt (tabs_of hL)).mono fun e W' ⟨he, hx⟩ => ?_
  subst he
  have e1 := hspec H ds hlen
  refine ⟨_, rfl, ds, [], p, [], p, [], by simpa using hW', ?_, ?_, ?_, Below.frame hx _, fun h => by cases h⟩
  · rw [e1]
    have hres' : fn.resultTypes = #[B] := hres
    show DataW.TrodAll _ _ _ _ _ _ fn.resultTypes.toList _ _ _
    rw [hres']
    exact trodAll_mk1 (shut_bool hB _)
  · rw [e1]
    exact trodAll_ext laidOut hx _ _ _ _ hr hA hlt
  · rw [e1, hvars]
    rfl

/-- The card's last steps, of any of a door's laws. -/
theorem standsIn {ts : List TypeId} (h : (ts.all fun u => !Tryd.prog.wantsStandIn u) = true) {ps : Array TypeId} (hp : ps.toList = ts) (j : Nat) (t : TypeId) (ht : ps[j]? = some t) : Tryd.prog.wantsStandIn t = false := by
  subst hp
  have hm : t ∈ ps.toList := by simpa using Array.mem_of_getElem? ht
  simpa using List.all_eq_true.1 h t hm
end Go.Proofs.YtbiklbomacjihaaDoor

