/- What the landed calls of layer 16 are handed, all along; the landed points of a word. -/
import Derived.Test.YtmmgmcfhlhghoaaGreatDoorPar16
import Derived.Test.YtmmgmcfhlhghoaaGreatDoorKindP16
import Derived.Test.YtmmgmcfhlhghoaaGreatDoorMapI16
namespace Go.Proofs.YtmmgmcfhlhghoaaGreatDoor
open Go.RowKit
namespace L16
open L10 (TN tn)
open L11 (seenL_but TrieAt)
open L12 (St pointsL points_any)
open L13 (TW tw checkB)
open L14 (LayD LayOk layC mayL)

/-- A paragraph's words, a trie, exceptions, a layout, and where they lie. -/
structure Job where
  V : World
  w0 : World
  B : Nat
  p : List TN
  A : Option Addr
  l : List WP
  n : Nat
  c : Nat
  L : LayD
  SA : Option Addr
  sc : Nat
  WA : Option Addr
  wl : List CW
  m : Nat
  d : Nat
  bt : Nat
  bb : Nat
  bl : Nat
  parted : Bool
structure Job.Ok (J : Job) : Prop where
  hn : J.n = J.l.length
  n6 : J.n ≤ 1000000
  exc : ∀ x ∈ J.l, x.Ok ∧ x.ns.length ≤ 900000
  hm : J.m = J.wl.length
  md : J.m ≤ J.d
  dm : J.d ≤ maxLen
  wok : ∀ x ∈ J.wl, x.Ok
  args : ∀ w', But (Only J.B) J.w0 w' → Args w' J.A J.l J.L J.SA J.WA J.wl
  may : mayL J.L = true
  old : J.V.heap.size ≤ J.w0.heap.size
  chk : checkB (J.wl.map tw) = true
  nt : J.bt ≠ J.B
  nb : J.bb ≠ J.B
  nl : J.bl ≠ J.B
/-- Its points' function. -/
def Job.fn (J : Job) : Value := if J.parted then .func (.func 29) #[] #[.pointer (some ⟨J.bt, 0, none⟩), .pointer (some ⟨J.bb, 0, none⟩), .pointer (some ⟨J.bl, 0, none⟩)] else .nilFunc
/-- The paragraph. -/
def Job.cells (J : Job) : List Value := [.slice J.WA J.m J.d, J.fn]
def Job.val (J : Job) : Value := .agg #[.slice J.WA J.m J.d, J.fn]
def Job.ps (J : Job) (x : CW) : List Int := pointsW J.p (J.l.map tn) (J.L.v 7) (J.L.v 8) (tw x) J.parted
/-- The world all along: the trie's blocks are F's. -/
structure Job.At (J : Job) (F : Nat → Prop) (w : World) : Prop where
  trie : TrieAt w J.B F J.p
  x : Ext J.V w
  b : J.V.heap.size ≤ J.B
  but : But (Only J.B) J.w0 w
  fn : J.parted = true → Blk w J.bt 31 [.pointer (some ⟨J.B, 0, none⟩)] ∧ Blk w J.bb 23 [.slice J.A J.n J.c] ∧ Blk w J.bl 40 (layC J.L J.SA J.sc)
theorem Job.At.st {J : Job} {F : Nat → Prop} {w : World} (h : J.At F w) : St J.V w J.B J.p := ⟨h.x, h.b, F, h.trie⟩
theorem Job.At.args {J : Job} (O : J.Ok) {F : Nat → Prop} {w : World} (h : J.At F w) : Args w J.A J.l J.L J.SA J.WA J.wl := O.args w h.but
theorem Job.At.new {J : Job} {F : Nat → Prop} {w : World} (h : J.At F w) {k : Nat} (hk : w.heap.size ≤ k) : ¬ F k := fun f => by have := h.trie.low k f; omega
/-- From a world to a later one: the trie may have been asked; memory may have been made. -/
structure Job.Ask (J : Job) (F : Nat → Prop) (w : World) (F' : Nat → Prop) (w' : World) : Prop where
  at' : J.At F' w'
  but : But (Only J.B) w w'
  far : ∀ k, F' k → F k ∨ w.heap.size ≤ k
theorem Job.At.ext {J : Job} {F : Nat → Prop} {w w' : World} (h : J.At F w) (x : Ext w w') : J.At F w' :=
  ⟨h.trie.ext x, h.x.trans x, h.b, h.but.trans (But.of_ext (S := Only J.B) x) fun _ => Or.inl, fun k => ⟨(h.fn k).1.ext x, (h.fn k).2.1.ext x, (h.fn k).2.2.ext x⟩⟩
theorem Job.At.ask {J : Job} {F : Nat → Prop} {w w' : World} (h : J.At F w) (x : Ext w w') : J.Ask F w F w' := ⟨h.ext x, But.of_ext x, fun _ => Or.inl⟩
theorem Job.Ask.trans {J : Job} {F F' F'' : Nat → Prop} {a b c : World} (h : J.Ask F a F' b) (k : J.Ask F' b F'' c) : J.Ask F a F'' c :=
  ⟨k.at', h.but.trans k.but fun _ => Or.inl, fun i hi => (k.far i hi).elim (h.far i) fun g => .inr (Nat.le_trans h.but.size g)⟩
theorem Job.Ask.ext {J : Job} {F F' : Nat → Prop} {a b c : World} (h : J.Ask F a F' b) (x : Ext b c) : J.Ask F a F' c := h.trans (h.at'.ask x)
/-- One's own blocks are written. -/
theorem Job.At.set {J : Job} {F : Nat → Prop} {S : Nat → Prop} {w w' : World} (h : J.At F w) (x : But S w w') (hF : ∀ k, S k → ¬ F k ∧ k ≠ J.B ∧ J.w0.heap.size ≤ k) (O : J.Ok)
    (hn : J.parted = true → ¬ S J.bt ∧ ¬ S J.bb ∧ ¬ S J.bl) : J.At F w' :=
  ⟨h.trie.keepB x (fun e => (hF _ e).2.1 rfl) (fun k f s => (hF k s).1 f), x.ext h.x (fun k s => Nat.le_trans O.old (hF k s).2.2), h.b, h.but.trans x (fun k s => .inr (hF k s).2.2),
    fun k => ⟨x.blk (h.fn k).1 (hn k).1, x.blk (h.fn k).2.1 (hn k).2.1, x.blk (h.fn k).2.2 (hn k).2.2⟩⟩

set_option maxRecDepth 100000 in
set_option maxHeartbeats 2000000 in
/-- The points of codes. -/
theorem pts_any (J : Job) (O : J.Ok) (hp : J.parted = true) (F : Nat → Prop) (w : World) (h : J.At F w) (W : Option Addr) (u : List Int) (k e : Nat) (su : SeenL w W u) (hu : k = u.length) (hke : k ≤ e) (he : e ≤ maxLen) :
    Calls Tryz.prog 29 #[.slice W k e, .pointer (some ⟨J.bt, 0, none⟩), .pointer (some ⟨J.bb, 0, none⟩), .pointer (some ⟨J.bl, 0, none⟩)] w fun e' w' => ∃ F', J.Ask F w F' w' ∧
      ∃ A c, e' = .returned (.slice A (pointsL J.p (J.l.map tn) u (J.L.v 7) (J.L.v 8)).length c) ∧ SeenL w' A (pointsL J.p (J.l.map tn) u (J.L.v 7) (J.L.v 8)) ∧ ∀ ad, A = some ad → w.heap.size ≤ ad.block := by
  obtain ⟨f1, f2, f3⟩ := h.fn hp
  have g1 : w.cell? ⟨J.bt, 0, none⟩ = some (.pointer (some ⟨J.B, 0, none⟩)) := f1.cell 0
  have g2 : w.cell? ⟨J.bb, 0, none⟩ = some (.slice J.A J.n J.c) := f2.cell 0
  have g3 : w.cell? ⟨J.bl, 7, none⟩ = some (.int .i64 (J.L.v 7)) := f3.cell 7
  have g4 : w.cell? ⟨J.bl, 8, none⟩ = some (.int .i64 (J.L.v 8)) := f3.cell 8
  have P := Lib.hid (points_any w J.B F J.p h.trie J.A J.l J.n J.c W u k e (J.L.v 7) (J.L.v 8) (h.args O).but O.hn (by have := O.n6; omega) O.exc su hu hke he)
  have HA := Lib.hid h
  have HO := Lib.hid O
  clear h O f1 f2 f3 su hu hke he
  generalize pointsL J.p (J.l.map tn) u (J.L.v 7) (J.L.v 8) = r at *
  go_enter Tryz.func29, Tryz.ntmps29
  go_wp2_with fail
  refine P.out.mono ?_
  rintro e' w1 ⟨b1, F', A', c', rfl, t1, f1, k1, n1⟩
  have FIN := Lib.hid (show J.Ask F w F' w1 ∧ SeenL w1 A' r ∧ ∀ ad, A' = some ad → w.heap.size ≤ ad.block from
    ⟨⟨⟨t1, b1.ext HA.out.x (fun i hi => by rw [show i = J.B from hi]; exact HA.out.b), HA.out.b, HA.out.but.trans b1 fun _ => Or.inl, fun k => ⟨b1.blk (HA.out.fn k).1 HO.out.nt, b1.blk (HA.out.fn k).2.1 HO.out.nb, b1.blk (HA.out.fn k).2.2 HO.out.nl⟩⟩,
      b1, fun i hi => (f1 i hi).imp id fun h => h.1⟩, k1, n1⟩)
  clear t1 b1 k1 f1 n1
  go_wp2_with fail
  go_ret
  exact ⟨F', FIN.out.1, A', c', rfl, FIN.out.2.1, FIN.out.2.2⟩
end L16
end Go.Proofs.YtmmgmcfhlhghoaaGreatDoor

