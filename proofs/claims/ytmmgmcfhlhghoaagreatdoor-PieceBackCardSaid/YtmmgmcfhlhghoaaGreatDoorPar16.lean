/- What the landed calls of layer 16 answer, as one condition; what all its statements begin with. -/
import Derived.Test.YtmmgmcfhlhghoaaGreatDoorPara16
import Derived.Test.YtmmgmcfhlhghoaaGreatDoorGF16
import Derived.Test.YtmmgmcfhlhghoaaGreatDoorGG16
import Derived.Deep.QuietTactic
import Derived.Lib.QuietBelow
namespace Go.Proofs.YtmmgmcfhlhghoaaGreatDoor
open Go.RowKit
open Go.Lib hiding intOf
namespace L16
open L10 (TN tn patB)
open L11 (NewQ new_yes new_no seenL_but blk_seenL)
open L12 (St)
open L13 (TW tw checkB)
open L14 (LayD LayOk layC mayL Wide rg14)

/-- What is handed in, beside the trie, and what the door has laid. -/
structure Args (w : World) (A : Option Addr) (l : List WP) (L : LayD) (SA : Option Addr) (WA : Option Addr) (wl : List CW) : Prop where
  but : SeenW w A l
  lay : SeenP w SA L.n L.sh
  words : SeenC w WA wl
  home : Home w
theorem Args.ext {w w' : World} {A : Option Addr} {l : List WP} {L : LayD} {SA WA : Option Addr} {wl : List CW} (h : Args w A l L SA WA wl) (x : Ext w w') : Args w' A l L SA WA wl := ⟨h.but.ext x, h.lay.ext x, h.words.ext x, h.home.ext x⟩
/-- Breaks that are not where the trie is. -/
def KeptK (w : World) (B : Nat) (A : Option Addr) (l : List Brk) : Prop := SeenK w A l ∧ ∀ ad, A = some ad → ad.block ≠ B
theorem KeptK.ext {w w' : World} {B : Nat} {A : Option Addr} {l : List Brk} (h : KeptK w B A l) (x : Ext w w') : KeptK w' B A l := ⟨h.1.ext x, h.2⟩
theorem KeptK.ask {w w' : World} {B : Nat} {A : Option Addr} {l : List Brk} (h : KeptK w B A l) (x : But (Only B) w w') : KeptK w' B A l :=
  ⟨fun k v hv => by
    obtain ⟨ad, e, hb, hc⟩ := h.1 k v hv
    exact ⟨ad, e, Nat.lt_of_lt_of_le hb x.size, x.at hc (by rw [addr_block]; exact h.2 ad e)⟩, h.2⟩
/-- What Breaks answers. -/
def PrQ (V w : World) (B : Nat) (p : List TN) (r : List Brk × Int) (e : Ending) (w' : World) : Prop :=
  St V w' B p ∧ But (Only B) w w' ∧ ∃ A c, e = .returned (.tuple #[.slice A r.1.length c, .int .i64 r.2]) ∧ KeptK w' B A r.1
def WideK (b : Brk) : Prop := Wide b.1 ∧ Wide b.2.1 ∧ Wide b.2.2
/-- What the landed calls answer. -/
structure Par : Prop where
  brC : ∀ (V w : World) (B : Nat) (p : List TN), St V w B p → ∀ (A : Option Addr) (l : List WP) (n c : Nat), n = l.length → n ≤ 1000000 → (∀ x ∈ l, x.Ok ∧ x.ns.length ≤ 900000) → ∀ (L : LayD) (SA : Option Addr) (sc : Nat), LayOk L sc →
    ∀ (WA : Option Addr) (wl : List CW) (m d : Nat), m = wl.length → m ≤ d → d ≤ maxLen → (∀ x ∈ wl, x.Ok) → (∀ w', But (Only B) w w' → Args w' A l L SA WA wl) → ∀ parted : Bool,
    Calls Tryz.prog 8 #[.pointer (some ⟨B, 0, none⟩), .slice A n c, .agg (layC L SA sc).toArray, .slice WA m d, .bool parted] w (PrQ V w B p (brksA p (l.map tn) L (wl.map tw) parted))
  befC : ∀ (a b : Brk) (w : World), WideK a → WideK b → Calls Tryz.prog 20 #[brkV a, brkV b] w (Ret w (.bool (befB a b)))

/-- The trie's world apart: what lies in the world ahead of it is there behind each call. -/
theorem st_old {V w w' : World} {B : Nat} {p : List TN} (h : St V w B p) (x : But (Only B) w w') : Ext V w' := x.ext h.x (fun k hk => by rw [show k = B from hk]; exact h.b)
theorem seenC_but {w w' : World} {B : Nat} {A : Option Addr} {l : List CW} (h : SeenC w A l) (x : But (Only B) w w') (hA : ∀ ad, A = some ad → ad.block ≠ B) (hI : ∀ y ∈ l, (∀ ad, y.A = some ad → ad.block ≠ B) ∧ ∀ ad, y.B = some ad → ad.block ≠ B) : SeenC w' A l := fun i y hy => by
  obtain ⟨⟨ad, e, hb, h0, h1⟩, h2, h3⟩ := h i y hy
  have hm := hI y (List.mem_of_getElem? hy)
  exact ⟨⟨ad, e, Nat.lt_of_lt_of_le hb x.size, x.at h0 (by rw [addr_block]; exact hA ad e), x.at h1 (by rw [addr_block]; exact hA ad e)⟩, seenL_but h2 x hm.1, seenL_but h3 x hm.2⟩

def D16 : LayD := ⟨fun k => if k = 0 then 1 else 0, 0, fun _ => (0, 0)⟩
def E16 : LayD := ⟨fun k => if k = 14 then 7 else 0, 0, fun _ => (0, 0)⟩
def Z16 : LayD := ⟨fun _ => 0, 0, fun _ => (0, 0)⟩
theorem wide_small {n : Int} (h0 : -1000 ≤ n) (h1 : n ≤ 1000) : Wide n := ⟨by omega, by omega⟩
theorem lay_small {v : Nat → Int} (h : ∀ k, -1000 ≤ v k ∧ v k ≤ 1000) : LayOk ⟨v, 0, fun _ => (0, 0)⟩ 0 := ⟨fun k => wide_small (h k).1 (h k).2, fun _ h => absurd h (Nat.not_lt_zero _), Nat.le_refl _, Nat.zero_le _⟩
theorem d16_ok : LayOk D16 0 := lay_small fun k => by split <;> decide
theorem e16_ok : LayOk E16 0 := lay_small fun k => by split <;> decide
theorem z16_ok : LayOk Z16 0 := lay_small fun _ => by decide
theorem d16_cells : layC D16 none 0 = [.int .i64 1, .int .i64 0, .int .i64 0, .int .i64 0, .slice none 0 0, .int .i64 0, .int .i64 0, .int .i64 0, .int .i64 0, .int .i64 0, .int .i64 0, .int .i64 0, .int .i64 0, .int .i64 0, .int .i64 0, .int .i64 0, .int .i64 0, .int .i64 0, .int .i64 0, .int .i64 0, .int .i64 0] := rfl
theorem e16_cells : layC E16 none 0 = [.int .i64 0, .int .i64 0, .int .i64 0, .int .i64 0, .slice none 0 0, .int .i64 0, .int .i64 0, .int .i64 0, .int .i64 0, .int .i64 0, .int .i64 0, .int .i64 0, .int .i64 0, .int .i64 0, .int .i64 7, .int .i64 0, .int .i64 0, .int .i64 0, .int .i64 0, .int .i64 0, .int .i64 0] := rfl
theorem z16_cells : layC Z16 none 0 = [.int .i64 0, .int .i64 0, .int .i64 0, .int .i64 0, .slice none 0 0, .int .i64 0, .int .i64 0, .int .i64 0, .int .i64 0, .int .i64 0, .int .i64 0, .int .i64 0, .int .i64 0, .int .i64 0, .int .i64 0, .int .i64 0, .int .i64 0, .int .i64 0, .int .i64 0, .int .i64 0, .int .i64 0] := rfl
def wk : List Brk := [(0, 0, 0), (4, 0, 2), (1, 0, 3), (5, 1, 1)]
theorem aw_l : brksA [] [] D16 [([97, 45, 98], []), ([99], [])] true = (wk, 0) := by decide +kernel
theorem aw_f : brksA [] [] Z16 [([97, 45, 98], []), ([99], [])] true = ([], 140) := by decide +kernel
theorem aw_g : brksA [] [] D16 [] true = ([], 130) := by decide +kernel
theorem aw_1 : befB (0, 0, 0) (4, 0, 2) = true := by decide
theorem aw_2 : befB (0, 0, 0) (0, 0, 0) = false := by decide
theorem aw_3 : befB (1, 0, 3) (5, 1, 1) = true := by decide
theorem aw_4 : penV E16 (4, 0, 2) = 7 := by decide
end L16
end Go.Proofs.YtmmgmcfhlhghoaaGreatDoor

