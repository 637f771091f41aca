/- A trie that is asked for points, again and again; what all statements of layer 12 begin with. -/
import Derived.Test.YtenajekmnggkeaaPointA12
import Derived.Test.YtenajekmnggkeaaSameL11
namespace Go.Proofs.Ytenajekmnggkeaa
open Go.RowKit
open Go.Lib hiding intOf
namespace L12
open L10 (TN plainB patB tn rd patsB)
open L11 (valsL TrieAt NewQ new_yes new_no seenL_but blk_seenL blk_seenW wp_ok same_lists list_size)

/-- A trie that is asked. -/
structure St (V w : World) (B : Nat) (p : List TN) : Prop where
  x : Ext V w
  b : V.heap.size ≤ B
  t : ∃ F, TrieAt w B F p
theorem St.ext {V w w' : World} {B : Nat} {p : List TN} (h : St V w B p) (x : Ext w w') : St V w' B p := by
  obtain ⟨F, T⟩ := h.t
  exact ⟨h.x.trans x, h.b, F, T.ext x⟩
theorem St.lt {V w : World} {B : Nat} {p : List TN} (h : St V w B p) : B < w.heap.size := by
  obtain ⟨F, T⟩ := h.t
  exact T.lt
/-- Numbers that are not where the trie is. -/
def Kept (w : World) (B : Nat) (A : Option Addr) (vs : List Int) : Prop := SeenL w A vs ∧ ∀ ad, A = some ad → ad.block ≠ B
theorem Kept.ext {w w' : World} {B : Nat} {A : Option Addr} {vs : List Int} (h : Kept w B A vs) (x : Ext w w') : Kept w' B A vs := ⟨h.1.ext x, h.2⟩
theorem Kept.ask {w w' : World} {B : Nat} {A : Option Addr} {vs : List Int} (h : Kept w B A vs) (x : But (Only B) w w') : Kept w' B A vs := ⟨seenL_but h.1 x h.2, h.2⟩
def StP (V w : World) (B : Nat) (p : List TN) (l : List Int) (e : Ending) (w' : World) : Prop :=
  St V w' B p ∧ But (Only B) w w' ∧ ∃ A c, e = .returned (.slice A l.length c) ∧ Kept w' B A l
theorem St.points {V w : World} {B : Nat} {p : List TN} (h : St V w B p) (A : Option Addr) (l : List WP) (n c : Nat) (W : Option Addr) (u : List Int) (m d : Nat) (left right : Int) (hs : SeenW w A l) (hn : n = l.length) (hm : n ≤ 9223372036854775807)
    (ok : ∀ x ∈ l, x.Ok ∧ x.ns.length ≤ 900000) (su : SeenL w W u) (hu : m = u.length) (hmd : m ≤ d) (hd : d ≤ maxLen) :
    Calls Try.prog 15 #[.pointer (some ⟨B, 0, none⟩), .slice A n c, .slice W m d, .int .i64 left, .int .i64 right] w (StP V w B p (pointsL p (l.map tn) u left right)) := by
  obtain ⟨F, T⟩ := h.t
  refine (points_any w B F p T A l n c W u m d left right hs hn hm ok su hu hmd hd).mono ?_
  rintro e w' ⟨x, F', A', c', rfl, T', _, s', ha⟩
  exact ⟨⟨x.ext h.x (fun k hk => by rw [show k = B from hk]; exact h.b), h.b, F', T'⟩, x, A', c', rfl, s', fun ad e hb => by have := ha ad e; have := T.lt; omega⟩
theorem St.new {V w w' : World} {p : List TN} {e : Ending} (x : Ext V w) (h : NewQ w p e w') : ∃ B, e = .returned (.tuple #[.pointer (some ⟨B, 0, none⟩), .int .i64 0]) ∧ St V w' B p ∧ Ext w w' ∧ w.heap.size ≤ B := by
  obtain ⟨B, F, rfl, x', T, hB, _⟩ := h
  exact ⟨B, rfl, ⟨x.trans x', Nat.le_trans x.size hB, F, T⟩, x', hB⟩
/-- No exceptions. -/
theorem St.bare {V w : World} {B : Nat} {p : List TN} (h : St V w B p) (W : Option Addr) (u : List Int) (m d : Nat) (left right : Int) (su : SeenL w W u) (hu : m = u.length) (hmd : m ≤ d) (hd : d ≤ maxLen) :
    Calls Try.prog 15 #[.pointer (some ⟨B, 0, none⟩), .slice none 0 0, .slice W m d, .int .i64 left, .int .i64 right] w (StP V w B p (pointsL p [] u left right)) :=
  h.points none [] 0 0 W u m d left right SeenW.nil rfl (by omega) (fun x hx => by simp at hx) su hu hmd hd

def awP : List TN := [([97, 98], [0, 1, 0])]
def awW : List Int := [40, 97, 65, 98, 41]
/-- The first trie. -/
theorem aw_new (W : World) (b0 b2 : Nat) (k0 : Blk W b0 3 [.int .i64 0, .int .i64 1, .int .i64 0])
    (k2 : Blk W b2 50 [.string ⟨#[97, 98]⟩, .slice (some ⟨b0, 0, none⟩) 3 3]) :
    Calls Try.prog 13 #[.agg #[.slice (some ⟨b2, 0, none⟩) 1 1, .slice none 0 0]] W (NewQ W awP) := by
  have s0 : SeenL W (some ⟨b0, 0, none⟩) [0, 1, 0] := blk_seenL k0 rfl
  have h := new_yes ⟨[⟨⟨#[97, 98]⟩, [0, 1, 0], some ⟨b0, 0, none⟩, 3⟩], []⟩ ⟨some ⟨b2, 0, none⟩, 1, none, 0⟩
    (fun x hx => by
      rw [List.mem_singleton.1 hx]; exact wp_ok _ _ _ _ (by decide) (by decide) (by decide) (by decide)) (fun x hx => by simp at hx) W
    ⟨blk_seenW k2 rfl (fun y hy => by
      rw [List.mem_singleton.1 hy]; exact s0), SeenW.nil⟩ (by simp) (by simp) (by kernel_rfl)
  exact h
theorem aw_core : (coreL awW).toArray = #[97, 97, 98] ∧ coreN awW = 1 := ⟨by kernel_rfl, by kernel_rfl⟩
theorem aw_l : pointsL awP [] awW 1 1 = [3] := by kernel_rfl
theorem aw_m : pointsL awP ([⟨⟨#[97, 97, 98]⟩, [1], none, 1⟩].map tn) awW 1 1 = [2] := by kernel_rfl
theorem aw_k : pointsL awP [] awW 1 2 = [] := by kernel_rfl

set_option maxRecDepth 100000 in
set_option maxHeartbeats 8000000 in
theorem awake_any (w : World) : Calls Try.prog 8 #[] w (Ret w (.bool true)) := by
  go_enter Try.func8, Try.ntmps8
  go_wp2_with fail
  obtain ⟨v1, hv1⟩ : ∃ v1, v1 = w.alloc (.cells #[.int .i64 0, .int .i64 1, .int .i64 0] 3) := ⟨_, rfl⟩
  obtain ⟨W, hW⟩ : ∃ W, W = v1.alloc (.cells #[.string ⟨#[97, 98]⟩, .slice (some ⟨w.heap.size, 0, none⟩) 3 3] 50) := ⟨_, rfl⟩
  rw [← hv1, ← hW]
  have e1 : v1.heap.size = w.heap.size + 1 := by rw [hv1]; simp
  have x1 : Ext w v1 := by rw [hv1]; exact (Ext.refl _).alloc _
  have x2 : Ext v1 W := by rw [hW]; exact (Ext.refl _).alloc _
  have k0 : Blk v1 w.heap.size 3 [.int .i64 0, .int .i64 1, .int .i64 0] := by rw [hv1]; exact Blk.lit _ _ _ _ rfl
  have k2 : Blk W (w.heap.size + 1) 50 [.string ⟨#[97, 98]⟩, .slice (some ⟨w.heap.size, 0, none⟩) 3 3] := by rw [hW]; exact Blk.lit _ _ _ _ e1.symm
  have NEW := Lib.hid (aw_new W _ _ (k0.ext x2) k2)
  have X0 := Lib.hid (x1.trans x2)
  clear hv1 hW e1 x1 x2 k0 k2
  refine NEW.out.mono ?_; rintro e w5 hq
  obtain ⟨B, rfl, s5, _, _⟩ := St.new X0.out hq
  have S5 := Lib.hid s5
  clear hq s5 NEW
  go_wp2_with fail
  have HR := Lib.hid (show w5.heap.size ≠ B by have := S5.out.lt; omega)
  have KW := Lib.hid (show Kept (w5.alloc (.cells #[.int .i64 40, .int .i64 97, .int .i64 65, .int .i64 98, .int .i64 41] 3)) B (some ⟨w5.heap.size, 0, none⟩) awW from ⟨seen_new w5 (awW.map (.int .i64)) 3, fun ad e => by cases e; exact HR.out⟩)
  have S6 := Lib.hid (S5.out.ext ((Ext.refl w5).alloc (.cells #[.int .i64 40, .int .i64 97, .int .i64 65, .int .i64 98, .int .i64 41] 3)))
  generalize w5.alloc (.cells #[.int .i64 40, .int .i64 97, .int .i64 65, .int .i64 98, .int .i64 41] 3) = w6 at *
  generalize w5.heap.size = R at *
  have CO := Lib.hid (core_any (some ⟨R, 0, none⟩) awW 5 5 w6 KW.out.1 rfl (Nat.le_refl _) (by unfold maxLen; omega))
  rw [aw_core.1, aw_core.2] at CO
  clear S5
  refine CO.out.mono ?_; rintro e w7 ⟨rfl, x7⟩
  have S7 := Lib.hid (S6.out.ext x7)
  have KW := Lib.hid (KW.out.ext x7)
  clear CO S6 x7
  go_wp2_with fail
  refine (S7.out.bare (some ⟨R, 0, none⟩) awW 5 5 1 1 KW.out.1 rfl (Nat.le_refl _) (by unfold maxLen; omega)).mono ?_
  rintro e w8 ⟨s8, b8, A8, c8, rfl, k8⟩
  rw [aw_l] at k8 ⊢
  have S8 := Lib.hid s8
  have KW := Lib.hid (KW.out.ask b8)
  have K8 := Lib.hid k8
  clear s8 b8 k8 S7
  go_wp2_with fail
  obtain ⟨v9, hv9⟩ : ∃ v9, v9 = w8.alloc (.cells #[.int .i64 1] 3) := ⟨_, rfl⟩
  obtain ⟨w9, hw9⟩ : ∃ w9, w9 = v9.alloc (.cells #[.string ⟨#[97, 97, 98]⟩, .slice (some ⟨w8.heap.size, 0, none⟩) 1 1] 46) := ⟨_, rfl⟩
  rw [← hv9, ← hw9]
  have e9 : v9.heap.size = w8.heap.size + 1 := by rw [hv9]; simp
  have x9 : Ext w8 v9 := by rw [hv9]; exact (Ext.refl _).alloc _
  have y9 : Ext v9 w9 := by rw [hw9]; exact (Ext.refl _).alloc _
  have k9 : Blk v9 w8.heap.size 3 [.int .i64 1] := by rw [hv9]; exact Blk.lit _ _ _ _ rfl
  have j9 : Blk w9 (w8.heap.size + 1) 46 [.string ⟨#[97, 97, 98]⟩, .slice (some ⟨w8.heap.size, 0, none⟩) 1 1] := by rw [hw9]; exact Blk.lit _ _ _ _ e9.symm
  have SX : SeenW w9 (some ⟨w8.heap.size + 1, 0, none⟩) [⟨⟨#[97, 97, 98]⟩, [1], some ⟨w8.heap.size, 0, none⟩, 1⟩] := blk_seenW j9 rfl (fun y hy => by rw [List.mem_singleton.1 hy]; exact blk_seenL (k9.ext y9) rfl)
  have KW := Lib.hid (KW.out.ext (x9.trans y9))
  have K8 := Lib.hid (K8.out.ext (x9.trans y9))
  have PX := Lib.hid ((S8.out.ext (x9.trans y9)).points (some ⟨w8.heap.size + 1, 0, none⟩) [⟨⟨#[97, 97, 98]⟩, [1], some ⟨w8.heap.size, 0, none⟩, 1⟩] 1 1 (some ⟨R, 0, none⟩) awW 5 5 1 1 SX rfl (by omega)
    (fun x hx => by rw [List.mem_singleton.1 hx]; exact ⟨wp_ok _ _ _ _ (by decide) (by decide) (by decide) (by decide), by simp⟩) KW.out.1 rfl (Nat.le_refl _) (by unfold maxLen; omega))
  have e9 : pointsL awP ([(⟨⟨#[97, 97, 98]⟩, [1], some ⟨w8.heap.size, 0, none⟩, 1⟩ : WP)].map tn) awW 1 1 = [2] := aw_m
  rw [e9] at PX
  clear hv9 hw9 x9 y9 k9 j9 SX S8 e9
  refine PX.out.mono ?_; rintro e w10 ⟨s10, b10, A10, c10, rfl, k10⟩
  have S10 := Lib.hid s10
  have KW := Lib.hid (KW.out.ask b10)
  have K8 := Lib.hid (K8.out.ask b10)
  have K10 := Lib.hid k10
  clear s10 b10 k10 PX
  go_wp2_with fail
  refine (S10.out.bare (some ⟨R, 0, none⟩) awW 5 5 1 2 KW.out.1 rfl (Nat.le_refl _) (by unfold maxLen; omega)).mono ?_
  rintro e w11 ⟨s11, b11, A11, c11, rfl, _⟩
  rw [aw_k]
  have S11 := Lib.hid s11
  have K8 := Lib.hid (K8.out.ask b11)
  have K10 := Lib.hid (K10.out.ask b11)
  clear s11 b11 S10
  have hq : ((⟨#[97, 97, 98]⟩ : ByteArray).toList == (⟨#[97, 97, 98]⟩ : ByteArray).toList) = true := by simp
  have SM := Lib.hid (fun A c w' (x : Ext w11 w') (s : SeenL w' A [3]) => show Calls Try.prog 14 #[.slice A8 1 c8, .slice A 1 c] w' (Ret w' (.bool true)) from same_lists A8 A [3] [3] c8 c w' (K8.out.1.ext x) s (by decide))
  have SN := Lib.hid (fun A c w' (x : Ext w11 w') (s : SeenL w' A [2]) => show Calls Try.prog 14 #[.slice A10 1 c10, .slice A 1 c] w' (Ret w' (.bool true)) from same_lists A10 A [2] [2] c10 c w' (K10.out.1.ext x) s (by decide))
  clear K8 K10
  have hlz : ([3] : List Int).length = 1 ∧ ([2] : List Int).length = 1 ∧ ([] : List Int).length = 0 := ⟨rfl, rfl, rfl⟩
  go_wp2_with fail
  have y12 : Ext w11 (w11.alloc (.cells #[.int .i64 3] 3)) := (Ext.refl _).alloc _
  refine (SM.out _ _ _ y12 (seen_new w11 [.int .i64 3] 3)).mono ?_; rintro e w12 ⟨rfl, x12⟩
  have X12 := Lib.hid (y12.trans x12)
  clear y12 x12 SM
  go_wp2_with fail
  have y13 : Ext w12 (w12.alloc (.cells #[.int .i64 2] 3)) := (Ext.refl _).alloc _
  refine (SN.out _ _ _ (X12.out.trans y13) (seen_new w12 [.int .i64 2] 3)).mono ?_; rintro e w13 ⟨rfl, x13⟩
  have X13 := Lib.hid ((X12.out.trans y13).trans x13)
  clear y13 x13 SN
  go_wp2_with fail
  go_ret
  exact ⟨rfl, S11.out.x.trans X13.out⟩
end L12
end Go.Proofs.Ytenajekmnggkeaa

