/- What all statements of layer 10 begin with. -/
import Derived.Test.YtijhabhnhglhgaaDoorAns10
namespace Go.Proofs.YtijhabhnhglhgaaDoor
open Go.RowKit
namespace L10

def T1 : List UInt8 := [46, 97, 49, 98, 32, 116, 97, 45, 98, 108, 101, 10]
def T2 : List UInt8 := [46, 97, 49, 98, 10, 116, 97, 45, 98, 108, 101, 10]
theorem t1_D : parseD T1 = ([([46, 97, 98], [0, 0, 1, 0])], [([116, 97, 98, 108, 101], [2])]) := by kernel_rfl
theorem t1_E : parseE T1 = 0 := by kernel_rfl
theorem t2_W : writeL ([([46, 97, 98], [0, 0, 1, 0])], [([116, 97, 98, 108, 101], [2])]) = T2 := by kernel_rfl
theorem t3_E : parseE [97, 45] = 100 := by kernel_rfl
theorem t3_D : parseD [97, 45] = ([], []) := by kernel_rfl
theorem one_tn {l : List WP} {b : List UInt8} {ns : List Int} (h : l.map tn = [(b, ns)]) : ∃ A c, l = [⟨⟨b.toArray⟩, ns, A, c⟩] := by
  match l, h with
  | [⟨s, k, A, c⟩], h =>
    simp only [List.map_cons, List.map_nil, List.cons.injEq, and_true] at h
    unfold tn at h
    simp only [Prod.mk.injEq] at h
    refine ⟨A, c, ?_⟩
    rw [h.2]
    have : s = ⟨b.toArray⟩ := ByteArray.ext (by rw [← Array.toList_inj]; exact h.1)
    rw [this]
def awD (A1 : Option Addr) (c1 : Nat) (A2 : Option Addr) (c2 : Nat) : PatsD := ⟨[⟨⟨#[46, 97, 98]⟩, [0, 0, 1, 0], A1, c1⟩], [⟨⟨#[116, 97, 98, 108, 101]⟩, [2], A2, c2⟩]⟩
theorem aw_parse (A : Option Addr) (c : Nat) (w : World) (ht : SeenB w A T1) (hT : Tabs w) : Calls Tryd.prog 10 #[.slice A 12 c] w fun e w' =>
    Ext w w' ∧ ∃ a ca b cb A1 c1 A2 c2, e = .returned (.tuple #[.agg #[.slice a 1 ca, .slice b 1 cb], .int .i64 0]) ∧ Good w' (awD A1 c1 A2 c2) ⟨a, ca, b, cb⟩ := by
  refine (parse_all A T1 c w ht (by decide) hT).mono ?_
  rintro e w' ⟨hx, ⟨l, m⟩, ⟨a, ca, b, cb⟩, rfl, hd, g⟩
  rw [t1_D] at hd
  unfold rd at hd
  simp only [Prod.mk.injEq] at hd
  obtain ⟨A1, c1, rfl⟩ := one_tn hd.1
  obtain ⟨A2, c2, rfl⟩ := one_tn hd.2
  exact ⟨hx, a, ca, b, cb, A1, c1, A2, c2, by rw [t1_E]; rfl, g⟩
theorem aw_none (A : Option Addr) (c : Nat) (w : World) (ht : SeenB w A [97, 45]) (hT : Tabs w) : Calls Tryd.prog 10 #[.slice A 2 c] w fun e w' =>
    Ext w w' ∧ ∃ a ca b cb, e = .returned (.tuple #[.agg #[.slice a 0 ca, .slice b 0 cb], .int .i64 100]) := by
  refine (parse_all A [97, 45] c w ht (by decide) hT).mono ?_
  rintro e w' ⟨hx, ⟨l, m⟩, ⟨a, ca, b, cb⟩, rfl, hd, g⟩
  rw [t3_D] at hd
  unfold rd at hd
  simp only [Prod.mk.injEq, List.map_eq_nil_iff] at hd
  obtain ⟨rfl, rfl⟩ := hd
  exact ⟨hx, a, ca, b, cb, by rw [t3_E]; rfl⟩
theorem aw_write {w : World} {a b A1 A2 : Option Addr} {ca cb c1 c2 : Nat} (h : Good w (awD A1 c1 A2 c2) ⟨a, ca, b, cb⟩) : Calls Tryd.prog 14 #[.agg #[.slice a 1 ca, .slice b 1 cb]] w fun e w' =>
    Ext w w' ∧ ∃ A c, e = .returned (.tuple #[.slice A 12 c, .int .i64 0]) ∧ SeenB w' A T2 := by
  refine (write_all h).mono ?_
  rintro e w' ⟨hx, A, c, rfl, _, _, s⟩
  have e1 : writeL (rd (awD A1 c1 A2 c2)) = T2 := t2_W
  rw [e1] at s ⊢
  exact ⟨hx, A, c, rfl, s⟩
theorem aw_check {w : World} {a b A1 A2 : Option Addr} {ca cb c1 c2 : Nat} (h : Good w (awD A1 c1 A2 c2) ⟨a, ca, b, cb⟩) : Calls Tryd.prog 16 #[.agg #[.slice a 1 ca, .slice b 1 cb]] w (Ret w (.bool true)) := by
  have g := check_all h
  exact g
theorem one_seen {w : World} {B : Nat} {t : TypeId} (h : Blk w B t [.string ⟨#[]⟩, .slice none 0 0]) : SeenW w (some ⟨B, 0, none⟩) [⟨⟨#[]⟩, [], none, 0⟩] := fun i x hx => by
  match i, hx with
  | 0, hx =>
    simp only [List.getElem?_cons_zero, Option.some.injEq] at hx
    subst hx
    exact ⟨⟨_, rfl, h.lt, h.cell 0, h.cell 1⟩, SeenL.nil⟩
theorem nil_ok : WP.Ok ⟨⟨#[]⟩, [], none, 0⟩ := ⟨Nat.le_refl _, Nat.zero_le _, Nat.zero_le _, fun _ h => by simp at h⟩
theorem aw_writeno {w : World} {B : Nat} {t : TypeId} (h : Blk w B t [.string ⟨#[]⟩, .slice none 0 0]) : Calls Tryd.prog 14 #[.agg #[.slice (some ⟨B, 0, none⟩) 1 1, .slice none 0 0]] w fun e w' =>
    Ext w w' ∧ ∃ A c, e = .returned (.tuple #[.slice A 0 c, .int .i64 100]) := by
  refine (write_any ⟨[⟨⟨#[]⟩, [], none, 0⟩], []⟩ ⟨some ⟨B, 0, none⟩, 1, none, 0⟩ (fun x hx => by rw [List.mem_singleton.1 hx]; exact nil_ok) (fun x hx => by simp at hx) w ⟨one_seen h, SeenW.nil⟩ (by simp) (by simp)).mono ?_
  rintro e w' ⟨hx, A, c, rfl, _, _, s⟩
  exact ⟨hx, A, c, rfl⟩
theorem aw_checkno {w : World} {B : Nat} {t : TypeId} (h : Blk w B t [.string ⟨#[]⟩, .slice none 0 0]) : Calls Tryd.prog 16 #[.agg #[.slice none 0 0, .slice (some ⟨B, 0, none⟩) 1 1]] w (Ret w (.bool false)) := by
  have g := check_any ⟨[], [⟨⟨#[]⟩, [], none, 0⟩]⟩ ⟨none, 0, some ⟨B, 0, none⟩, 1⟩ (fun x hx => by simp at hx) (fun x hx => by rw [List.mem_singleton.1 hx]; exact nil_ok) w ⟨SeenW.nil, one_seen h⟩ (by simp) (by simp)
  exact g
theorem seen_ints4 {w : World} {B : Nat} {t : TypeId} {l : List Int} {cs : List Value} (h : Blk w B t cs) (e : cs = l.map (.int .i64)) : SeenF w (some ⟨B, 0, none⟩) l.length (fun j => l.getD j 0) := fun j hj =>
  ⟨_, rfl, h.lt, by
    rw [show (⟨B, 0, none⟩ : Addr).add j = ⟨B, j, none⟩ by cases j <;> simp [Addr.add], h.cell, e]; simp [hj]⟩
theorem aw_same {w : World} {A : Option Addr} {c B : Nat} {t : TypeId} {l : List Int} {cs : List Value} (n : Nat) (hn : n = l.length) (h : SeenL w A l) (k : Blk w B t cs) (e : cs = l.map (.int .i64)) (hl : l.length ≤ 1000000) :
    Calls Tryd.prog 18 #[.slice A n c, .slice (some ⟨B, 0, none⟩) n n] w (Ret w (.bool true)) := by
  subst hn
  have := L04.same_any A (some ⟨B, 0, none⟩) l.length l.length c l.length _ _ w h.fn (seen_ints4 k e) (by omega)
  rwa [sameB_list, decide_eq_true rfl] at this
end L10
end Go.Proofs.YtijhabhnhglhgaaDoor

