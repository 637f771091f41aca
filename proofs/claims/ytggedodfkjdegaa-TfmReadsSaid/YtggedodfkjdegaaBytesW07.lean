/- A font's bytes, as a list: the plain facts of layer 7. -/
import Derived.Test.YtggedodfkjdegaaPackGen
import Derived.Test.YtggedodfkjdegaaFont07
namespace Go.Proofs.Ytggedodfkjdegaa
open Go.RowKit
namespace L07
open L06

/-- byte(x). -/
def b8 (x : Int) : UInt8 := UInt8.ofNat (x % 256).toNat
theorem b8_int (x : Int) : ((b8 x).toNat : Int) = x % 256 := by
  have : 0 ≤ x % 256 := Int.emod_nonneg _ (by decide)
  unfold b8
  simp
  omega
/-- What is put for each of the first n, one behind the other. -/
def catB (g : Nat → List UInt8) : Nat → List UInt8
  | 0 => []
  | n + 1 => catB g n ++ g n
theorem catB_length {g : Nat → List UInt8} {k : Nat} (h : ∀ j, (g j).length = k) : ∀ n, (catB g n).length = k * n
  | 0 => rfl
  | n + 1 => by rw [catB, List.length_append, catB_length h n, h n, Nat.mul_succ]
/-- Four bytes; two. -/
def fourW (n : Int) : List UInt8 := be (if n < 0 then n + 4294967296 else n).toNat 4
theorem fourW_length (n : Int) : (fourW n).length = 4 := be_length _ _
def twoW (n : Int) : List UInt8 := [b8 (n / 256), b8 n]
theorem twoW_length (n : Int) : (twoW n).length = 2 := rfl
def allW (f : Nat → Int) (n : Nat) : List UInt8 := catB (fun j => fourW (f j)) n
theorem allW_length (f : Nat → Int) (n : Nat) : (allW f n).length = 4 * n := catB_length (fun _ => fourW_length _) n
def chrW (D : FontD) (j : Nat) : List UInt8 := [b8 (D.chr j 0), b8 (16 * D.chr j 1 + D.chr j 2), b8 (4 * D.chr j 3 + D.chr j 4), b8 (D.chr j 5)]
def stpW (D : FontD) (j : Nat) : List UInt8 := [b8 (D.stp j 0), b8 (D.stp j 1), b8 (D.stp j 2), b8 (D.stp j 3)]
def bodyW (D : FontD) : List UInt8 :=
  fourW D.sum ++ (fourW D.design ++ (catB (chrW D) D.nc ++ (allW D.wd D.nw ++ (allW D.hd D.nh ++ (allW D.dd D.nd ++ (allW D.id D.ni ++ (catB (stpW D) D.ns ++ (allW D.kd D.nk ++ allW D.pd D.np))))))))
theorem bodyW_length (D : FontD) : (bodyW D).length = 4 * (2 + D.nc + D.nw + D.nh + D.nd + D.ni + D.ns + D.nk + D.np) := by
  simp only [bodyW, List.length_append, fourW_length, allW_length, catB_length (k := 4) (g := chrW D) (fun _ => rfl), catB_length (k := 4) (g := stpW D) (fun _ => rfl)]
  omega
/-- The twelve numbers. -/
def headN (D : FontD) (j : Nat) : Int :=
  match j with
  | 0 => 6 + (2 + D.nc + D.nw + D.nh + D.nd + D.ni + D.ns + D.nk + D.np : Nat)
  | 1 => 2
  | 2 => D.first
  | 3 => D.first + D.nc - 1
  | 4 => D.nw
  | 5 => D.nh
  | 6 => D.nd
  | 7 => D.ni
  | 8 => D.ns
  | 9 => D.nk
  | 10 => 0
  | _ => D.np
def writeB (D : FontD) : List UInt8 := catB (fun j => twoW (headN D j)) 12 ++ bodyW D
end L07
end Go.Proofs.Ytggedodfkjdegaa

