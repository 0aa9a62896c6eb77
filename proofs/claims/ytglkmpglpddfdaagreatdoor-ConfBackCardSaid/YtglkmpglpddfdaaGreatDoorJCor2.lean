import Derived.Test.YtglkmpglpddfdaaGreatDoorJCor1
/- Of a claim's texts, joined: Cor2. No statement but in the last. -/
namespace Go.Proofs.YtglkmpglpddfdaaGreatDoor
open Go.RowKit
set_option linter.unusedVariables false

def labelT : List UInt8 := [108, 97, 98, 101, 108]
def underT : List UInt8 := [117, 110, 100, 101, 114]
def grantT : List UInt8 := [103, 114, 97, 110, 116]
def manyN (s : List UInt8) : Nat := if s = labelT ∨ s = underT then 3 else if s = grantT then 4 else 0
/-! Decimal digits. -/
def digN (n : Nat) : List UInt8 := if h : n = 0 then [] else digN (n / 10) ++ [UInt8.ofNat (48 + n % 10)]
termination_by n
decreasing_by omega
theorem digN_zero : digN 0 = [] := by rw [digN]; simp
theorem digN_pos {n : Nat} (h : 0 < n) : digN n = digN (n / 10) ++ [UInt8.ofNat (48 + n % 10)] := by
  rw [digN]
  have : n ≠ 0 := by omega
  simp [this]
/-! Numbers. -/
def digB (b : UInt8) : Bool := decide (48 ≤ b.toNat ∧ b.toNat ≤ 57)
def valN (l : List UInt8) : Nat := l.foldl (fun n b => n * 10 + (b.toNat - 48)) 0
def quotaN (l : List UInt8) : Int := if l.all digB = true ∧ 1 ≤ l.length ∧ l.length ≤ 4 ∧ 4 ≤ valN l ∧ valN l ≤ 1000 then (valN l : Int) else -1
end Go.Proofs.YtglkmpglpddfdaaGreatDoor
