import Derived.Test.YtoelojlabmconaaJ00
import Derived.Laws.OwnMore
/- Of a claim's texts, joined: Latr. No statement but in the last. -/
namespace Go.Proofs.Ytoelojlabmconaa
open Go.RowKit
set_option linter.unusedVariables false

def u64V (x : Nat) : Value := .int .u64 (x : Int)
structure ArgU (w : World) (A : Option Addr) (n c : Nat) (l : List Nat) : Prop where
  len : n = l.length
  reads : Reads w A (l.map u64V)
  old : 0 < n → ∀ a, A = some a → a.block < w.heap.size
  room : n ≤ c
  most : c ≤ maxLen
  big : ∀ x ∈ l, x < 2 ^ 64
theorem ArgU.below {w w' : World} {A : Option Addr} {n c : Nat} {l : List Nat} (h : ArgU w A n c l) (hb : Below w.heap.size w w') : ArgU w' A n c l :=
  ⟨h.len, h.reads.below hb (fun hx => h.old (by rw [h.len]; simpa using hx)), fun hn a ha => Nat.lt_of_lt_of_le (h.old hn a ha) hb.size, h.room, h.most, h.big⟩
/-! Owned rows. -/
theorem below_own {B : Nat} {w0 w w' : World} {e : TypeId} {s n : Nat} {v : Value} {xs : List Value} (h : Below B w0 w) (hg : w.grownBy w' v.ownBlock) (ho : w.ownsRow B e s v n xs) (hB : B ≤ w.heap.size) : Below B w0 w' :=
  h.grown hg hB (fun k hk => (ho.lt k hk).1)
/-! Turned rows, and bounds. -/
def turnedN (up : List Nat) : List Nat := (List.range up.length).map fun i : Nat => downN up i
def TurnEnd (up : List Nat) (n : Nat) (w : World) (e : Ending) (w' : World) : Prop := ∃ A c, e = .returned (.slice A n c) ∧ ArgU w' A n c (turnedN up) ∧ Below w.heap.size w w'

end Go.Proofs.Ytoelojlabmconaa
