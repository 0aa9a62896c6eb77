import Derived.Test.YtglkmpglpddfdaaGreatDoorJ18
/- Of a claim's texts, joined: Sho. No statement but in the last. -/
namespace Go.Proofs.YtglkmpglpddfdaaGreatDoor
open Go.RowKit
set_option linter.unusedVariables false

def TextEnd (l : List UInt8) (w : World) (e : Ending) (w' : World) : Prop := e = .returned (.string ⟨l.toArray⟩) ∧ Below w.heap.size w w'
theorem fits_nat {up : List Nat} {g : G} (h : fitsG up g = true) : ∃ a f t : Nat, g = ⟨a, f, t⟩ ∧ a < up.length ∧ f < up.length ∧ t < up.length := by
  obtain ⟨⟨h1, h2⟩, ⟨h3, h4⟩, h5, h6⟩ := fitsG_in h
  exact ⟨g.a.toNat, g.f.toNat, g.t.toNat, by cases g; simp at *; omega, h2, h4, h6⟩
end Go.Proofs.YtglkmpglpddfdaaGreatDoor
