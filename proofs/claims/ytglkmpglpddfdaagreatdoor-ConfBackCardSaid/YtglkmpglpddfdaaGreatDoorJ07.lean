import Derived.Test.YtglkmpglpddfdaaGreatDoorJLatq
import Derived.Test.YtglkmpglpddfdaaGreatDoorJLatc
import Derived.Shelf.Spec.TrailingZeros
import Derived.Test.YtglkmpglpddfdaaGreatDoorJCor1
/- Of a claim's texts, joined: Ends Late Utfa. No statement but in the last. -/
section
namespace Go.Proofs.YtglkmpglpddfdaaGreatDoor
open Go.RowKit
set_option linter.unusedVariables false

def BoolEnd (b : Bool) (w : World) (e : Ending) (w' : World) : Prop := e = .returned (.bool b) ∧ Below w.heap.size w w'
def IntEnd (x : Int) (w : World) (e : Ending) (w' : World) : Prop := e = .returned (.int .i64 x) ∧ Below w.heap.size w w'
def U64End (x : Nat) (w : World) (e : Ending) (w' : World) : Prop := e = .returned (.int .u64 (x : Int)) ∧ Below w.heap.size w w'
def NumsEnd (l : List Nat) (w : World) (e : Ending) (w' : World) : Prop := ∃ A n c, e = .returned (.slice A n c) ∧ ArgU w' A n c l ∧ Below w.heap.size w w'
def IntsEnd (l : List Nat) (w : World) (e : Ending) (w' : World) : Prop := ∃ A c, e = .returned (.slice A l.length c) ∧ l.length ≤ c ∧ Reads w' A (l.map i64V) ∧ Below w.heap.size w w'
def PutEnd (l : List UInt8) (er : Int) (w : World) (e : Ending) (w' : World) : Prop :=
  ∃ A c, e = .returned (.tuple #[.slice A l.length c, .int .i64 er]) ∧ l.length ≤ c ∧ c ≤ maxLen ∧ Row w' 5 w.heap.size A (l.map byteV) ∧ Below w.heap.size w w'

end Go.Proofs.YtglkmpglpddfdaaGreatDoor
end

section
namespace Go.Proofs.YtglkmpglpddfdaaGreatDoor
open Go.RowKit Go.Shelf
set_option linter.unusedVariables false

def Base3 (w : World) : Prop := 3 < w.heap.size ∧ TabAt 3 Lib.deBruijn64tab w
theorem Base3.below {w w' : World} (h : Base3 w) (hb : Below w.heap.size w w') : Base3 w' :=
  ⟨Nat.lt_of_lt_of_le h.1 hb.size, fun j hj => (hb.cell (p := ⟨3, j, none⟩) h.1).trans (h.2 j hj)⟩

end Go.Proofs.YtglkmpglpddfdaaGreatDoor
end

section
namespace Go.Proofs.YtglkmpglpddfdaaGreatDoor
set_option linter.unusedVariables false

theorem getD_app (s t : List UInt8) (i : Nat) (h : i < s.length) : (s ++ t).getD i 0 = s.getD i 0 := by simp [List.getD, List.getElem?_append_left h]
theorem sizeN_cons {l : List UInt8} (h : l ≠ []) : sizeN l = takesN (decL l).1 + sizeN (l.drop (decL l).2) := by
  unfold sizeN
  rw [cut_cons h]
  simp
theorem sizeN_ge (l : List UInt8) : l.length ≤ sizeN l := by
  by_cases h : l = []
  · subst h; simp
  · have hw := decL_width l h
    have ih := sizeN_ge (l.drop (decL l).2)
    have ht := decL_takes l h
    rw [sizeN_cons h]
    rw [List.length_drop] at ih
    rcases ht with ⟨h1, h2⟩ | ⟨h1, _⟩
    · rw [h2] at ih
      rw [h1, h2]
      have : takesN 65533 = 3 := rfl
      omega
    · omega
termination_by l.length
decreasing_by
  have := decL_width l h
  rw [List.length_drop]
  omega
end Go.Proofs.YtglkmpglpddfdaaGreatDoor
end
