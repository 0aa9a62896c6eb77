import Derived.Test.YtglkmpglpddfdaaGreatDoorJCor3
import Derived.Deep.AppendLies
import Derived.Deep.RegionWith
import Derived.Deep.RegionHeld
import Derived.StillTailTactics
/- Of a claim's texts, joined: Cor4. No statement but in the last. -/
namespace Go.Proofs.YtglkmpglpddfdaaGreatDoor
open Go.RowKit
set_option linter.unusedVariables false

abbrev Wd := List UInt8 × Nat
def addLast (out : List Wd) (b : List UInt8) : List Wd := out.dropLast ++ (out.getLast?.toList.map fun x => (x.1 ++ b, x.2))
theorem addLast_snoc (pre : List Wd) (t : List UInt8) (p : Nat) (b : List UInt8) : addLast (pre ++ [(t, p)]) b = pre ++ [(t ++ b, p)] := by simp [addLast]
def wordsM : List (Nat × List UInt8) → Nat → Nat → Bool → List Wd → List Wd × Nat
  | [], _, en, _, out => (out, en)
  | x :: t, at_, en, inn, out =>
    if x.1 = 35 then (out, en)
    else if x.1 = 32 ∨ x.1 = 9 then wordsM t (at_ + 1) en false out
    else wordsM t (at_ + 1) (at_ + 2) true (addLast (if inn then out else out ++ [([], at_ + 1)]) x.2)
def wordsN (l : List UInt8) : List Wd × Nat := wordsM (cut l) 0 1 false []
def wC (x : Wd) : List Value := [.string ⟨x.1.toArray⟩, .int .i64 (x.2 : Int)]
def cellsW (l : List Wd) : List Value := l.flatMap wC
structure ArgW (w : World) (A : Option Addr) (n c : Nat) (l : List Wd) : Prop where
  len : n = l.length
  reads : Reads w A (cellsW l)
  old : 0 < n → ∀ a, A = some a → a.block < w.heap.size
  room : n ≤ c
  most : c ≤ maxLen
theorem ArgW.below {w w' : World} {A : Option Addr} {n c : Nat} {l : List Wd} (h : ArgW w A n c l) (hb : Below w.heap.size w w') : ArgW w' A n c l :=
  ⟨h.len, h.reads.keep_ hb, fun hn a ha => Nat.lt_of_lt_of_le (h.old hn a ha) hb.size, h.room, h.most⟩
theorem only_iter (w : World) (k : Nat) (s : ByteArray) (p : Nat) : w.grownBy (w.iterAt k s p) (some k) :=
  ⟨rfl, rfl, rfl, by simp [World.iterAt], fun i hi hn => by
    have : k ≠ i := fun e => hn (by rw [e])
    simp [World.iterAt, this]⟩
theorem own_iter {w : World} {B k n : Nat} {v : Value} {e : TypeId} {z : Nat} {xs : List Value} (h : w.ownsRow B e z v n xs) (hk : k < B) (s : ByteArray) (p : Nat) : (w.iterAt k s p).ownsRow B e z v n xs :=
  h.kept (only_iter w k s p) (by
    rcases hb : v.ownBlock with _ | g
    · exact .inl rfl
    · right
      intro e
      injection e with e
      have := (h.lt g hb).1
      omega)
theorem iter_grown {w w' : World} {k : Nat} {s : ByteArray} {p : Nat} {row : Option Nat} (h : w.heap[k]? = some (.stringIter s p)) (hg : w.grownBy w' row) (hr : row ≠ some k) : w'.heap[k]? = some (.stringIter s p) := by
  rw [hg.block k (Array.getElem?_eq_some_iff.1 h).1 (fun e => hr e.symm)]
  exact h
theorem iter_alloc {w : World} {k : Nat} {s : ByteArray} {p : Nat} (h : w.heap[k]? = some (.stringIter s p)) (o : Obj) : (w.alloc o).heap[k]? = some (.stringIter s p) :=
  (Below.heap_alloc w o k (Array.getElem?_eq_some_iff.1 h).1).trans h
theorem own_notK {w : World} {B k n : Nat} {v : Value} {e : TypeId} {z : Nat} {xs : List Value} (h : w.ownsRow B e z v n xs) (hk : k < B) : v.ownBlock ≠ some k := by
  intro e
  have := (h.lt k e).1
  omega
theorem own_low {w : World} {B B' n : Nat} {v : Value} {e : TypeId} {z : Nat} {xs : List Value} (h : w.ownsRow B e z v n xs) (hb : B' ≤ B) : w.ownsRow B' e z v n xs := by
  refine ⟨h.1, ?_⟩
  rcases h.2 with h | ⟨g, cap, cur, hv, hB, r⟩
  · exact .inl h
  · exact .inr ⟨g, cap, cur, hv, Nat.le_trans hb hB, r⟩
theorem str_app (a b : List UInt8) : (⟨a.toArray⟩ : ByteArray) ++ ⟨b.toArray⟩ = ⟨(a ++ b).toArray⟩ := by
  apply ByteArray.ext
  simp
def WordsEnd (l : List Wd) (en : Nat) (w : World) (e : Ending) (w' : World) : Prop := ∃ A n c, e = .returned (.tuple #[.slice A n c, .int .i64 (en : Int)]) ∧ ArgW w' A n c l ∧ Below w.heap.size w w' ∧ w'.ownsRow w.heap.size 97 2 (.slice A n c) n (cellsW l)

end Go.Proofs.YtglkmpglpddfdaaGreatDoor
