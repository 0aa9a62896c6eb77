/- The document's Put and Get of layer 3: contracts, no statement. -/
import Derived.Test.YtbgpjboefnacgaaLatq
import Derived.Test.YtbgpjboefnacgaaReft
namespace Go.Proofs.Ytbgpjboefnacgaa
open Go.RowKit
set_option linter.unusedVariables false

/-- The bytes of rows. -/
def putB (up : List Nat) : List UInt8 := numB up.length 1 ++ (up.map fun x => numB x 8).flatten
noncomputable def putR (up : List Nat) : List UInt8 × Int := if checkB up then (putB up, 0) else ([], 1)
theorem putB_len (up : List Nat) : (putB up).length = 8 * up.length + 1 := by
  have h : ∀ l : List Nat, ((l.map fun x => numB x 8).flatten).length = 8 * l.length := by
    intro l
    induction l with
    | nil => rfl
    | cons x l ih => simp [numB_len, ih]; omega
  unfold putB
  rw [List.length_append, numB_len, h]
  omega
theorem flat_more (up : List Nat) (k : Nat) (h : k < up.length) : ((up.take (k + 1)).map fun x => numB x 8).flatten = ((up.take k).map fun x => numB x 8).flatten ++ numB up[k] 8 := by
  rw [List.take_succ_eq_append_getElem h, List.map_append, List.flatten_append]
  rw [List.map_cons, List.map_nil, List.flatten_cons, List.flatten_nil, List.append_nil]
theorem str_app2 (a b : List UInt8) : (⟨a.toArray⟩ : ByteArray) ++ ⟨b.toArray⟩ = ⟨(a ++ b).toArray⟩ := by
  apply ByteArray.ext
  simp
theorem str_val {a b : ByteArray} (h : a = b) : Value.string a = .string b := by rw [h]
theorem flat_len (l : List Nat) : ((l.map fun x => numB x 8).flatten).length = 8 * l.length := by
  induction l with
  | nil => rfl
  | cons x l ih => simp [numB_len, ih]; omega


/-! Get. -/
/-- So many numbers of eight bytes, taken one by one. -/
def takeU : Nat → List UInt8 → Int → List Nat × List UInt8 × Int
  | 0, l, e => ([], l, e)
  | k + 1, l, e => ((takeU k l e).1 ++ [(stN (takeU k l e).2.1 (takeU k l e).2.2 8).1], (stN (takeU k l e).2.1 (takeU k l e).2.2 8).2.1, (stN (takeU k l e).2.1 (takeU k l e).2.2 8).2.2)
noncomputable def getR (l : List UInt8) : List Nat × Int :=
  if (takeU (stN l 0 1).1 (stN l 0 1).2.1 (stN l 0 1).2.2).2.2 ≠ 0 then ([], (takeU (stN l 0 1).1 (stN l 0 1).2.1 (stN l 0 1).2.2).2.2)
  else if checkB (takeU (stN l 0 1).1 (stN l 0 1).2.1 (stN l 0 1).2.2).1 = true ∧ (takeU (stN l 0 1).1 (stN l 0 1).2.1 (stN l 0 1).2.2).2.1 = [] then ((takeU (stN l 0 1).1 (stN l 0 1).2.1 (stN l 0 1).2.2).1, 0) else ([], 11)
theorem takeU_len (k : Nat) (l : List UInt8) (e : Int) : (takeU k l e).1.length = k := by
  induction k with
  | zero => rfl
  | succ k ih => unfold takeU; simp [ih]
theorem stN_lt8 (l : List UInt8) (er : Int) : (stN l er 8).1 < 2 ^ 64 := by
  unfold stN
  split
  · simp
  · split
    · simp
    · split
      · simp
      · have := numOf_take_lt l 8 8 (Nat.le_refl _)
        simp only [show (8 : Int).toNat = 8 from rfl] at this ⊢
        omega
theorem takeU_big (k : Nat) (l : List UInt8) (e : Int) : ∀ x ∈ (takeU k l e).1, x < 2 ^ 64 := by
  induction k with
  | zero => intro x hx; cases hx
  | succ k ih =>
    intro x hx
    unfold takeU at hx
    rcases List.mem_append.1 hx with h | h
    · exact ih x h
    · simp at h
      rw [h]
      exact stN_lt8 _ _
theorem takeU_rest (k : Nat) (l : List UInt8) (e : Int) : (takeU k l e).2.1.length ≤ l.length := by
  induction k with
  | zero => exact Nat.le_refl _
  | succ k ih => unfold takeU; exact Nat.le_trans (stN_len _ _ _) ih
theorem own_notQ {w : World} {b Q : Nat} {e t : TypeId} {s n : Nat} {v : Value} {xs : List Value} {cs : Array Value} (h : w.ownsRow b e s v n xs) (hQ : Has w Q t cs) (hne : e ≠ t) : v.ownBlock ≠ some Q := by
  rcases h.2 with ⟨rfl, _⟩ | ⟨g, cap, cur, rfl, _, hg, _⟩
  · simp [Value.ownBlock]
  · simp only [Value.ownBlock]
    intro he
    injection he with he
    exact Has.apart (w := w) (g := g) (t := e) (cs := cur) hg hQ hne he
def GetEnd (l : List Nat) (er : Int) (w : World) (e : Ending) (w' : World) : Prop := ∃ A n c, e = .returned (.tuple #[.slice A n c, .int .i64 er]) ∧ ArgU w' A n c l ∧ Below w.heap.size w w'
theorem argU_nil (w : World) : ArgU w none 0 0 [] := ⟨rfl, Reads.empty, fun h => absurd h (by omega), Nat.le_refl _, Nat.zero_le _, fun x hx => by cases hx⟩


end Go.Proofs.Ytbgpjboefnacgaa
