/- Words for slices of bytes and strings in this seat's own numbers: no statement. -/
import Derived.Test.YtnidommmnmpdlaaRows
import Derived.Test.YtnidommmnmpdlaaKit
import Derived.LoopTactic
import Derived.Outline
import Derived.WalkSpells
import Derived.WalkLawsBesides
import Derived.KernelRfl
namespace Go.Proofs.Ytnidommmnmpdlaa
open Go.RowKit
set_option linter.unusedVariables false

/-- A slice of bytes of its own: the world w' is w but for new blocks, from W on, and v is a slice there that holds l. -/
def Fresh (W : Nat) (l : List UInt8) (w : World) (e : Ending) (w' : World) : Prop :=
  ∃ A c, e = .returned (.slice A l.length c) ∧ l.length ≤ c ∧ c ≤ maxLen ∧ Row w' 5 W A (l.map byteV) ∧ Below W w w'
theorem u8info : (Try.prog.info? 5).map (fun i => (i.zero, i.size, i.bytes)) = some (some (.int .u8 0), 1, 1) := by kernel_rfl
theorem own_new (w : World) : (w.alloc (.cells #[] 5)).ownsRow w.heap.size 5 1 (.slice (some ⟨w.heap.size, 0, none⟩) 0 0) 0 [] := World.ownsRow_made w #[] 0 (Nat.le_refl _) (by decide) rfl
theorem own_slice {w : World} {B : Nat} {v : Value} {n : Nat} {xs : List Value} (h : w.ownsRow B 5 1 v n xs) : ∃ A c, v = .slice A n c ∧ n ≤ c ∧ c ≤ maxLen := by
  rcases h.2 with ⟨rfl, rfl⟩ | ⟨g, cap, cur, rfl, _, _, h1, h2, _⟩
  · exact ⟨none, 0, rfl, Nat.le_refl _, Nat.zero_le _⟩
  · exact ⟨_, cap, rfl, h1, h2⟩
/-- What an append leaves, as 'Fresh' has it. -/
theorem fresh_of {W : Nat} {w w1 w' : World} {v : Value} {l : List UInt8} (hown : w'.ownsRow W 5 1 v l.length (l.map byteV)) (hb : Below W w w1) (hg : w1.grownBy w' (some W)) (hW : W ≤ w1.heap.size) : Fresh W l w (.returned v) w' := by
  obtain ⟨A, c, rfl, h1, h2⟩ := own_slice hown
  exact ⟨A, c, rfl, h1, h2, Row.of_own hown, hb.trans (below_only hg (Nat.le_refl _) hW)⟩
theorem row_made (w : World) (l : List UInt8) : Row (w.alloc (.cells (l.map byteV).toArray 5)) 5 w.heap.size (some ⟨w.heap.size, 0, none⟩) (l.map byteV) := fun _ =>
  ⟨w.heap.size, 0, _, rfl, Nat.le_refl _, Has.made w 5 _, fun j u hj => by simpa using hj⟩
theorem u64_eq {a b : Int} (h : a = b) : Value.int .u64 a = .int .u64 b := by rw [h]
theorem str_eq2 {a b : ByteArray} (h : a = b) : Value.string a = .string b := by rw [h]
theorem ret_str {a b : ByteArray} (h : a = b) : Ending.returned (.string a) = .returned (.string b) := by rw [h]
theorem str_cons (c : UInt8) (l : List UInt8) : (⟨#[c]⟩ : ByteArray) ++ ⟨l.toArray⟩ = ⟨(c :: l).toArray⟩ := by
  apply ByteArray.ext
  simp
theorem ret_u64 {a b : Int} (h : a = b) : Ending.returned (.int .u64 a) = .returned (.int .u64 b) := by rw [h]
theorem take_more {l : List UInt8} {k : Nat} {c : UInt8} (h : l[k]? = some c) : l.take (k + 1) = l.take k ++ [c] := by
  obtain ⟨hk, hc⟩ := List.getElem?_eq_some_iff.1 h
  rw [List.take_succ_eq_append_getElem hk, hc]

end Go.Proofs.Ytnidommmnmpdlaa
