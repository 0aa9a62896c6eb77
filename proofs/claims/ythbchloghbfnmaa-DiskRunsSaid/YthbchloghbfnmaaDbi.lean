/- Package disk: a bit of a text: contract, no statement. -/
import Derived.Test.YthbchloghbfnmaaDsk
namespace Go.Proofs.Ythbchloghbfnmaa
open Go.RowKit
set_option linter.unusedVariables false

theorem quo8 (k : Nat) : ((k : Int).tdiv 8) = ((k / 8 : Nat) : Int) := by rw [Int.tdiv_eq_ediv_of_nonneg (by omega)]; omega
theorem rem8 (k : Nat) : ((k : Int).tmod 8) = ((k % 8 : Nat) : Int) := by rw [Int.tmod_eq_emod_of_nonneg (by omega)]; omega
theorem and1 : ∀ n : Nat, n < 256 → bits .and .u8 (n : Int) 1 = ((n % 2 : Nat) : Int) := by decide +kernel
theorem bit_eq {s : List UInt8} {k : Nat} (h : k / 8 < s.length) (h' : k / 8 < (⟨s.toArray⟩ : ByteArray).size) :
    (bits .and .u8 ((((⟨s.toArray⟩ : ByteArray)[k / 8]'h').toNat : Int) / 2 ^ (k % 8)) 1 == 1) = bitS s k := by
  have e : (⟨s.toArray⟩ : ByteArray)[k / 8]'h' = s[k / 8] := rfl
  rw [e]
  unfold bitS
  rw [show s.getD (k / 8) 0 = s[k / 8] by simp [List.getD, h]]
  have hb := s[k / 8].toNat_lt
  generalize s[k / 8].toNat = b at hb
  have e2 : ((b : Int) / 2 ^ (k % 8)) = ((b / 2 ^ (k % 8) : Nat) : Int) := by norm_cast
  rw [e2, and1 _ (Nat.lt_of_le_of_lt (Nat.div_le_self _ _) hb)]
  generalize b / 2 ^ (k % 8) % 2 = m
  rw [Bool.eq_iff_iff]
  simp
  omega
theorem bit_no {s : List UInt8} {k : Nat} (h : ¬ k / 8 < s.length) : bitS s k = false := by
  unfold bitS
  rw [show s.getD (k / 8) 0 = 0 by simp [List.getD, List.getElem?_eq_none (Nat.le_of_not_lt h)]]
  simp
theorem ret_b {a b : Bool} (h : a = b) : Ending.returned (.bool a) = .returned (.bool b) := by rw [h]
set_option maxRecDepth 100000 in
theorem isSet_any (s : List UInt8) (k : Nat) (w : World) (hs : s.length ≤ 9223372036854775807) (hk : k ≤ 1000000) : Calls Try.prog 43 #[.string ⟨s.toArray⟩, .int .i64 (k : Int)] w fun e w' => e = .returned (.bool (bitS s k)) ∧ w = w' := by
  have q8 := quo8 k
  have r8 := rem8 k
  by_cases h : k / 8 < s.length
  · have e1 : decide (((k / 8 : Nat) : Int) < (s.length : Int)) = true := by simp; omega
    go_enter Try.func43, Try.ntmps43
    go_wp2
    go_ret
    exact ⟨ret_b (bit_eq h _), rfl⟩
  · have e1 : decide (((k / 8 : Nat) : Int) < (s.length : Int)) = false := by simp; omega
    go_enter Try.func43, Try.ntmps43
    go_wp2
    go_ret
    exact ⟨ret_b (bit_no h).symm, rfl⟩

end Go.Proofs.Ythbchloghbfnmaa
