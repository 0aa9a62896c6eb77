/- Lists of bytes: what is put is taken. Plain mathematics, no program. -/
import Derived.Test.YtcobakgiahkeaaaOcn
namespace Go.Proofs.Ytcobakgiahkeaaa
open Go.RowKit
set_option linter.unusedVariables false

theorem foldl_num (l : List UInt8) : ∀ x : Nat, l.foldl (fun x c => x * 256 + c.toNat) x = x * 256 ^ l.length + numOf l := by
  unfold numOf
  induction l with
  | nil => intro x; simp
  | cons c l ih =>
    intro x
    rw [List.foldl_cons, List.foldl_cons, ih, ih (0 * 256 + c.toNat), List.length_cons, Nat.pow_succ]
    simp only [Nat.zero_mul, Nat.zero_add, Nat.add_mul]
    rw [Nat.mul_comm (256 ^ l.length) 256, Nat.mul_assoc, Nat.add_assoc]
theorem numOf_cons (c : UInt8) (l : List UInt8) : numOf (c :: l) = c.toNat * 256 ^ l.length + numOf l := by
  have h := foldl_num (c :: l) 0
  have h2 := foldl_num l (0 * 256 + c.toNat)
  unfold numOf at *
  rw [List.foldl_cons, h2]
  simp
theorem numB_succ' (x k : Nat) : numB x (k + 1) = UInt8.ofNat (x / 256 ^ k) :: numB x k := by
  apply List.ext_getElem?
  intro j
  rcases j with _ | j
  · rw [numB_at _ _ _ (by omega)]; simp
  · by_cases hj : j < k
    · rw [numB_at _ _ _ (by omega), List.getElem?_cons_succ, numB_at _ _ _ hj]
      have : k + 1 - 1 - (j + 1) = k - 1 - j := by omega
      rw [this]
    · rw [List.getElem?_eq_none (by rw [numB_len]; omega), List.getElem?_eq_none (by simp [numB_len]; omega)]
theorem numOf_numB (x n : Nat) : numOf (numB x n) = x % 256 ^ n := by
  induction n with
  | zero => simp [numB, numOf, Nat.mod_one]
  | succ n ih =>
    rw [numB_succ', numOf_cons, ih, numB_len, Nat.pow_succ, Nat.mod_mul]
    simp
    rw [Nat.mul_comm, Nat.add_comm]

/-- A number that fits, and what stands behind it. -/
theorem stN_put (x n : Nat) (r : List UInt8) (h1 : 1 ≤ n) (h8 : n ≤ 8) (hx : x < 256 ^ n) : stN (numB x n ++ r) 0 (n : Int) = (x, r, 0) := by
  have h2 : ¬ ((n : Int) < 1 ∨ 8 < (n : Int)) := by omega
  have h3 : ¬ (((numB x n ++ r).length : Nat) : Int) < (n : Int) := by simp [numB_len]; omega
  unfold stN
  rw [if_neg (by simp), if_neg h2, if_neg h3, Int.toNat_natCast]
  have ht : (numB x n ++ r).take n = numB x n := by rw [List.take_append_of_le_length (by rw [numB_len]; omega), List.take_of_length_le (by rw [numB_len]; omega)]
  have hd : (numB x n ++ r).drop n = r := by
    have := List.drop_left (l₁ := numB x n) (l₂ := r)
    rwa [numB_len] at this
  rw [ht, hd, numOf_numB, Nat.mod_eq_of_lt hx]

/-- A text's bytes. -/
def textS (t : List UInt8) : List UInt8 := UInt8.ofNat t.length :: t
theorem stN_len1 (c : UInt8) (r : List UInt8) : stN (c :: r) 0 1 = (c.toNat, r, 0) := by
  unfold stN
  rw [if_neg (by simp), if_neg (by omega), if_neg (by simp; omega)]
  simp [numOf]
theorem ofNat_toNat (n : Nat) (h : n ≤ 255) : (UInt8.ofNat n).toNat = n := by simp; omega
theorem stT_put (t : List UInt8) (h : t.length ≤ 255) : stT (textS t) 0 = (t, [], 0) := by
  unfold stT textS
  rw [stN_len1]
  simp only [ofNat_toNat _ h]
  simp [stS]
/-- One byte less: something went wrong. -/
theorem stT_cut (t : List UInt8) (h : t.length ≤ 255) : (stT (textS t).dropLast 0).2.2 = 10 := by
  unfold stT textS
  rcases t with _ | ⟨c, t⟩
  · simp [stN, stS]
  · rw [List.dropLast_cons_of_ne_nil (by simp), stN_len1]
    simp only [ofNat_toNat _ h]
    unfold stS
    rw [if_neg (by simp), if_pos (by simp)]

/-- Numbers, one behind the other. -/
def enc (ps : List (Nat × Nat)) : List UInt8 := ps.flatMap fun p => numB p.1 p.2
theorem enc_take (ps : List (Nat × Nat)) (i x n : Nat) (h : ps[i]? = some (x, n)) : enc (ps.take (i + 1)) = enc (ps.take i) ++ numB x n := by
  obtain ⟨hi, hv⟩ := List.getElem?_eq_some_iff.1 h
  rw [List.take_succ_eq_append_getElem hi, hv]
  simp [enc]
theorem enc_drop (ps : List (Nat × Nat)) (i x n : Nat) (h : ps[i]? = some (x, n)) : enc (ps.drop i) = numB x n ++ enc (ps.drop (i + 1)) := by
  obtain ⟨hi, hv⟩ := List.getElem?_eq_some_iff.1 h
  rw [List.drop_eq_getElem_cons hi, hv]
  simp [enc]
theorem enc_len (ps : List (Nat × Nat)) (h : ∀ p ∈ ps, p.2 ≤ 8) : (enc ps).length ≤ ps.length * 8 := by
  induction ps with
  | nil => simp [enc]
  | cons p ps ih =>
    have h1 := h p (List.mem_cons_self ..)
    have h2 := ih fun q hq => h q (List.mem_cons_of_mem _ hq)
    have : enc (p :: ps) = numB p.1 p.2 ++ enc ps := rfl
    rw [this, List.length_append, numB_len, List.length_cons]
    omega

end Go.Proofs.Ytcobakgiahkeaaa
