/- What is put of grants is got. Plain mathematics. -/
import Derived.Test.YtbgpjboefnacgaaGra
namespace Go.Proofs.Ytbgpjboefnacgaa
open Go.RowKit
set_option linter.unusedVariables false

def inB (g : G) : Prop := (0 ≤ g.a ∧ g.a ≤ 255) ∧ (0 ≤ g.f ∧ g.f ≤ 255) ∧ (0 ≤ g.t ∧ g.t ≤ 255)
theorem byteI_int (a : Int) (h : 0 ≤ a ∧ a ≤ 255) : ((byteI a).toNat : Int) = a := by
  unfold byteI
  rw [UInt8.toNat_ofNat']
  omega
theorem stN_c1 (c : UInt8) (r : List UInt8) : stN (c :: r) 0 1 = (c.toNat, r, 0) := by
  unfold stN
  rw [if_neg (by simp), if_neg (by omega), if_neg (by simp; omega)]
  simp [numOf]
theorem stN_none : stN [] 0 1 = (0, [], 10) := by
  unfold stN
  simp
theorem stN_e (l : List UInt8) (er : Int) (h : er ≠ 0) : stN l er 1 = (0, l, er) := by unfold stN; rw [if_pos h]
theorem takeG_put (l : List G) (hb : ∀ g ∈ l, inB g) (r : List UInt8) (k : Nat) (hk : k ≤ l.length) : takeG k (bytesG l ++ r) 0 = (l.take k, bytesG (l.drop k) ++ r, 0) := by
  induction k with
  | zero => simp [takeG]
  | succ k ih =>
    have hkl : k < l.length := by omega
    have hg := hb l[k] (List.getElem_mem hkl)
    have e : bytesG (l.drop k) = byteI l[k].a :: byteI l[k].f :: byteI l[k].t :: bytesG (l.drop (k + 1)) := by
      unfold bytesG
      rw [List.drop_eq_getElem_cons hkl, List.flatMap_cons]
      rfl
    unfold takeG
    rw [ih (by omega), e]
    simp only [List.cons_append, stN_c1, byteI_int _ hg.1, byteI_int _ hg.2.1, byteI_int _ hg.2.2]
    rw [List.take_succ_eq_append_getElem hkl]
theorem putG_small (l : List G) (h : l.length ≤ 64) : putG l = UInt8.ofNat l.length :: bytesG l := by
  unfold putG
  rw [List.take_of_length_le (by omega)]
  have e : numB l.length 1 = [UInt8.ofNat (l.length / 256 ^ 0)] := rfl
  rw [e]
  simp
theorem len_byte (n : Nat) (h : n ≤ 64) : (UInt8.ofNat n).toNat = n := by rw [UInt8.toNat_ofNat']; omega
theorem get_put (l : List G) (h : l.length ≤ 64) (hb : ∀ g ∈ l, inB g) : getG4 (putG l) = (l, 0) := by
  have ht := takeG_put l hb [] l.length (Nat.le_refl _)
  simp only [List.append_nil, List.take_length, List.drop_length] at ht
  unfold getG4
  rw [putG_small l h, stN_c1, len_byte _ h]
  simp only [ht]
  simp [bytesG]
  omega
theorem get_more (l : List G) (h : l.length ≤ 64) (hb : ∀ g ∈ l, inB g) : getG4 (putG l ++ [0]) = ([], 11) := by
  have ht := takeG_put l hb [0] l.length (Nat.le_refl _)
  simp only [List.take_length, List.drop_length] at ht
  unfold getG4
  rw [putG_small l h, List.cons_append, stN_c1, len_byte _ h]
  simp only [ht]
  simp [bytesG]
theorem get_less (l : List G) (h : l.length ≤ 64) (hb : ∀ g ∈ l, inB g) : getG4 ((putG l).take ((putG l).length - 1)) = ([], 10) := by
  rw [putG_small l h]
  rcases List.eq_nil_or_concat l with rfl | ⟨q, g, rfl⟩
  · simp [bytesG, getG4, stN_none, takeG]
  · have hq : ∀ g ∈ q, inB g := fun x hx => hb x (by simp [hx])
    have hg := hb g (by simp)
    have e : (UInt8.ofNat (q ++ [g]).length :: bytesG (q ++ [g])).take ((UInt8.ofNat (q ++ [g]).length :: bytesG (q ++ [g])).length - 1) = UInt8.ofNat (q ++ [g]).length :: (bytesG q ++ [byteI g.a, byteI g.f]) := by
      have e1 : bytesG (q ++ [g]) = (bytesG q ++ [byteI g.a, byteI g.f]) ++ [byteI g.t] := by simp [bytesG]
      rw [e1, ← List.cons_append]
      generalize UInt8.ofNat (q ++ [g]).length :: (bytesG q ++ [byteI g.a, byteI g.f]) = z
      rw [List.length_append, List.length_singleton, Nat.add_sub_cancel, List.take_left']
      rfl
    have ht := takeG_put q hq [byteI g.a, byteI g.f] q.length (Nat.le_refl _)
    simp only [List.take_length, List.drop_length] at ht
    have hs : takeG (q ++ [g]).length (bytesG q ++ [byteI g.a, byteI g.f]) 0 = (q ++ [⟨g.a, g.f, 0⟩], [], 10) := by
      rw [List.length_append, List.length_singleton]
      unfold takeG
      simp only [ht]
      simp [bytesG, stN_c1, stN_none, byteI_int _ hg.1, byteI_int _ hg.2.1]
    rw [List.concat_eq_append] at *
    unfold getG4
    rw [e, stN_c1, len_byte _ (by simpa using h)]
    simp only [hs]
    simp

end Go.Proofs.Ytbgpjboefnacgaa
