import Derived.Test.YtlfmmmgdilencaaJ16
/- Of a claim's texts, joined: Pid. No statement but in the last. -/
namespace Go.Proofs.Ytlfmmmgdilencaa
open Go.RowKit
set_option linter.unusedVariables false

theorem count_take {l : List Nat} {k x : Nat} (hk : k < l.length) : (l.take (k + 1)).count x = (l.take k).count x + if x = l[k] then 1 else 0 := by
  rw [count_more hk]
  by_cases h : l[k] = x
  · rw [if_pos h, if_pos h.symm]
  · rw [if_neg h, if_neg (Ne.symm h)]
theorem count_drop {l : List Nat} {k x : Nat} (hk : k < l.length) : (l.drop k).count x = (l.drop (k + 1)).count x + if x = l[k] then 1 else 0 := by
  rw [List.drop_eq_getElem_cons hk, List.count_cons]
  by_cases h : l[k] = x
  · simp [h]
  · simp [h, Ne.symm h]
theorem count_erase12 {L : List Nat} {v x : Nat} (h : v ∈ L) : (L.erase v).count x + (if x = v then 1 else 0) = L.count x := by
  have := (List.perm_cons_erase h).count_eq x
  rw [this, List.count_cons]
  by_cases h : x = v
  · subst h
    simp
  · simp [h, Ne.symm h]
theorem len_of_count {L l : List Nat} (h : ∀ x, L.count x = l.count x) : L.length = l.length := (List.perm_iff_count.2 h).length_eq
theorem sum_ind (D : List Nat) (y : Nat) : (D.map (fun x => if x = y then 1 else 0)).sum = D.count y := by
  induction D with
  | nil => rfl
  | cons a t ih =>
    rw [List.map_cons, List.sum_cons, ih, List.count_cons]
    by_cases h : a = y
    · simp [h]; omega
    · simp [h]
theorem sum_add (D : List Nat) (f g : Nat → Nat) : (D.map (fun x => f x + g x)).sum = (D.map f).sum + (D.map g).sum := by
  induction D with
  | nil => rfl
  | cons a t ih =>
    rw [List.map_cons, List.sum_cons, ih, List.map_cons, List.sum_cons, List.map_cons, List.sum_cons]
    omega
theorem sum_count {D : List Nat} (hn : D.Nodup) : ∀ (L : List Nat), (∀ x ∈ L, x ∈ D) → (D.map (fun x => L.count x)).sum = L.length
  | [], _ => by
    have : ∀ D : List Nat, (D.map (fun x => ([] : List Nat).count x)).sum = 0 := fun D => by
      induction D with
      | nil => rfl
      | cons a t ih => rw [List.map_cons, List.sum_cons, ih]; rfl
    exact this D
  | y :: t, h => by
    have e : (fun x => (y :: t).count x) = fun x => t.count x + if x = y then 1 else 0 := by
      funext x
      rw [List.count_cons]
      by_cases h : x = y
      · subst h
        simp
      · simp [h, Ne.symm h]
    rw [e, sum_add, sum_ind, sum_count hn t (fun x hx => h x (by simp [hx])), hn.count]
    rw [if_pos (h y (by simp)), List.length_cons]
theorem inc_nodup {l : List Nat} (h : incN l) : l.Nodup := List.Pairwise.imp (fun h => Nat.ne_of_lt h) h
def sumTo (L : List Nat) (k : Nat) : Nat := (((allN L).take k).map (fun x => L.count x)).sum
theorem sumTo_succ {L : List Nat} {k : Nat} (hk : k < (allN L).length) : sumTo L (k + 1) = sumTo L k + L.count (allN L)[k] := by
  unfold sumTo
  rw [List.take_succ_eq_append_getElem hk, List.map_append, List.sum_append]
  simp
theorem sumTo_all {L : List Nat} (h : srtN L) : sumTo L (allN L).length = L.length := by
  unfold sumTo
  rw [List.take_length]
  exact sum_count (inc_nodup (allN_inc h)) L (fun x hx => allN_mem.2 hx)
theorem sumTo_le {L : List Nat} (h : srtN L) (k : Nat) : sumTo L k ≤ L.length := by
  have h1 := sum_count (inc_nodup (allN_inc h)) L (fun x hx => allN_mem.2 hx)
  rw [← List.take_append_drop k (allN L), List.map_append, List.sum_append] at h1
  unfold sumTo
  omega
theorem old_least {L : List Nat} (h : srtN L) {x : Nat} (hx : x ∈ L) : (oldN L).1 ≤ x ∧ (oldN L).2 = true := by
  rcases L with _ | ⟨y, t⟩
  · cases hx
  · refine ⟨?_, rfl⟩
    rcases List.mem_cons.1 hx with e | e
    · exact Nat.le_of_eq e.symm
    · exact (List.pairwise_cons.1 h).1 x e
theorem old_some (L : List Nat) : (oldN L).2 = decide (0 < L.length) := by
  rcases L with _ | ⟨y, t⟩
  · rfl
  · simp [oldN]
end Go.Proofs.Ytlfmmmgdilencaa
