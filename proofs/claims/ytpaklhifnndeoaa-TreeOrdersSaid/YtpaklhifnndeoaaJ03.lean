import Derived.Test.YtpaklhifnndeoaaJ02
import Derived.Test.YtpaklhifnndeoaaJ01
import Derived.Test.YtpaklhifnndeoaaJ00
import Derived.Deep.Onto
/- Of a claim's texts, joined: Trq Trs Trt Trw Trf Trg. No statement but in the last. -/
section
namespace Go.Proofs.Ytpaklhifnndeoaa
open Go.RowKit
set_option linter.unusedVariables false

def okLf (x : Lf) : Prop := 1 ≤ x.k.length ∧ x.k.length ≤ 16 ∧ x.d.length ≤ 400 ∧ (x.pg ≠ [] → 16 < x.d.length)
theorem okLf_size {x : Lf} (h : okLf x) : 4 ≤ sizeL x ∧ sizeL x ≤ 35 := by
  obtain ⟨h1, h2, h3, h4⟩ := h
  unfold sizeL
  split <;> omega
theorem okLf_size' {x : Lf} (h : okLf x) : 0 ≤ sizeL x ∧ sizeL x ≤ 35 := by
  have := okLf_size h
  omega
def sumT (t : Tr) : Int := sumZ (sizesT t)
inductive FitT : Nat → Tr → Prop where
  | leaf (p : Int) (l : List Lf) (h : ∀ x ∈ l, okLf x) (h1 : 30 ≤ sumT (.leaf p l)) (h2 : sumT (.leaf p l) ≤ 122) : FitT 0 (.leaf p l)
  | branch (n : Nat) (p : Int) (l : List (List UInt8 × Tr)) (h0 : ∀ x ∈ l.head?, x.1 = []) (hk : ∀ x ∈ l, x.1.length ≤ 16) (h : ∀ x ∈ l, FitT n x.2) (h1 : 30 ≤ sumT (.branch p l)) (h2 : sumT (.branch p l) ≤ 122) : FitT (n + 1) (.branch p l)
inductive NearT : Nat → Tr → Prop where
  | leaf (p : Int) (l : List Lf) (h : ∀ x ∈ l, okLf x) (h2 : sumT (.leaf p l) ≤ 157) : NearT 0 (.leaf p l)
  | branch (n : Nat) (p : Int) (l : List (List UInt8 × Tr)) (h0 : ∀ x ∈ l.head?, x.1 = []) (hk : ∀ x ∈ l, x.1.length ≤ 16) (h : ∀ x ∈ l, FitT n x.2) (h2 : sumT (.branch p l) ≤ 167) : NearT (n + 1) (.branch p l)
theorem sumT_leaf (p : Int) (l : List Lf) : sumT (.leaf p l) = sumZ (l.map sizeL) := rfl
theorem sumT_branch (p : Int) (l : List (List UInt8 × Tr)) : sumT (.branch p l) = sumZ (l.map (fun x => 4 + (x.1.length : Int))) := rfl
theorem keyed_sum (s : List UInt8) (q : Int) : ∀ l : List (List UInt8 × Tr), l ≠ [] → sumT (.branch q (keyed s l)) = sumT (.branch q l) + (s.length : Int) - ((l.getD 0 default).1.length : Int)
  | [], h => absurd rfl h
  | x :: l, _ => by
    rw [sumT_branch, sumT_branch, keyed, List.map_cons, List.map_cons, sumZ, sumZ]
    simp
    omega
theorem NearT.sizes {n : Nat} {t : Tr} (h : NearT n t) : ∃ m : Int, (∀ x ∈ sizesT t, 0 ≤ x ∧ x ≤ m) ∧ ((n = 0 ∧ m = 35 ∧ sumT t ≤ 157) ∨ (n ≠ 0 ∧ m = 20 ∧ sumT t ≤ 167)) := by
  cases h with
  | leaf p l h h2 =>
    refine ⟨35, fun x hx => ?_, .inl ⟨rfl, rfl, h2⟩⟩
    obtain ⟨y, hy, rfl⟩ := List.mem_map.1 hx
    exact okLf_size' (h y hy)
  | branch n p l h0 hk h h2 =>
    refine ⟨20, fun x hx => ?_, .inr ⟨by omega, rfl, h2⟩⟩
    obtain ⟨y, hy, rfl⟩ := List.mem_map.1 hx
    have := hk y hy
    omega
theorem fit_parts {n : Nat} {t : Tr} (h : NearT n t) (hat : atZ (sizesT t) ≠ 0) : FitT n (frontT (atZ (sizesT t)) t) ∧ FitT n (backT (atZ (sizesT t)) t) ∧ (keyT (atZ (sizesT t)) t).length ≤ 16 := by
  have hno : ¬ (sumZ (sizesT t) ≤ 122 ∨ (sizesT t).length < 2) := fun hx => hat (atZ_zero hx)
  obtain ⟨m, hm, hc⟩ := h.sizes
  have hpa := parts_at hno hm
  have hin := atZ_in hno
  have hmx := worseZ_max (sizesT t) (atZ (sizesT t))
  have hs : 122 < sumZ (sizesT t) := by omega
  generalize hk : atZ (sizesT t) = k at *
  have hsum : sumT t = sumZ (sizesT t) := rfl
  cases h with
  | leaf p l h h2 =>
    obtain ⟨_, rfl, _⟩ | ⟨h9, _⟩ := hc
    · rw [sizesT] at hpa hin hmx hs
      rw [← List.map_take, ← List.map_drop] at hpa hmx
      rw [List.length_map] at hin
      rw [sumT_leaf] at h2
      refine ⟨.leaf _ _ (fun x hx => h x (List.mem_of_mem_take hx)) ?_ ?_, .leaf _ _ (fun x hx => h x (List.mem_of_mem_drop hx)) ?_ ?_, ?_⟩
      · rw [sumT_leaf]; omega
      · rw [sumT_leaf]; omega
      · rw [sumT_leaf]; omega
      · rw [sumT_leaf]; omega
      · rw [keyT, List.getD_eq_getElem?_getD, List.getElem?_eq_getElem hin.2]
        exact (h _ (List.getElem_mem hin.2)).2.1
    · exact absurd rfl h9
  | branch n p l h0 hkl h h2 =>
    obtain ⟨h9, _⟩ | ⟨_, rfl, _⟩ := hc
    · cases h9
    · rw [sizesT] at hpa hin hmx hs
      rw [← List.map_take, ← List.map_drop] at hpa hmx
      rw [List.length_map] at hin
      rw [sumT_branch] at h2
      have hne : l.drop k ≠ [] := by
        intro e
        have := congrArg List.length e
        rw [List.length_drop, List.length_nil] at this
        omega
      have hks := keyed_sum [] 0 (l.drop k) hne
      rw [sumT_branch 0 (l.drop k), List.drop_eq_getElem_cons hin.2] at hks
      have hfk := hkl _ (List.getElem_mem hin.2)
      have hz : ((l[k] :: l.drop (k + 1)).getD 0 default).1 = l[k].1 := rfl
      rw [hz, ← List.drop_eq_getElem_cons hin.2] at hks
      have hz2 : (([] : List UInt8).length : Int) = 0 := rfl
      rw [hz2] at hks
      refine ⟨.branch n _ _ (fun x hx => h0 x ?_) (fun x hx => hkl x (List.mem_of_mem_take hx)) (fun x hx => h x (List.mem_of_mem_take hx)) ?_ ?_, .branch n _ _ (fun x hx => ?_) (fun x hx => ?_) (fun x hx => ?_) ?_ ?_, ?_⟩
      · rw [List.head?_take] at hx
        split at hx
        · cases hx
        · exact hx
      · rw [sumT_branch]; omega
      · rw [sumT_branch]; omega
      · rw [List.drop_eq_getElem_cons hin.2, keyed] at hx
        simp at hx
        rw [← hx]
      · rw [List.drop_eq_getElem_cons hin.2, keyed] at hx
        rcases List.mem_cons.1 hx with rfl | hx
        · exact Nat.zero_le _
        · exact hkl x (List.mem_of_mem_drop hx)
      · rw [List.drop_eq_getElem_cons hin.2, keyed] at hx
        rcases List.mem_cons.1 hx with rfl | hx
        · have := h l[k] (List.getElem_mem hin.2)
          exact this
        · exact h x (List.mem_of_mem_drop hx)
      · omega
      · omega
      · rw [keyT, List.getD_eq_getElem?_getD, List.getElem?_eq_getElem hin.2]
        exact hfk
theorem near_fit {n : Nat} {t : Tr} (h : NearT n t) (h1 : 30 ≤ sumT t) (h2 : sumT t ≤ 122) : FitT n t := by
  cases h with
  | leaf p l h _ => exact .leaf p l h h1 h2
  | branch n p l h0 hk h _ => exact .branch n p l h0 hk h h1 h2
theorem FitT.near {n : Nat} {t : Tr} (h : FitT n t) : NearT n t ∧ 30 ≤ sumT t ∧ sumT t ≤ 122 := by
  cases h with
  | leaf p l h h1 h2 => exact ⟨.leaf p l h (by omega), h1, h2⟩
  | branch n p l h0 hk h h1 h2 => exact ⟨.branch n p l h0 hk h (by omega), h1, h2⟩
theorem sumT_app (p : Int) (a b : List (List UInt8 × Tr)) : sumT (.branch p (a ++ b)) = sumT (.branch p a) + sumT (.branch p b) := by
  rw [sumT_branch, sumT_branch, sumT_branch, List.map_append, sumZ_app]
theorem sumT_pos (p : Int) (a : List (List UInt8 × Tr)) : 0 ≤ sumT (.branch p a) := by
  rw [sumT_branch]
  exact sumZ_pos (fun x hx => by obtain ⟨y, _, rfl⟩ := List.mem_map.1 hx; omega)
theorem near_join {n : Nat} {a b : Tr} (s : List UInt8) (hs : s.length ≤ 16) (ha : NearT n a) (hb : NearT n b) (hab : (sumT a < 30 ∧ 30 ≤ sumT b ∧ sumT b ≤ 122) ∨ (sumT b < 30 ∧ 30 ≤ sumT a ∧ sumT a ≤ 122)) (hna : ∀ p, a ≠ .branch p []) (hne : ∀ p, b ≠ .branch p []) : NearT n (joinT s a b) ∧ 30 ≤ sumT (joinT s a b) := by
  cases ha with
  | leaf p l h h2 =>
    cases hb with
    | leaf q m k k2 =>
      have e : sumT (joinT s (.leaf p l) (.leaf q m)) = sumT (.leaf p l) + sumT (.leaf q m) := by
        rw [joinT, sumT_leaf, sumT_leaf, sumT_leaf, List.map_append, sumZ_app]
      have p1 : 0 ≤ sumT (.leaf p l) := by
        rw [sumT_leaf]
        exact sumZ_pos (fun x hx => by obtain ⟨y, hy, rfl⟩ := List.mem_map.1 hx; exact (okLf_size' (h y hy)).1)
      have p2 : 0 ≤ sumT (.leaf q m) := by
        rw [sumT_leaf]
        exact sumZ_pos (fun x hx => by obtain ⟨y, hy, rfl⟩ := List.mem_map.1 hx; exact (okLf_size' (k y hy)).1)
      refine ⟨?_, by omega⟩
      rw [joinT] at e ⊢
      refine .leaf _ _ (fun x hx => ?_) (by omega)
      rcases List.mem_append.1 hx with hx | hx
      · exact h x hx
      · exact k x hx
  | branch n p l h0 hk h h2 =>
    cases hb with
    | branch _ q m k0 kk k k2 =>
      have hm : m ≠ [] := fun e => hne q (by rw [e])
      have e : sumT (joinT s (.branch p l) (.branch q m)) = sumT (.branch p l) + sumT (.branch q m) + (s.length : Int) := by
        rw [joinT, sumT_app, keyed_sum s 0 m hm]
        have h9 : (m.getD 0 default).1 = [] := k0 _ (by cases m with | nil => exact absurd rfl hm | cons y m => rfl)
        rw [h9]
        have hz2 : (([] : List UInt8).length : Int) = 0 := rfl
        rw [hz2, sumT_branch 0 l, sumT_branch p l, sumT_branch 0 m, sumT_branch q m]
        omega
      have p1 := sumT_pos p l
      have p2 := sumT_pos q m
      refine ⟨?_, by omega⟩
      rw [joinT] at e ⊢
      refine .branch n _ _ (fun x hx => ?_) (fun x hx => ?_) (fun x hx => ?_) (by omega)
      · cases l with
        | nil => exact absurd rfl (hna p)
        | cons u l => exact h0 x (by simpa using hx)
      · rcases List.mem_append.1 hx with hx | hx
        · exact hk x hx
        · cases m with
          | nil => exact absurd rfl hm
          | cons y m =>
            rcases List.mem_cons.1 hx with rfl | hx
            · exact hs
            · exact kk x (List.mem_cons_of_mem _ hx)
      · rcases List.mem_append.1 hx with hx | hx
        · exact h x hx
        · cases m with
          | nil => exact absurd rfl hm
          | cons y m =>
            rcases List.mem_cons.1 hx with rfl | hx
            · have := k y (List.mem_cons_self)
              exact this
            · exact k x (List.mem_cons_of_mem _ hx)
theorem FitT.some {n : Nat} {t : Tr} (h : FitT n t) : ∀ p, t ≠ .branch p [] := fun p e => by
  subst e
  cases h with
  | branch n p l h0 hk h h1 h2 =>
    rw [sumT_branch] at h1
    simp [sumZ] at h1
theorem fit_part {n : Nat} {l : List (List UInt8 × Tr)} {k : Nat} (hkl : k < l.length) (hk : ∀ x ∈ l, x.1.length ≤ 16) (hfa : ∀ x ∈ l.take k, FitT n x.2) (hfb : ∀ x ∈ l.drop (k + 1), FitT n x.2) (hn : NearT n (kidT l k).2) (hat : atT l k ≠ 0) :
    (∀ x ∈ splitT l k (atT l k), x.1.length ≤ 16 ∧ FitT n x.2) ∧ sumT (.branch 0 (splitT l k (atT l k))) ≤ sumT (.branch 0 l) + 20 := by
  obtain ⟨f1, f2, f3⟩ := fit_parts hn hat
  have hp := at_parts hkl
  have hmem := kid_mem hkl
  have e1 : splitT l k (atT l k) = l.take k ++ ([((kidT l k).1, frontT (atT l k) (kidT l k).2), (keyT (atT l k) (kidT l k).2, backT (atT l k) (kidT l k).2)] ++ l.drop (k + 1)) := by rw [splitT, List.append_assoc]
  have e2 : sumT (.branch 0 l) = sumT (.branch 0 (l.take k ++ ([kidT l k] ++ l.drop (k + 1)))) := by
    conv => lhs; rw [hp]
    rfl
  rw [e1, e2, sumT_app, sumT_app, sumT_app, sumT_app]
  refine ⟨fun x hx => ?_, ?_⟩
  · rcases List.mem_append.1 hx with hx | hx
    · exact ⟨hk x (List.mem_of_mem_take hx), hfa x hx⟩
    · rcases List.mem_append.1 hx with hx | hx
      · rcases List.mem_cons.1 hx with rfl | hx
        · have := hk (kidT l k) hmem
          exact ⟨this, f1⟩
        · rw [List.mem_singleton] at hx
          subst hx
          exact ⟨f3, f2⟩
      · exact ⟨hk x (List.mem_of_mem_drop hx), hfb x hx⟩
  · have h3 : (keyT (atT l k) (kidT l k).2).length ≤ 16 := f3
    rw [sumT_branch 0 [_, _], sumT_branch 0 [_]]
    simp [sumZ]
    omega
theorem at_sum {n : Nat} {t : Tr} (h : NearT n t) (hat : atZ (sizesT t) = 0) : sumT t ≤ 122 := by
  by_cases hno : sumZ (sizesT t) ≤ 122 ∨ (sizesT t).length < 2
  · rcases hno with h1 | h1
    · exact h1
    · obtain ⟨m, hm, hc⟩ := h.sizes
      have := sumZ_most (l := sizesT t) (b := m) (fun x hx => (hm x hx).2)
      have hm2 : 0 ≤ m ∧ m ≤ 35 := by omega
      have : sumT t ≤ (1 : Int) * m := by
        refine Int.le_trans this (Int.mul_le_mul_of_nonneg_right (by omega) hm2.1)
      omega
  · have := (atZ_in hno).1
    omega
theorem fit_mend {n : Nat} (p : Int) {l : List (List UInt8 × Tr)} {k : Nat} (hkl : k < l.length) (hk : ∀ x ∈ l, x.1.length ≤ 16) (hfa : ∀ x ∈ l.take k, FitT n x.2) (hfb : ∀ x ∈ l.drop (k + 1), FitT n x.2) (hn : NearT n (kidT l k).2) (hs : ∀ q, (kidT l k).2 ≠ .branch q []) (h2 : 2 ≤ l.length) :
    ∃ q l', mendT p l k = .branch q l' ∧ (∀ x ∈ l', x.1.length ≤ 16 ∧ FitT n x.2) ∧ sumT (.branch 0 l') ≤ sumT (.branch 0 l) + 20 := by
  have hmem := kid_mem hkl
  have hfit : ∀ j, j < l.length → j ≠ k → FitT n (kidT l j).2 := fun j hj hjk => by
    by_cases e : j < k
    · refine hfa _ (List.mem_of_getElem? (i := j) ?_)
      rw [List.getElem?_take, if_pos e]
      exact kid_some hj
    · refine hfb _ (List.mem_of_getElem? (i := j - (k + 1)) ?_)
      rw [List.getElem?_drop, show k + 1 + (j - (k + 1)) = j by omega]
      exact kid_some hj
  unfold mendT
  by_cases hat : atT l k = 0
  · rw [if_neg (by simpa using hat)]
    have h122 := at_sum hn hat
    by_cases hlow : 30 ≤ sumT (kidT l k).2
    · rw [if_pos (.inl hlow)]
      have hfk := near_fit hn hlow h122
      refine ⟨p, l, rfl, fun x hx => ⟨hk x hx, ?_⟩, by omega⟩
      obtain ⟨j, hj, rfl⟩ := List.getElem_of_mem hx
      have he : kidT l j = l[j] := by rw [kidT, List.getD_eq_getElem?_getD, List.getElem?_eq_getElem hj]; rfl
      rw [← he]
      by_cases e : j = k
      · subst e
        exact hfk
      · exact hfit j hj e
    · rw [if_neg (by
        intro hx
        rcases hx with hx | hx
        · exact hlow hx
        · omega)]
      have hf : firstT l k + 1 < l.length := by
        unfold firstT
        split <;> omega
      have hjk : firstT l k = k ∨ firstT l k + 1 = k := by
        unfold firstT
        split <;> omega
      have hm := merge_len hf
      generalize firstT l k = j at *
      have hjoin : NearT n (joinT (kidT l (j + 1)).1 (kidT l j).2 (kidT l (j + 1)).2) ∧ 30 ≤ sumT (joinT (kidT l (j + 1)).1 (kidT l j).2 (kidT l (j + 1)).2) := by
        have hkj := hk _ (kid_mem hf)
        rcases hjk with rfl | hjk
        · have h8 := hfit (j + 1) hf (by omega)
          have h9 := h8.near
          exact near_join _ hkj hn h9.1 (.inl ⟨by omega, h9.2.1, h9.2.2⟩) hs h8.some
        · rw [← hjk] at hn hs hlow hfit
          have h8 := hfit j (by omega) (by omega)
          have h9 := h8.near
          exact near_join _ hkj h9.1 hn (.inr ⟨by omega, h9.2.1, h9.2.2⟩) h8.some hs
      have e1 : mergeT l j = l.take j ++ ([((kidT l j).1, joinT (kidT l (j + 1)).1 (kidT l j).2 (kidT l (j + 1)).2)] ++ l.drop (j + 2)) := by rw [mergeT, List.append_assoc]
      have hlen : (l.take j).length = j := by rw [List.length_take]; omega
      have hkid : kidT (mergeT l j) j = ((kidT l j).1, joinT (kidT l (j + 1)).1 (kidT l j).2 (kidT l (j + 1)).2) := by
        rw [kidT, e1, List.getD_eq_getElem?_getD, List.getElem?_append_right (by omega), hlen, Nat.sub_self]
        rfl
      have hta : (mergeT l j).take j = l.take j := by rw [e1, List.take_left' hlen]
      have hdr : (mergeT l j).drop (j + 1) = l.drop (j + 2) := by
        rw [e1, ← List.append_assoc, List.drop_left' (by rw [List.length_append, hlen]; rfl)]
      have hj1 := at_parts (l := l) (k := j) (by omega)
      have hj2 : l.drop (j + 1) = kidT l (j + 1) :: l.drop (j + 2) := by
        have h3 : kidT l (j + 1) = l[j + 1] := by rw [kidT, List.getD_eq_getElem?_getD, List.getElem?_eq_getElem hf]; rfl
        rw [h3]
        exact List.drop_eq_getElem_cons hf
      rw [hj2] at hj1
      have hsum : sumT (.branch 0 (mergeT l j)) ≤ sumT (.branch 0 l) := by
        have e2 : sumT (.branch 0 l) = sumT (.branch 0 (l.take j ++ ([kidT l j, kidT l (j + 1)] ++ l.drop (j + 2)))) := by
          conv => lhs; rw [hj1]
          rfl
        rw [e1, e2, sumT_app, sumT_app, sumT_app, sumT_app, sumT_branch 0 [_], sumT_branch 0 [_, _]]
        simp [sumZ]
        omega
      have hfa' : ∀ x ∈ l.take j, FitT n x.2 := fun x hx => by
        obtain ⟨i, hi, rfl⟩ := List.getElem_of_mem hx
        rw [hlen] at hi
        have he : kidT l i = (l.take j)[i] := by rw [List.getElem_take, kidT, List.getD_eq_getElem?_getD, List.getElem?_eq_getElem (by omega)]; rfl
        rw [← he]
        exact hfit i (by omega) (by omega)
      have hfb' : ∀ x ∈ l.drop (j + 2), FitT n x.2 := fun x hx => by
        obtain ⟨i, hi, rfl⟩ := List.getElem_of_mem hx
        rw [List.length_drop] at hi
        have he : kidT l (j + 2 + i) = (l.drop (j + 2))[i] := by rw [List.getElem_drop, kidT, List.getD_eq_getElem?_getD, List.getElem?_eq_getElem (by omega)]; rfl
        rw [← he]
        exact hfit _ (by omega) (by omega)
      have hk' : ∀ x ∈ mergeT l j, x.1.length ≤ 16 := fun x hx => by
        rw [e1] at hx
        rcases List.mem_append.1 hx with hx | hx
        · exact hk x (List.mem_of_mem_take hx)
        · rcases List.mem_append.1 hx with hx | hx
          · rw [List.mem_singleton] at hx
            subst hx
            have := hk (kidT l j) (kid_mem (by omega))
            exact this
          · exact hk x (List.mem_of_mem_drop hx)
      unfold partT
      by_cases hat2 : atT (mergeT l j) j = 0
      · rw [if_pos hat2]
        have h6 : NearT n (kidT (mergeT l j) j).2 := by rw [hkid]; exact hjoin.1
        have h7 := at_sum h6 hat2
        have h8 := near_fit h6 (by rw [hkid]; exact hjoin.2) h7
        rw [hkid] at h8
        refine ⟨0, _, rfl, fun x hx => ⟨hk' x hx, ?_⟩, by omega⟩
        rw [e1] at hx
        rcases List.mem_append.1 hx with hx | hx
        · exact hfa' x hx
        · rcases List.mem_append.1 hx with hx | hx
          · rw [List.mem_singleton] at hx
            subst hx
            exact h8
          · exact hfb' x hx
      · rw [if_neg hat2]
        obtain ⟨a, b⟩ := fit_part (n := n) (l := mergeT l j) (k := j) (by omega) hk' (by rw [hta]; exact hfa') (by rw [hdr]; exact hfb') (by rw [hkid]; exact hjoin.1) hat2
        exact ⟨0, _, rfl, a, by omega⟩
  · rw [if_pos hat]
    obtain ⟨a, b⟩ := fit_part hkl hk hfa hfb hn hat
    exact ⟨0, _, rfl, a, b⟩
end Go.Proofs.Ytpaklhifnndeoaa
end

section
namespace Go.Proofs.Ytpaklhifnndeoaa
open Go.RowKit
set_option linter.unusedVariables false

inductive RootT : Nat → Tr → Prop where
  | leaf (p : Int) (l : List Lf) (h : ∀ x ∈ l, okLf x) (h2 : sumT (.leaf p l) ≤ 122) : RootT 0 (.leaf p l)
  | branch (n : Nat) (p : Int) (l : List (List UInt8 × Tr)) (h0 : ∀ x ∈ l.head?, x.1 = []) (hk : ∀ x ∈ l, x.1.length ≤ 16) (h : ∀ x ∈ l, FitT n x.2) (hl : 2 ≤ l.length) (h2 : sumT (.branch p l) ≤ 122) : RootT (n + 1) (.branch p l)
theorem FitT.root {n : Nat} {t : Tr} (h : FitT n t) : RootT n t := by
  cases h with
  | leaf p l h h1 h2 => exact .leaf p l h h2
  | branch n p l h0 hk h h1 h2 =>
    refine .branch n p l h0 hk h ?_ h2
    rcases l with _ | ⟨x, _ | ⟨y, l⟩⟩
    · rw [sumT_branch] at h1
      simp [sumZ] at h1
    · have := hk x (List.mem_singleton.2 rfl)
      rw [sumT_branch] at h1
      simp [sumZ] at h1
      omega
    · simp
theorem SepT.some {n : Nat} {t : Tr} (h : SepT n t) : ∀ p, t ≠ .branch p [] := fun p e => by
  subst e
  cases h with
  | branch n p l h hk hl h0 => exact hl rfl
theorem putL_sum (c : Lf) (hc : okLf c) : ∀ l : List Lf, (∀ x ∈ l, okLf x) → (∀ x ∈ putL c l, okLf x) ∧ sumZ ((putL c l).map sizeL) ≤ sumZ (l.map sizeL) + 35
  | [], _ => ⟨fun x hx => by rw [putL, List.mem_singleton] at hx; subst hx; exact hc, by
    have := okLf_size hc
    simp [putL, sumZ]
    omega⟩
  | x :: l, h => by
    have hx := okLf_size (h x (List.mem_cons_self))
    have hcz := okLf_size hc
    have hl : ∀ y ∈ l, okLf y := fun y hy => h y (List.mem_cons_of_mem _ hy)
    obtain ⟨a, b⟩ := putL_sum c hc l hl
    rw [putL]
    split
    · refine ⟨fun y hy => ?_, ?_⟩
      · rcases List.mem_cons.1 hy with rfl | hy
        · exact h _ (List.mem_cons_self)
        · exact a y hy
      · rw [List.map_cons, List.map_cons, sumZ, sumZ]
        omega
    · split
      · refine ⟨fun y hy => ?_, ?_⟩
        · rcases List.mem_cons.1 hy with rfl | hy
          · exact hc
          · exact hl y hy
        · rw [List.map_cons, List.map_cons, sumZ, sumZ]
          omega
      · refine ⟨fun y hy => ?_, ?_⟩
        · rcases List.mem_cons.1 hy with rfl | hy
          · exact hc
          · exact h y hy
        · simp only [List.map_cons, sumZ]
          omega
theorem sum_set {l : List (List UInt8 × Tr)} {k : Nat} (hk : k < l.length) (t : Tr) : sumT (.branch 0 (l.set k ((kidT l k).1, t))) = sumT (.branch 0 l) := by
  rw [set_parts hk]
  conv => rhs; rw [at_parts hk]
  rw [sumT_app, sumT_app, sumT_branch 0 (_ :: _), sumT_branch 0 (_ :: _)]
  simp only [List.map_cons, sumZ]
theorem near_put (c : Lf) (hc : okLf c) : ∀ (t : Tr) (n : Nat), RootT n t → SepT n t → NearT n (putT c t) := by
  refine Tr.ind (fun p l n h hs => ?_) (fun p l ih n h hs => ?_)
  · rcases h with ⟨_, _, h, h2⟩ | _
    obtain ⟨a, b⟩ := putL_sum c hc l h
    rw [sumT_leaf] at h2
    rw [putT]
    exact .leaf _ _ a (by rw [sumT_leaf]; omega)
  · rcases h with _ | ⟨n, _, _, h0, hk, h, hl2, h2⟩
    have hsp := sep_put c _ _ hs
    rcases hs with _ | ⟨_, _, _, s1, s2, s3, s4⟩
    have hlt := wayT_lt c.k s3
    have hm := kid_mem hlt
    have hkid := ih _ hm n (h _ hm).root (s2 _ hm)
    have hsk := (sep_put c _ _ (s2 _ hm)).some
    rw [putT_branch c p s3] at hsp ⊢
    generalize hw : wayT l c.k = k at *
    have hlk : kidT (l.set k ((kidT l k).1, putT c (kidT l k).2)) k = ((kidT l k).1, putT c (kidT l k).2) := by
      have h9 := kid_some (l := l.set k ((kidT l k).1, putT c (kidT l k).2)) (k := k) (by rw [List.length_set]; exact hlt)
      rw [List.getElem?_set_self hlt] at h9
      injection h9 with h9
      exact h9.symm
    obtain ⟨q, l', e, f1, f2⟩ := fit_mend (n := n) 0 (l := l.set k ((kidT l k).1, putT c (kidT l k).2)) (k := k) (by rw [List.length_set]; exact hlt) (fun x hx => by
      rcases List.mem_or_eq_of_mem_set hx with hx | rfl
      · exact hk x hx
      · have := hk (kidT l k) hm
        exact this) (fun x hx => by
      rw [List.take_set_of_le (Nat.le_refl _)] at hx
      exact h x (List.mem_of_mem_take hx)) (fun x hx => by
      rw [List.drop_set_of_lt (by omega)] at hx
      exact h x (List.mem_of_mem_drop hx)) (by rw [hlk]; exact hkid) (by rw [hlk]; exact hsk) (by rw [List.length_set]; exact hl2)
    rw [sum_set hlt] at f2
    rw [e] at hsp ⊢
    rcases hsp with _ | ⟨_, _, _, t1, t2, t3, t4⟩
    rw [sumT_branch] at f2 h2
    rw [sumT_branch] at f2
    exact .branch n q l' t4 (fun x hx => (f1 x hx).1) (fun x hx => (f1 x hx).2) (by rw [sumT_branch]; omega)
theorem root_split {n : Nat} {t : Tr} (h : NearT n t) (hat : atZ (sizesT t) ≠ 0) : RootT (n + 1) (mendT 0 [([], t)] 0) := by
  obtain ⟨f1, f2, f3⟩ := fit_parts h hat
  have ha : atT [(([] : List UInt8), t)] 0 = atZ (sizesT t) := rfl
  unfold mendT
  rw [ha, if_pos hat]
  have e : splitT [(([] : List UInt8), t)] 0 (atZ (sizesT t)) = [([], frontT (atZ (sizesT t)) t), (keyT (atZ (sizesT t)) t, backT (atZ (sizesT t)) t)] := rfl
  rw [e]
  refine .branch n 0 _ (fun x hx => by simp at hx; rw [← hx]) (fun x hx => ?_) (fun x hx => ?_) (by simp) ?_
  · simp at hx
    rcases hx with rfl | rfl
    · exact Nat.zero_le _
    · exact f3
  · simp at hx
    rcases hx with rfl | rfl
    · exact f1
    · exact f2
  · rw [sumT_branch]
    simp [sumZ]
    omega
def putTop (c : Lf) (t : Tr) : Tr := topT (putT c t)
def GoodT (t : Tr) : Prop := ∃ n, RootT n t ∧ SepT n t
theorem sep_one {n : Nat} {t : Tr} (h : SepT n t) (hne : entT t ≠ []) : SepT (n + 1) (mendT 0 [([], t)] 0) :=
  sep_mend 0 ⟨List.pairwise_singleton _ _, fun x hx => by rw [List.mem_singleton] at hx; subst hx; exact ⟨hne, fun e _ => nil_le _⟩⟩ (fun x hx => by rw [List.mem_singleton] at hx; subst hx; exact h) (by simp) (fun x hx => by simp at hx; rw [← hx]) (by simp)
theorem good_top : ∀ (t : Tr) (n : Nat), NearT n t → SepT n t → entT t ≠ [] → GoodT (topT t)
  | .leaf p l, n, h, hs, hne => by
    rw [topT]
    split
    · rename_i hat
      have h2 := at_sum h hat
      rcases h with ⟨_, _, h, _⟩ | _
      exact ⟨0, .leaf p l h h2, hs⟩
    · rename_i hat
      exact ⟨n + 1, root_split h hat, sep_one hs hne⟩
  | .branch p [], n, h, hs, hne => absurd rfl (hs.some p)
  | .branch p [x], n, h, hs, hne => by
    rw [topT]
    rcases h with _ | ⟨n, _, _, h0, hk, h, h2⟩
    rcases hs with _ | ⟨_, _, _, s1, s2, s3, s4⟩
    have hm := List.mem_singleton.2 (rfl : x = x)
    exact good_top x.2 n (h x hm).near.1 (s2 x hm) (s1.2 x hm).1
  | .branch p (x :: y :: r), n, h, hs, hne => by
    rw [topT]
    · split
      · rename_i hat
        have h2 := at_sum h hat
        rcases h with _ | ⟨n, _, _, h0, hk, h, _⟩
        exact ⟨n + 1, .branch n p _ h0 hk h (by simp) h2, hs⟩
      · rename_i hat
        exact ⟨n + 1, root_split h hat, sep_one hs hne⟩
    · intro z hz
      simp at hz
termination_by t => SizeOf.sizeOf t
decreasing_by exact Tr.small (List.mem_singleton.2 rfl)
theorem good_put (c : Lf) (hc : okLf c) {t : Tr} (h : GoodT t) : GoodT (putTop c t) ∧ entT (putTop c t) = putE15 c.k c.d (entT t) := by
  obtain ⟨n, h1, h2⟩ := h
  have he := ent_put c t n h2
  exact ⟨good_top _ n (near_put c hc t n h1 h2) (sep_put c t n h2) (by rw [he]; exact putE_ne _), by rw [putTop, ent_top, he]⟩
theorem good_empty : GoodT (.leaf 0 []) := ⟨0, .leaf 0 [] (fun x hx => by cases hx) (by rw [sumT_leaf]; simp [sumZ]), .leaf 0 [] List.Pairwise.nil⟩
end Go.Proofs.Ytpaklhifnndeoaa
end

section
namespace Go.Proofs.Ytpaklhifnndeoaa
open Go.RowKit
set_option linter.unusedVariables false

theorem putE_lt {k d : List UInt8} {x : List UInt8 × List UInt8} {l : List (List UInt8 × List UInt8)} (h : bl x.1 k) : putE15 k d (x :: l) = x :: putE15 k d l := by rw [putE15, if_pos h]
theorem putE_eq {k d : List UInt8} {x : List UInt8 × List UInt8} {l : List (List UInt8 × List UInt8)} (h : x.1 = k) : putE15 k d (x :: l) = (k, d) :: l := by rw [putE15, if_neg (by rw [h, bl_irrefl]; simp), if_pos h]
theorem putE_gt {k d : List UInt8} {x : List UInt8 × List UInt8} {l : List (List UInt8 × List UInt8)} (h : bl k x.1) : putE15 k d (x :: l) = (k, d) :: x :: l := by
  rw [putE15, if_neg (bl_asym h), if_neg (fun e => by rw [e] at h; exact absurd h (by simp [bl, bl_irrefl]))]
theorem bl_three (a b : List UInt8) : bl a b ∨ a = b ∨ bl b a := by
  by_cases h : bl a b
  · exact .inl h
  · by_cases h2 : bl b a
    · exact .inr (.inr h2)
    · exact .inr (.inl (bl_total a b (by simpa [bl] using h) (by simpa [bl] using h2)))
theorem putE_comm {a b da db : List UInt8} (hab : bl a b) : ∀ l : List (List UInt8 × List UInt8), putE15 a da (putE15 b db l) = putE15 b db (putE15 a da l)
  | [] => by
    have h1 : putE15 b db [] = [(b, db)] := rfl
    have h2 : putE15 a da [] = [(a, da)] := rfl
    rw [h1, h2, putE_gt (x := (b, db)) hab, putE_lt (x := (a, da)) hab]
    rfl
  | x :: l => by
    rcases bl_three x.1 a with h | h | h
    · rw [putE_lt h, putE_lt (bl_trans _ _ _ h hab), putE_lt h, putE_lt (bl_trans _ _ _ h hab), putE_comm hab l]
    · rw [putE_lt (show bl x.1 b by rw [h]; exact hab), putE_eq h, putE_eq h, putE_lt (x := (a, da)) hab]
    · rw [putE_gt h, putE_lt (x := (a, da)) hab]
      rcases bl_three x.1 b with h2 | h2 | h2
      · rw [putE_lt h2, putE_gt h]
      · rw [putE_eq h2, putE_gt (x := (b, db)) hab]
      · rw [putE_gt h2, putE_gt (x := (b, db)) hab]
theorem putE_comm' {a b da db : List UInt8} (hab : a ≠ b) (l : List (List UInt8 × List UInt8)) : putE15 a da (putE15 b db l) = putE15 b db (putE15 a da l) := by
  rcases bl_three a b with h | h | h
  · exact putE_comm h l
  · exact absurd h hab
  · exact (putE_comm h l).symm
def putsE (l : List (List UInt8 × List UInt8)) (e : List (List UInt8 × List UInt8)) : List (List UInt8 × List UInt8) := l.foldl (fun e x => putE15 x.1 x.2 e) e
theorem puts_perm {l m : List (List UInt8 × List UInt8)} (h : l.Perm m) : (l.map (·.1)).Nodup → ∀ e, putsE l e = putsE m e := by
  induction h with
  | nil => exact fun _ _ => rfl
  | cons x h ih =>
    intro hd e
    rw [List.map_cons, List.nodup_cons] at hd
    exact ih hd.2 _
  | swap x y l =>
    intro hd e
    simp only [List.map_cons, List.nodup_cons, List.mem_cons, not_or] at hd
    unfold putsE
    simp only [List.foldl_cons]
    rw [putE_comm' (Ne.symm hd.1.1)]
  | trans h1 h2 ih1 ih2 =>
    intro hd e
    rw [ih1 hd e, ih2 ((h1.map _).nodup_iff.1 hd) e]
end Go.Proofs.Ytpaklhifnndeoaa
end

section
namespace Go.Proofs.Ytpaklhifnndeoaa
open Go.RowKit
set_option linter.unusedVariables false

theorem le_is (a b : List UInt8) : (Op.bytesLess a b || a == b) = !Op.bytesLess b a := by
  rcases bl_three a b with h | rfl | h
  · have h1 : Op.bytesLess a b = true := h
    have h2 : Op.bytesLess b a = false := by have := bl_asym h; simpa [bl] using this
    rw [h1, h2]
    rfl
  · rw [bl_irrefl]
    simp
  · have h1 : Op.bytesLess b a = true := h
    have h2 : Op.bytesLess a b = false := by have := bl_asym h; simpa [bl] using this
    have h3 : (a == b) = false := by
      rw [beq_eq_false_iff_ne]
      rintro rfl
      rw [bl_irrefl] at h1
      cases h1
    rw [h1, h2, h3]
    rfl
theorem le_yes {a b : List UInt8} (h : Op.bytesLess b a = false) : Op.bytesLess a b = true ∨ (Op.bytesLess a b = false ∧ (a == b) = true) := by
  have := le_is a b
  rw [h] at this
  cases h1 : Op.bytesLess a b
  · rw [h1] at this
    exact .inr ⟨rfl, by simpa using this⟩
  · exact .inl rfl
theorem le_no {a b : List UInt8} (h : Op.bytesLess b a = true) : Op.bytesLess a b = false ∧ (a == b) = false := by
  have := le_is a b
  rw [h] at this
  simpa using this
def wayC (es : List CE) (s : List UInt8) : Nat → Nat
  | 0 => 0
  | n + 1 => if Op.bytesLess s (es.getD (n + 1) default).k then wayC es s n else n + 1
end Go.Proofs.Ytpaklhifnndeoaa
end

section
namespace Go.Proofs.Ytpaklhifnndeoaa
open Go.RowKit
set_option linter.unusedVariables false

inductive BndT : Tr → Prop where
  | leaf (p : Int) (l : List Lf) (h1 : l.length ≤ 100) (h2 : ∀ x ∈ l, x.k.length ≤ 500 ∧ x.d.length ≤ 1000) : BndT (.leaf p l)
  | branch (p : Int) (l : List (List UInt8 × Tr)) (h1 : l.length ≤ 100) (h2 : ∀ x ∈ l, x.1.length ≤ 500) (h3 : ∀ x ∈ l, BndT x.2) : BndT (.branch p l)
theorem BndT.len {F : Nat → Prop} {w : World} {es : List CE} {t : Tr} (hb : BndT t) (h : cellsR F w es t) : es.length ≤ 100 := by
  cases hb with
  | leaf p l h1 h2 => rw [(show Both (CellL F w) es l from h).1]; exact h1
  | branch p l h1 h2 h3 => rw [(show Both (CellT F w) es l from h).1]; exact h1
theorem BndT.kid {p : Int} {l : List (List UInt8 × Tr)} (hb : BndT (.branch p l)) : ∀ x ∈ l, BndT x.2 := by
  cases hb with
  | branch p l h1 h2 h3 => exact h3
def findC (es : List CE) (s : List UInt8) : Option (List UInt8) := (es.find? (fun e => e.k == s)).map (·.d)
def tellF (r : Option (List UInt8)) : Value := match r with
  | some d => .tuple #[.string ⟨d.toArray⟩, .bool true]
  | none => .tuple #[.string ⟨#[]⟩, .bool false]
end Go.Proofs.Ytpaklhifnndeoaa
end

section
namespace Go.Proofs.Ytpaklhifnndeoaa
open Go.RowKit
set_option linter.unusedVariables false

theorem wpList_append_rw {P : Program} {w : World} {ops : Array Oper} {rest : List Oper} {o : Oper} {a : Act} {Q : Exit → Act → World → Prop} (hgd : o.guard = none) (s x : Operand) (t : TypeId)
    (ho : o.op = .call { callee := .builtin .append, args := #[s, x], argTypes := #[t, t] }) (base : Nat) (e : TypeId) (i : TypeInfo) (z : Value) (size bytes : Nat) (ht : P.underlying t = some (.slice e)) (hi : P.info? e = some i) (hz : i.zero = some z)
    (hsize : i.size = size) (hby : i.bytes = bytes) (hzs : z.cells.size = size) (hsz : 0 < size) (v : Value) (n : Nat) (xs : List Value) (hs : a.eval s = v) (hown : w.ownsRow base e size v n xs) (A : Option Addr) (m c : Nat) (l : List Value) (hx : a.eval x = .slice A m c)
    {F : Nat → Prop} (hr : RwF F w A m c size l) (h1 : ∀ u ∈ l, u.oneCell' = true) (h63 : n + m ≤ maxLen) (hbytes : (n + m) * bytes ≤ 140737488355328) (hbase : base ≤ w.heap.size)
    (h : ∀ v' w', w'.ownsRow base e size v' (n + m) (xs ++ l) → w.grownBy w' v.ownBlock → wpList P ops Q rest (a.put o.dst v') w') : wpList P ops Q (o :: rest) a w := by
  rcases A with _ | ad
  · have h0 : l = [] := by
      rcases l with _ | ⟨d, l⟩
      · rfl
      · obtain ⟨g, off, ha, _⟩ := hr.reads (by simp)
        cases ha
    subst h0
    have hc := hr.nil rfl
    have hm : m = 0 := by have := hr.room; omega
    subst hc hm
    exact wpList_append_own_none hgd s x t ho base e i size ht hi v n xs hs hown hx (h v w (by simpa using hown) (World.grownBy.refl w _))
  · refine wpList_append_own w hgd s x t ho base e i z size bytes ht hi hz hsize hby hzs hsz v n xs hs hown ad m c l hx hr.len (fun j u hj => ?_) h1 h63 hbytes hbase (fun v' w' h1 h2 _ => h v' w' h1 h2)
    obtain ⟨g, off, hA, _, hc⟩ := hr.reads (by
      have := (List.getElem?_eq_some_iff.1 hj).1
      omega)
    injection hA with hA
    subst hA
    rw [add_plain]
    exact hc j u hj
theorem one_cells (l : List CE) : ∀ u ∈ flatC l, u.oneCell' = true := by
  intro u hu
  unfold flatC at hu
  obtain ⟨e, _, he⟩ := List.mem_flatMap.1 hu
  simp only [ceV, List.mem_cons, List.mem_nil_iff, or_false] at he
  rcases he with rfl | rfl | rfl | rfl <;> rfl
def CellsE (es : List CE) (w : World) (e : Ending) (w' : World) : Prop := ∃ A c, e = .returned (.slice A es.length c) ∧ RwF (fun g => w.heap.size ≤ g) w' A es.length c 4 (flatC es) ∧ Below w.heap.size w w'
theorem c15info : (Try.prog.info? 53).map (fun i => (i.zero, i.size, i.bytes)) = some (some (.agg #[.string ⟨#[]⟩, .string ⟨#[]⟩, .slice none 0 0, .slice none 0 0]), 4, 80) := by kernel_rfl
end Go.Proofs.Ytpaklhifnndeoaa
end
