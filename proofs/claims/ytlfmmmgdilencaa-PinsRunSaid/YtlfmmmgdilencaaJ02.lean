import Derived.Test.YtlfmmmgdilencaaJ00
import Derived.Test.YtlfmmmgdilencaaJLatr
/- Of a claim's texts, joined: Argu Pim. No statement but in the last. -/
section
namespace Go.Proofs.Ytlfmmmgdilencaa
open Go.ChangeShapes Go.WideShapes Go.ChangeAt Go.RowKit Go.Deep
set_option linter.unusedVariables false

theorem arg_u64s {H : Type} {enc : TypeId × Value → H} {W : World} {A : Option Addr} {n c : Nat} {d : DataW H} {p : List MemPlace} (h : DataW.Trod enc Try.prog W 0 (fun _ => true) true 26 (.slice A n c) d p) :
    ∃ l : List Nat, ArgU W A n c l := by
  obtain ⟨fuel, hf⟩ := h
  rcases open_ints Try.underlying26 Try.underlying27 (by kernel_rfl) hf with ⟨hcs, _⟩ | ⟨x, l, c', zs, hcs, _, hl, hm, hz, hx, hcell, hwz⟩
  · simp [Value.cells] at hcs
    obtain ⟨rfl, rfl, rfl⟩ := hcs
    exact ⟨[], rfl, Reads.empty, fun _ a ha => (by cases ha), Nat.le_refl _, Nat.zero_le _, fun x hx => by cases hx⟩
  · simp [Value.cells] at hcs
    obtain ⟨rfl, rfl, rfl⟩ := hcs
    have hz' : zs.length = c := by simpa using hz
    have hb : ∀ i (h : i < zs.length), 0 ≤ zs[i] ∧ zs[i] ≤ 18446744073709551615 := fun i h => u64_bounds (hwz _ (List.getElem_mem h))
    have hold : 0 < n → ∀ a, some x = some a → a.block < W.heap.size := fun hn a ha => by
      injection ha with ha
      subst ha
      have h0 := hcell 0 (by omega)
      exact World.block_lt_of_cell? W _ (by simpa [Addr.add] using h0)
    refine ⟨(zs.take n).map Int.toNat, by simp; omega, fun hn => ?_, hold, hl, hm, ?_⟩
    · have hn0 : 0 < n := by simp at hn; omega
      obtain ⟨b, off, spot⟩ := x
      have h0 := hcell 0 (by omega)
      have hspot : spot = none := by simpa [Addr.add] using World.cell?_spot h0
      subst hspot
      refine ⟨b, off, rfl, fun i y hy => ?_⟩
      have hin : i < n := by
        have := (List.getElem?_eq_some_iff.1 hy).1
        simp at this
        omega
      have hiz : i < zs.length := by omega
      have h2 := hcell i hiz
      have hbi := hb i hiz
      rw [add_plain] at h2
      rw [h2]
      simp [hin, List.getElem?_eq_getElem hiz] at hy ⊢
      rw [← hy]
      unfold u64V
      congr 1
      omega
    · intro y hy
      obtain ⟨q, hq, rfl⟩ := List.mem_map.1 hy
      have := u64_bounds (hwz q (List.mem_of_mem_take hq))
      omega

end Go.Proofs.Ytlfmmmgdilencaa
end

section
namespace Go.Proofs.Ytlfmmmgdilencaa
open Go.RowKit
set_option linter.unusedVariables false

def srtN (l : List Nat) : Prop := l.Pairwise (· ≤ ·)
def incN (l : List Nat) : Prop := l.Pairwise (· < ·)
def pinN : List Nat → Nat → List Nat
  | [], v => [v]
  | x :: t, v => if x ≤ v then x :: pinN t v else v :: x :: t
theorem pinN_mem {l : List Nat} {v x : Nat} : x ∈ pinN l v ↔ x = v ∨ x ∈ l := by
  induction l with
  | nil => simp [pinN]
  | cons y t ih =>
    unfold pinN
    split
    · rw [List.mem_cons, ih, List.mem_cons]
      constructor
      · rintro (h | h | h) <;> simp [h]
      · rintro (h | h | h) <;> simp [h]
    · simp
theorem pinN_len (l : List Nat) (v : Nat) : (pinN l v).length = l.length + 1 := by
  induction l with
  | nil => rfl
  | cons y t ih =>
    unfold pinN
    split
    · rw [List.length_cons, ih, List.length_cons]
    · rfl
theorem pinN_count (l : List Nat) (v x : Nat) : (pinN l v).count x = l.count x + if x = v then 1 else 0 := by
  induction l with
  | nil =>
    unfold pinN
    by_cases h : x = v
    · subst h
      simp
    · simp [h, Ne.symm h]
  | cons y t ih =>
    unfold pinN
    split
    · rw [List.count_cons, ih, List.count_cons]
      omega
    · rw [List.count_cons]
      by_cases h : x = v
      · subst h
        simp
      · simp [h, Ne.symm h]
theorem pinN_srt {l : List Nat} (h : srtN l) (v : Nat) : srtN (pinN l v) := by
  induction l with
  | nil => simp [pinN, srtN]
  | cons y t ih =>
    have h1 := List.pairwise_cons.1 h
    unfold pinN
    split
    · rename_i hy
      refine List.pairwise_cons.2 ⟨fun z hz => ?_, ih h1.2⟩
      rcases pinN_mem.1 hz with rfl | hz
      · exact hy
      · exact h1.1 z hz
    · rename_i hy
      refine List.pairwise_cons.2 ⟨fun z hz => ?_, h⟩
      rcases List.mem_cons.1 hz with rfl | hz
      · omega
      · have := h1.1 z hz
        omega
theorem pinN_at : ∀ (l : List Nat) (k v : Nat), k ≤ l.length → (∀ j, j < k → l.getD j 0 ≤ v) → (k < l.length → v < l.getD k 0) → pinN l v = l.take k ++ v :: l.drop k
  | [], k, v, h, _, _ => by simp [pinN]
  | x :: t, 0, v, _, _, h3 => by
    have := h3 (by simp)
    simp only [List.getD_cons_zero] at this
    unfold pinN
    rw [if_neg (by omega)]
    rfl
  | x :: t, k + 1, v, h, h2, h3 => by
    have hx := h2 0 (by omega)
    simp only [List.getD_cons_zero] at hx
    unfold pinN
    rw [if_pos hx, pinN_at t k v (by simpa using h) (fun j hj => by simpa using h2 (j + 1) (by omega)) (fun hk => by simpa using h3 (by simpa using hk))]
    rfl
theorem erase_at : ∀ (l : List Nat) (k v : Nat), k < l.length → (∀ j, j < k → l.getD j 0 ≠ v) → l.getD k 0 = v → l.erase v = l.take k ++ l.drop (k + 1)
  | [], k, v, h, _, _ => by simp at h
  | x :: t, 0, v, _, _, h3 => by
    simp only [List.getD_cons_zero] at h3
    subst h3
    simp
  | x :: t, k + 1, v, h, h2, h3 => by
    have hx := h2 0 (by omega)
    simp only [List.getD_cons_zero] at hx
    rw [List.erase_cons_tail (by simpa using hx), erase_at t k v (by simpa using h) (fun j hj => by simpa using h2 (j + 1) (by omega)) (by simpa using h3)]
    rfl
theorem erase_srt {l : List Nat} (h : srtN l) (v : Nat) : srtN (l.erase v) := List.Pairwise.sublist List.erase_sublist h
theorem count_none {l : List Nat} {v : Nat} : l.count v = 0 ↔ v ∉ l := List.count_eq_zero
def allTo (l : List Nat) : Nat → List Nat
  | 0 => []
  | k + 1 => if k = 0 ∨ l.getD k 0 ≠ l.getD (k - 1) 0 then allTo l k ++ [l.getD k 0] else allTo l k
def allN (l : List Nat) : List Nat := allTo l l.length
theorem srt_getD {l : List Nat} (h : srtN l) {i j : Nat} (hij : i ≤ j) (hj : j < l.length) : l.getD i 0 ≤ l.getD j 0 := by
  rw [List.getD_eq_getElem?_getD, List.getD_eq_getElem?_getD, List.getElem?_eq_getElem hj, List.getElem?_eq_getElem (by omega : i < l.length)]
  by_cases e : i = j
  · subst e
    exact Nat.le_refl _
  · exact (List.pairwise_iff_getElem.1 h) i j (by omega) hj (by omega)
theorem allTo_len (l : List Nat) : ∀ k, (allTo l k).length ≤ k
  | 0 => Nat.le_refl _
  | k + 1 => by
    unfold allTo
    have := allTo_len l k
    split
    · rw [List.length_append, List.length_singleton]
      omega
    · omega
theorem allTo_mem {l : List Nat} {x : Nat} : ∀ k, x ∈ allTo l k ↔ ∃ j, j < k ∧ l.getD j 0 = x
  | 0 => by simp [allTo]
  | k + 1 => by
    have ih := allTo_mem (l := l) (x := x) k
    unfold allTo
    split
    · rw [List.mem_append, ih, List.mem_singleton]
      constructor
      · rintro (⟨j, h1, h2⟩ | h)
        · exact ⟨j, by omega, h2⟩
        · exact ⟨k, by omega, h.symm⟩
      · rintro ⟨j, h1, h2⟩
        by_cases e : j = k
        · subst e
          exact Or.inr h2.symm
        · exact Or.inl ⟨j, by omega, h2⟩
    · rename_i hc
      rw [ih]
      constructor
      · rintro ⟨j, h1, h2⟩
        exact ⟨j, by omega, h2⟩
      · rintro ⟨j, h1, h2⟩
        by_cases e : j = k
        · subst e
          have hk : ¬ j = 0 ∧ l.getD j 0 = l.getD (j - 1) 0 := by
            by_cases h0 : j = 0
            · exact absurd (Or.inl h0) hc
            · refine ⟨h0, ?_⟩
              by_cases h3 : l.getD j 0 = l.getD (j - 1) 0
              · exact h3
              · exact absurd (Or.inr h3) hc
          exact ⟨j - 1, by omega, by rw [← hk.2]; exact h2⟩
        · exact ⟨j, by omega, h2⟩
theorem allTo_inc {l : List Nat} (h : srtN l) : ∀ k, k ≤ l.length → incN (allTo l k) ∧ ∀ x ∈ allTo l k, k = 0 ∨ x ≤ l.getD (k - 1) 0
  | 0, _ => ⟨by simp [allTo, incN], fun x hx => Or.inl rfl⟩
  | k + 1, hk => by
    obtain ⟨h1, h2⟩ := allTo_inc h k (by omega)
    unfold allTo
    rw [Nat.add_sub_cancel]
    split
    · rename_i hc
      refine ⟨?_, fun x hx => Or.inr ?_⟩
      · unfold incN
        rw [List.pairwise_append]
        refine ⟨h1, by simp, fun x hx y hy => ?_⟩
        obtain rfl := List.mem_singleton.1 hy
        rcases h2 x hx with h0 | h3
        · subst h0
          simp [allTo] at hx
        · have h4 := srt_getD h (i := k - 1) (j := k) (by omega) (by omega)
          by_cases h0 : k = 0
          · subst h0
            simp [allTo] at hx
          · rcases hc with hc | hc
            · exact absurd hc h0
            · omega
      · rcases List.mem_append.1 hx with hx | hx
        · rcases h2 x hx with h0 | h3
          · subst h0
            simp [allTo] at hx
          · have h4 := srt_getD h (i := k - 1) (j := k) (by omega) (by omega)
            omega
        · obtain rfl := List.mem_singleton.1 hx
          exact Nat.le_refl _
    · refine ⟨h1, fun x hx => Or.inr ?_⟩
      rcases h2 x hx with h0 | h3
      · subst h0
        simp [allTo] at hx
      · have h4 := srt_getD h (i := k - 1) (j := k) (by omega) (by omega)
        omega
theorem allN_mem {l : List Nat} {x : Nat} : x ∈ allN l ↔ x ∈ l := by
  unfold allN
  rw [allTo_mem]
  constructor
  · rintro ⟨j, h1, h2⟩
    rw [List.getD_eq_getElem?_getD, List.getElem?_eq_getElem h1] at h2
    exact h2 ▸ List.getElem_mem h1
  · intro h
    obtain ⟨j, hj, e⟩ := List.mem_iff_getElem.1 h
    exact ⟨j, hj, by rw [List.getD_eq_getElem?_getD, List.getElem?_eq_getElem hj]; exact e⟩
theorem allN_inc {l : List Nat} (h : srtN l) : incN (allN l) := (allTo_inc h l.length (Nat.le_refl _)).1
theorem inc_ext : ∀ {a b : List Nat}, incN a → incN b → (∀ x, x ∈ a ↔ x ∈ b) → a = b
  | [], [], _, _, _ => rfl
  | [], y :: b, _, _, h => by have := (h y).2 (by simp); simp at this
  | x :: a, [], _, _, h => by have := (h x).1 (by simp); simp at this
  | x :: a, y :: b, ha, hb, h => by
    have h1 := List.pairwise_cons.1 ha
    have h2 := List.pairwise_cons.1 hb
    have e : x = y := by
      rcases List.mem_cons.1 ((h x).1 (by simp)) with e | e
      · exact e
      · rcases List.mem_cons.1 ((h y).2 (by simp)) with e2 | e2
        · exact e2.symm
        · have := h1.1 y e2
          have := h2.1 x e
          omega
    subst e
    congr 1
    refine inc_ext h1.2 h2.2 (fun z => ⟨fun hz => ?_, fun hz => ?_⟩)
    · rcases List.mem_cons.1 ((h z).1 (by simp [hz])) with e | e
      · subst e
        have := h1.1 _ hz
        omega
      · exact e
    · rcases List.mem_cons.1 ((h z).2 (by simp [hz])) with e | e
      · subst e
        have := h2.1 _ hz
        omega
      · exact e
theorem srt_ext {a b : List Nat} (ha : srtN a) (hb : srtN b) (h : ∀ x, a.count x = b.count x) : a = b := by
  have hp : a.Perm b := List.perm_iff_count.2 h
  exact hp.eq_of_pairwise (fun x y _ _ h1 h2 => Nat.le_antisymm h1 h2) ha hb
def oldN (l : List Nat) : Nat × Bool := match l with
  | [] => (0, false)
  | x :: _ => (x, true)
end Go.Proofs.Ytlfmmmgdilencaa
end
