/- Package grants: steps, Sources: contracts, no statement. -/
import Derived.Test.YtbgpjboefnacgaaGkb
import Derived.Test.YtbgpjboefnacgaaLakh
namespace Go.Proofs.Ytbgpjboefnacgaa
open Go.RowKit
set_option linter.unusedVariables false

/-! One step to a label: by flowing there, or by a grant. -/
def stepG (up o : List Nat) (g : G) : List Nat := if fitsG up g = true then o.set g.t.toNat (o.getD g.t.toNat 0 ||| (2 ^ g.a.toNat ||| 2 ^ g.f.toNat)) else o
def stepsF (up : List Nat) (l : List G) : List Nat := l.foldl (stepG up) (downs up up.length)
theorem stepG_len (up o : List Nat) (g : G) : (stepG up o g).length = o.length := by unfold stepG; split <;> simp
theorem foldG_len (up : List Nat) (l : List G) : ∀ o : List Nat, (l.foldl (stepG up) o).length = o.length := by
  induction l with
  | nil => intro o; rfl
  | cons g l ih => intro o; rw [List.foldl_cons, ih, stepG_len]
theorem stepG_bit (up o : List Nat) (g : G) (h : o.length = up.length) (i j : Nat) : ubit (stepG up o g) i j = true ↔ ubit o i j = true ∨ (fitsG up g = true ∧ i = g.t.toNat ∧ (j = g.a.toNat ∨ j = g.f.toNat)) := by
  unfold stepG
  by_cases hf : fitsG up g = true
  · rw [if_pos hf]
    have ht := (fitsG_in hf).2.2.2
    unfold ubit
    by_cases e : i = g.t.toNat
    · subst e
      have e2 : (o.set g.t.toNat (o.getD g.t.toNat 0 ||| (2 ^ g.a.toNat ||| 2 ^ g.f.toNat))).getD g.t.toNat 0 = o.getD g.t.toNat 0 ||| (2 ^ g.a.toNat ||| 2 ^ g.f.toNat) := by
        simp [List.getD, h, ht]
      rw [e2]
      simp only [Nat.testBit_or, Nat.testBit_two_pow, Bool.or_eq_true, decide_eq_true_eq, hf, true_and]
      constructor
      · rintro (h1 | h1 | h1)
        · exact .inl h1
        · exact .inr (.inl h1.symm)
        · exact .inr (.inr h1.symm)
      · rintro (h1 | h1 | h1)
        · exact .inl h1
        · exact .inr (.inl h1.symm)
        · exact .inr (.inr h1.symm)
    · have e2 : (o.set g.t.toNat (o.getD g.t.toNat 0 ||| (2 ^ g.a.toNat ||| 2 ^ g.f.toNat))).getD i 0 = o.getD i 0 := by
        simp [List.getD, Ne.symm e]
      rw [e2]
      constructor
      · exact .inl
      · rintro (h1 | ⟨_, h1, _⟩)
        · exact h1
        · exact absurd h1 e
  · rw [if_neg hf]
    constructor
    · exact .inl
    · rintro (h1 | ⟨h1, _⟩)
      · exact h1
      · exact absurd h1 hf
theorem foldG_bit (up : List Nat) (l : List G) (i j : Nat) : ∀ o : List Nat, o.length = up.length → (ubit (l.foldl (stepG up) o) i j = true ↔ ubit o i j = true ∨ ∃ g, g ∈ l ∧ fitsG up g = true ∧ i = g.t.toNat ∧ (j = g.a.toNat ∨ j = g.f.toNat)) := by
  induction l with
  | nil => intro o h; simp
  | cons g l ih =>
    intro o h
    rw [List.foldl_cons, ih _ (by rw [stepG_len, h]), stepG_bit up o g h]
    constructor
    · rintro ((h1 | h1) | ⟨g', h1, h2⟩)
      · exact .inl h1
      · exact .inr ⟨g, by simp, h1⟩
      · exact .inr ⟨g', by simp [h1], h2⟩
    · rintro (h1 | ⟨g', h1, h2⟩)
      · exact .inl (.inl h1)
      · rcases List.mem_cons.1 h1 with rfl | h1
        · exact .inl (.inr h2)
        · exact .inr ⟨g', h1, h2⟩
theorem stepG_big (up o : List Nat) (g : G) (h64 : up.length ≤ 64) (h : ∀ x ∈ o, x < 2 ^ 64) : ∀ x ∈ stepG up o g, x < 2 ^ 64 := by
  unfold stepG
  by_cases hf : fitsG up g = true
  · rw [if_pos hf]
    obtain ⟨⟨_, ha⟩, ⟨_, hb⟩, _, ht⟩ := fitsG_in hf
    intro x hx
    rcases List.mem_or_eq_of_mem_set hx with hx | rfl
    · exact h x hx
    · refine Nat.or_lt_two_pow ?_ (Nat.or_lt_two_pow (Nat.pow_lt_pow_right (by omega) (by omega)) (Nat.pow_lt_pow_right (by omega) (by omega)))
      by_cases hi : g.t.toNat < o.length
      · rw [getD_at o _ hi]; exact h _ (List.getElem_mem hi)
      · have : o.getD g.t.toNat 0 = 0 := by simp [List.getD, List.getElem?_eq_none (Nat.le_of_not_lt hi)]
        rw [this]; decide
  · rw [if_neg hf]; exact h
theorem foldG_big (up : List Nat) (h64 : up.length ≤ 64) (l : List G) : ∀ o : List Nat, (∀ x ∈ o, x < 2 ^ 64) → ∀ x ∈ l.foldl (stepG up) o, x < 2 ^ 64 := by
  induction l with
  | nil => intro o h; exact h
  | cons g l ih => intro o h; rw [List.foldl_cons]; exact ih _ (stepG_big up o g h64 h)
theorem downs_big (up : List Nat) (h64 : up.length ≤ 64) (p : Nat) : ∀ x ∈ downs up p, x < 2 ^ 64 := by
  intro x hx
  unfold downs at hx
  obtain ⟨i, _, rfl⟩ := List.mem_map.1 hx
  split
  · exact Nat.lt_of_lt_of_le (mask_lt _ _) (Nat.pow_le_pow_right (by omega) h64)
  · decide
theorem stepsF_len (up : List Nat) (l : List G) : (stepsF up l).length = up.length := by unfold stepsF; rw [foldG_len, downs_len]
theorem stepsF_bit (up : List Nat) (l : List G) (h64 : up.length ≤ 64) (i j : Nat) : ubit (stepsF up l) i j = true ↔ lq up j i = true ∨ ∃ g, g ∈ l ∧ fitsG up g = true ∧ i = g.t.toNat ∧ (j = g.a.toNat ∨ j = g.f.toNat) := by
  unfold stepsF
  rw [foldG_bit up l i j _ (downs_len _ _)]
  have : ubit (downs up up.length) i j = lq up j i := by
    unfold ubit
    by_cases hi : i < up.length
    · have e : (downs up up.length).getD i 0 = downN up (i : Int) := by
        rw [getD_at _ _ (by rw [downs_len]; exact hi)]
        simp [downs, hi]
      rw [e, downN_bit, leqZ_nat]
    · have e : (downs up up.length).getD i 0 = 0 := by simp [List.getD, List.getElem?_eq_none (show (downs up up.length).length ≤ i by rw [downs_len]; omega)]
      rw [e]
      unfold lq
      simp [hi]
  rw [this]
/-- What something comes of, step by step. -/
theorem src_reach (up : List Nat) (l : List G) (x i : Nat) (h64 : up.length ≤ 64) : Src up l x i ↔ ∃ c, c < up.length ∧ x.testBit c = true ∧ Reach (stepsF up l) c i := by
  constructor
  · intro h
    have := src_least (fun i => i < up.length ∧ ∃ c, c < up.length ∧ x.testBit c = true ∧ Reach (stepsF up l) c i) (up := up) (l := l) (x := x)
      (fun j hj hx => ⟨hj, j, hj, hx, .refl j⟩)
      (fun a b ⟨hb, c, hc, hx, hr⟩ hl => ⟨(lq_iff.1 hl).2.1, c, hc, hx, .step (by rw [stepsF_len]; exact hb) (by rw [stepsF_len]; exact (lq_iff.1 hl).2.1) hr ((stepsF_bit up l h64 b a).2 (.inl hl))⟩)
      (fun g hg hf ⟨ht, c, hc, hx, hr⟩ => ⟨⟨(fitsG_in hf).1.2, c, hc, hx, .step (by rw [stepsF_len]; exact ht) (by rw [stepsF_len]; exact (fitsG_in hf).1.2) hr ((stepsF_bit up l h64 _ _).2 (.inr ⟨g, hg, hf, rfl, .inl rfl⟩))⟩,
        (fitsG_in hf).2.1.2, c, hc, hx, .step (by rw [stepsF_len]; exact ht) (by rw [stepsF_len]; exact (fitsG_in hf).2.1.2) hr ((stepsF_bit up l h64 _ _).2 (.inr ⟨g, hg, hf, rfl, .inr rfl⟩))⟩) i h
    exact this.2
  · rintro ⟨c, hc, hx, hr⟩
    induction hr with
    | refl => exact .base hc hx
    | step hb hc2 _ hu ih =>
      rcases (stepsF_bit up l h64 _ _).1 hu with h1 | ⟨g, hg, hf, rfl, rfl | rfl⟩
      · exact .down ih h1
      · exact .act hg hf ih
      · exact .frm hg hf ih
def accN (o : List Nat) (x : Nat) : Nat → Nat
  | 0 => 0
  | k + 1 => if x.testBit k = true then accN o x k ||| o.getD k 0 else accN o x k
theorem accN_bit (o : List Nat) (x i : Nat) : ∀ k, ((accN o x k).testBit i = true ↔ ∃ c, c < k ∧ x.testBit c = true ∧ ubit o c i = true) := by
  intro k
  induction k with
  | zero => simp [accN]
  | succ k ih =>
    unfold accN
    by_cases hx : x.testBit k = true
    · rw [if_pos hx, Nat.testBit_or, Bool.or_eq_true, ih]
      constructor
      · rintro (⟨c, h1, h2, h3⟩ | h1)
        · exact ⟨c, by omega, h2, h3⟩
        · exact ⟨k, by omega, hx, h1⟩
      · rintro ⟨c, h1, h2, h3⟩
        by_cases e : c = k
        · subst e; exact .inr h3
        · exact .inl ⟨c, by omega, h2, h3⟩
    · rw [if_neg hx, ih]
      constructor
      · rintro ⟨c, h1, h2, h3⟩
        exact ⟨c, by omega, h2, h3⟩
      · rintro ⟨c, h1, h2, h3⟩
        by_cases e : c = k
        · subst e; exact absurd h2 hx
        · exact ⟨c, by omega, h2, h3⟩
theorem accN_lt (o : List Nat) (x : Nat) (h : ∀ y ∈ o, y < 2 ^ 64) (k : Nat) (hk : k ≤ o.length) : accN o x k < 2 ^ 64 := by
  induction k with
  | zero => simp [accN]
  | succ k ih =>
    unfold accN
    split
    · refine Nat.or_lt_two_pow (ih (by omega)) ?_
      rw [getD_at o k (by omega)]
      exact h _ (List.getElem_mem _)
    · exact ih (by omega)
theorem closeN_bit (s : List Nat) (h64 : s.length ≤ 64) (a b : Nat) (ha : a < s.length) : ubit (closeN s) a b = true ↔ b < s.length ∧ Reach s a b := by
  unfold closeN
  rw [if_neg (by omega)]
  unfold ubit
  rw [getD_at _ _ (by simpa using ha)]
  simp [mask_bit]
theorem acc_src (up : List Nat) (l : List G) (x : Nat) (h64 : up.length ≤ 64) : accN (closeN (stepsF up l)) x up.length = srcN up l x := by
  apply srcN_is
  intro i
  rw [accN_bit, src_reach up l x i h64]
  constructor
  · rintro ⟨c, h1, h2, h3⟩
    exact ⟨c, h1, h2, ((closeN_bit _ (by rw [stepsF_len]; exact h64) c i (by rw [stepsF_len]; exact h1)).1 h3).2⟩
  · rintro ⟨c, h1, h2, h3⟩
    refine ⟨c, h1, h2, (closeN_bit _ (by rw [stepsF_len]; exact h64) c i (by rw [stepsF_len]; exact h1)).2 ⟨?_, h3⟩⟩
    have : Src up l x i := (src_reach up l x i h64).2 ⟨c, h1, h2, h3⟩
    rw [stepsF_len]
    exact this.lt
theorem closeN_big (s : List Nat) (h64 : s.length ≤ 64) : ∀ y ∈ closeN s, y < 2 ^ 64 := by
  unfold closeN
  rw [if_neg (by omega)]
  intro y hy
  obtain ⟨a, _, rfl⟩ := List.mem_map.1 hy
  exact Nat.lt_of_lt_of_le (mask_lt _ _) (Nat.pow_le_pow_right (by omega) h64)

end Go.Proofs.Ytbgpjboefnacgaa
