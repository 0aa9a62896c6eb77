/- The mathematics of labels (rows of bits): no statement. -/
import Derived.Test.YtbgpjboefnacgaaMem
namespace Go.Proofs.Ytbgpjboefnacgaa
set_option linter.unusedVariables false

/-! Bits. -/
/-- The bits below n at which p holds. -/
def mask (p : Nat → Bool) : Nat → Nat
  | 0 => 0
  | n + 1 => mask p n + if p n then 2 ^ n else 0
theorem mask_lt (p : Nat → Bool) (n : Nat) : mask p n < 2 ^ n := by
  induction n with
  | zero => simp [mask]
  | succ n ih =>
    unfold mask
    rw [Nat.pow_succ]
    split <;> omega
theorem testBit_add_pow (x n i : Nat) (h : x < 2 ^ n) : (x + 2 ^ n).testBit i = (x.testBit i || decide (i = n)) := by
  have e : x + 2 ^ n = 2 ^ n * 1 ||| x := by
    have := Nat.two_pow_add_eq_or_of_lt h 1
    omega
  rw [e, Nat.testBit_or, Nat.mul_one, Nat.testBit_two_pow, Bool.or_comm]
  congr 1
  simp [eq_comm]
theorem mask_bit (p : Nat → Bool) (n i : Nat) : (mask p n).testBit i = (decide (i < n) && p i) := by
  induction n with
  | zero => simp [mask]
  | succ n ih =>
    unfold mask
    by_cases hp : p n = true
    · rw [if_pos hp, testBit_add_pow _ _ _ (mask_lt p n), ih]
      by_cases h : i = n
      · subst h; simp [hp]
      · have e : decide (i < n + 1) = decide (i < n) := by simp; omega
        rw [e]
        simp [h]
    · rw [if_neg hp, Nat.add_zero, ih]
      by_cases h : i = n
      · subst h
        simp at hp
        simp [hp]
      · have e : decide (i < n + 1) = decide (i < n) := by simp; omega
        rw [e]
theorem mask_congr {p q : Nat → Bool} {n : Nat} (h : ∀ i, i < n → p i = q i) : mask p n = mask q n := by
  induction n with
  | zero => rfl
  | succ n ih =>
    unfold mask
    rw [ih (fun i hi => h i (by omega)), h n (by omega)]
theorem bits_eq {x n : Nat} {p : Nat → Bool} (h : ∀ i, x.testBit i = (decide (i < n) && p i)) : x = mask p n :=
  Nat.eq_of_testBit_eq fun i => by rw [h, mask_bit]
/-- A bit that isn't there is added. -/
theorem add_bit (x k i : Nat) (h : x.testBit k = false) : (x + 2 ^ k).testBit i = (x.testBit i || decide (i = k)) := by
  obtain ⟨q, r, hr, hx⟩ : ∃ q r, r < 2 ^ k ∧ x = 2 ^ k * q + r := ⟨x / 2 ^ k, x % 2 ^ k, Nat.mod_lt _ (Nat.pow_pos (by omega)), (Nat.div_add_mod x (2 ^ k)).symm⟩
  subst hx
  rw [Nat.testBit_two_pow_mul_add _ hr, if_neg (by omega), Nat.sub_self, Nat.testBit_zero] at h
  have h2 : q % 2 = 0 := by simp at h; omega
  have e : 2 ^ k * q + r + 2 ^ k = 2 ^ k * (q + 1) + r := by rw [Nat.mul_add, Nat.mul_one]; omega
  rw [e, Nat.testBit_two_pow_mul_add _ hr, Nat.testBit_two_pow_mul_add _ hr]
  by_cases hi : i < k
  · have : ¬ i = k := by omega
    simp [hi, this]
  · rw [if_neg hi, if_neg hi]
    by_cases hk : i = k
    · subst hk
      rw [Nat.sub_self, Nat.testBit_zero, Nat.testBit_zero]
      simp
      omega
    · obtain ⟨j, hj⟩ : ∃ j, i - k = j + 1 := ⟨i - k - 1, by omega⟩
      rw [hj, Nat.testBit_succ, Nat.testBit_succ, show (q + 1) / 2 = q / 2 by omega]
      simp [hk]

/-! The first of n that fits. -/
def firstN (p : Nat → Bool) (n : Nat) : Int := match (List.range n).find? p with
  | some k => k
  | none => -1
theorem firstN_some {p : Nat → Bool} {n k : Nat} (hk : k < n) (hp : p k = true) (h : ∀ j, j < k → p j = false) : firstN p n = k := by
  unfold firstN
  have e : (List.range n).find? p = some k := by
    rw [List.find?_range_eq_some]
    exact ⟨hp, by simpa using hk, fun j hj => by simp [h j hj]⟩
  rw [e]
theorem firstN_none {p : Nat → Bool} {n : Nat} (h : ∀ j, j < n → p j = false) : firstN p n = -1 := by
  unfold firstN
  have e : (List.range n).find? p = none := by
    rw [List.find?_eq_none]
    intro j hj
    simp at hj
    simp [h j hj]
  rw [e]
theorem firstN_cases (p : Nat → Bool) (n : Nat) : (∃ k, k < n ∧ p k = true ∧ (∀ j, j < k → p j = false) ∧ firstN p n = k) ∨ ((∀ j, j < n → p j = false) ∧ firstN p n = -1) := by
  by_cases h : ∃ k, k < n ∧ p k = true
  · left
    have hex : ∃ k, k < n ∧ p k = true := h
    obtain ⟨k, ⟨hk, hp⟩, hmin⟩ : ∃ k, (k < n ∧ p k = true) ∧ ∀ j, j < k → ¬ (j < n ∧ p j = true) := by
      obtain ⟨k, hk⟩ := h
      induction k using Nat.strongRecOn with
      | ind k ih =>
        by_cases hj : ∃ j, j < k ∧ j < n ∧ p j = true
        · obtain ⟨j, h1, h2⟩ := hj
          exact ih j h1 h2
        · exact ⟨k, hk, fun j hlt hh => hj ⟨j, hlt, hh⟩⟩
    have hf : ∀ j, j < k → p j = false := fun j hj => by
      have := hmin j hj
      cases hpj : p j
      · rfl
      · exact absurd ⟨by omega, hpj⟩ this
    exact ⟨k, hk, hp, hf, firstN_some hk hp hf⟩
  · right
    have hf : ∀ j, j < n → p j = false := fun j hj => by
      cases hpj : p j
      · rfl
      · exact absurd ⟨j, hj, hpj⟩ h
    exact ⟨hf, firstN_none hf⟩
theorem firstN_nonneg {p : Nat → Bool} {n : Nat} : 0 ≤ firstN p n ↔ ∃ k, k < n ∧ p k = true := by
  rcases firstN_cases p n with ⟨k, h1, h2, _, h4⟩ | ⟨h1, h2⟩
  · rw [h4]
    exact ⟨fun _ => ⟨k, h1, h2⟩, fun _ => by omega⟩
  · rw [h2]
    exact ⟨fun h => by omega, fun ⟨k, hk, hp⟩ => by rw [h1 k hk] at hp; cases hp⟩
theorem firstN_congr {p q : Nat → Bool} {n : Nat} (h : ∀ i, i < n → p i = q i) : firstN p n = firstN q n := by
  rcases firstN_cases p n with ⟨k, h1, h2, h3, h4⟩ | ⟨h1, h2⟩
  · rw [h4, firstN_some h1 (by rw [← h k h1]; exact h2) (fun j hj => by rw [← h j (by omega)]; exact h3 j hj)]
  · rw [h2, firstN_none (fun j hj => by rw [← h j hj]; exact h1 j hj)]

/-! Rows: which label may flow to which. -/
theorem getD_at (l : List Nat) (i : Nat) (h : i < l.length) : l.getD i 0 = l[i] := by simp [List.getD, List.getElem?_eq_getElem h]
def ubit (up : List Nat) (a b : Nat) : Bool := (up.getD a 0).testBit b
def lq (up : List Nat) (a b : Nat) : Bool := decide (up.length ≤ 64) && decide (a < up.length) && decide (b < up.length) && ubit up a b
def leqZ (up : List Nat) (a b : Int) : Bool := decide (0 ≤ a) && decide (0 ≤ b) && lq up a.toNat b.toNat
theorem leqZ_nat (up : List Nat) (a b : Nat) : leqZ up a b = lq up a b := by simp [leqZ]
theorem lq_iff {up : List Nat} {a b : Nat} : lq up a b = true ↔ up.length ≤ 64 ∧ a < up.length ∧ b < up.length ∧ ubit up a b = true := by
  simp [lq, and_assoc]
theorem leqZ_iff {up : List Nat} {a b : Int} : leqZ up a b = true ↔ 0 ≤ a ∧ 0 ≤ b ∧ lq up a.toNat b.toNat = true := by
  simp [leqZ, and_assoc]
theorem leqZ_out {up : List Nat} {a b : Int} (h : up.length > 64 ∨ a < 0 ∨ (up.length : Int) ≤ a ∨ b < 0 ∨ (up.length : Int) ≤ b) : leqZ up a b = false := by
  cases hc : leqZ up a b
  · rfl
  · obtain ⟨h1, h2, h3⟩ := leqZ_iff.1 hc
    obtain ⟨h4, h5, h6, _⟩ := lq_iff.1 h3
    omega
def downN (up : List Nat) (a : Int) : Nat := mask (fun i => leqZ up i a) up.length
def aboveN (up : List Nat) (a : Int) : Nat := mask (fun i => leqZ up a i) up.length
def isJ (up : List Nat) (a b : Int) (c : Nat) : Bool := (leqZ up a c && leqZ up b c) && (List.range up.length).all fun d => !(leqZ up a d && leqZ up b d) || leqZ up c d
def isM (up : List Nat) (a b : Int) (c : Nat) : Bool := (leqZ up c a && leqZ up c b) && (List.range up.length).all fun d => !(leqZ up d a && leqZ up d b) || leqZ up d c
def joinN (up : List Nat) (a b : Int) : Int := firstN (isJ up a b) up.length
def meetN (up : List Nat) (a b : Int) : Int := firstN (isM up a b) up.length
theorem isJ_iff {up : List Nat} {a b : Int} {c : Nat} : isJ up a b c = true ↔ leqZ up a c = true ∧ leqZ up b c = true ∧ ∀ d : Nat, leqZ up a d = true → leqZ up b d = true → leqZ up c d = true := by
  unfold isJ
  rw [Bool.and_eq_true, Bool.and_eq_true, List.all_eq_true, and_assoc]
  constructor
  · rintro ⟨h1, h2, h3⟩
    refine ⟨h1, h2, fun d ha hb => ?_⟩
    have hd : d < up.length := by
      obtain ⟨_, _, h⟩ := leqZ_iff.1 ha
      simpa using (lq_iff.1 h).2.2.1
    have := h3 d (by simpa using hd)
    simpa [ha, hb] using this
  · rintro ⟨h1, h2, h3⟩
    refine ⟨h1, h2, fun d hd => ?_⟩
    cases ha : leqZ up a d
    · simp
    · cases hb : leqZ up b d
      · simp
      · simp [h3 d ha hb]
theorem isM_iff {up : List Nat} {a b : Int} {c : Nat} : isM up a b c = true ↔ leqZ up c a = true ∧ leqZ up c b = true ∧ ∀ d : Nat, leqZ up d a = true → leqZ up d b = true → leqZ up d c = true := by
  unfold isM
  rw [Bool.and_eq_true, Bool.and_eq_true, List.all_eq_true, and_assoc]
  constructor
  · rintro ⟨h1, h2, h3⟩
    refine ⟨h1, h2, fun d ha hb => ?_⟩
    have hd : d < up.length := by
      obtain ⟨_, _, h⟩ := leqZ_iff.1 ha
      simpa using (lq_iff.1 h).2.1
    have := h3 d (by simpa using hd)
    simpa [ha, hb] using this
  · rintro ⟨h1, h2, h3⟩
    refine ⟨h1, h2, fun d hd => ?_⟩
    cases ha : leqZ up d a
    · simp
    · cases hb : leqZ up d b
      · simp
      · simp [h3 d ha hb]
theorem isJ_comm (up : List Nat) (a b : Int) (c : Nat) : isJ up a b c = isJ up b a c := by
  rw [Bool.eq_iff_iff, isJ_iff, isJ_iff]
  exact ⟨fun ⟨h1, h2, h3⟩ => ⟨h2, h1, fun d x y => h3 d y x⟩, fun ⟨h1, h2, h3⟩ => ⟨h2, h1, fun d x y => h3 d y x⟩⟩
theorem isM_comm (up : List Nat) (a b : Int) (c : Nat) : isM up a b c = isM up b a c := by
  rw [Bool.eq_iff_iff, isM_iff, isM_iff]
  exact ⟨fun ⟨h1, h2, h3⟩ => ⟨h2, h1, fun d x y => h3 d y x⟩, fun ⟨h1, h2, h3⟩ => ⟨h2, h1, fun d x y => h3 d y x⟩⟩
theorem joinN_comm (up : List Nat) (a b : Int) : joinN up a b = joinN up b a := firstN_congr fun c _ => isJ_comm up a b c
theorem meetN_comm (up : List Nat) (a b : Int) : meetN up a b = meetN up b a := firstN_congr fun c _ => isM_comm up a b c

/-- The rows are a lattice. -/
def IsLat (up : List Nat) : Prop :=
  (1 ≤ up.length ∧ up.length ≤ 64) ∧ (∀ a, a < up.length → ∀ b, b < 64 → ubit up a b = true → b < up.length) ∧ (∀ a, a < up.length → ubit up a a = true) ∧
  (∀ a, a < up.length → ∀ b, b < up.length → a ≠ b → ubit up a b = true → ubit up b a = false) ∧
  (∀ a, a < up.length → ∀ b, b < up.length → ubit up a b = true → ∀ c, c < up.length → ubit up b c = true → ubit up a c = true) ∧
  (∀ a, a < up.length → ∀ b, b < up.length → 0 ≤ joinN up a b ∧ 0 ≤ meetN up a b)
open Classical in
noncomputable def checkB (up : List Nat) : Bool := decide (IsLat up)
theorem checkB_iff {up : List Nat} : checkB up = true ↔ IsLat up := by simp [checkB]
theorem checkB_yes {up : List Nat} (h : IsLat up) : checkB up = true := checkB_iff.2 h
theorem checkB_no {up : List Nat} (h : ¬ IsLat up) : checkB up = false := by
  cases e : checkB up
  · rfl
  · exact absurd (checkB_iff.1 e) h
theorem lat32 : IsLat [3, 2] := ⟨by decide, by decide, by decide, by decide, by decide, by decide⟩
theorem lat12 : ¬ IsLat [1, 2] := fun h => by
  have := (h.2.2.2.2.2 0 (by decide) 1 (by decide)).1
  revert this
  decide

section
variable {up : List Nat}
theorem IsLat.rfl_ (h : IsLat up) {a : Nat} (ha : a < up.length) : lq up a a = true := lq_iff.2 ⟨h.1.2, ha, ha, h.2.2.1 a ha⟩
theorem IsLat.anti (h : IsLat up) {a b : Nat} (h1 : lq up a b = true) (h2 : lq up b a = true) : a = b := by
  obtain ⟨_, ha, hb, k1⟩ := lq_iff.1 h1
  obtain ⟨_, _, _, k2⟩ := lq_iff.1 h2
  by_cases e : a = b
  · exact e
  · have := h.2.2.2.1 a ha b hb e k1
    rw [this] at k2
    cases k2
theorem IsLat.trans_ (h : IsLat up) {a b c : Nat} (h1 : lq up a b = true) (h2 : lq up b c = true) : lq up a c = true := by
  obtain ⟨hn, ha, hb, k1⟩ := lq_iff.1 h1
  obtain ⟨_, _, hc, k2⟩ := lq_iff.1 h2
  exact lq_iff.2 ⟨hn, ha, hc, h.2.2.2.2.1 a ha b hb k1 c hc k2⟩
theorem IsLat.join (h : IsLat up) {a b : Nat} (ha : a < up.length) (hb : b < up.length) :
    ∃ j, j < up.length ∧ joinN up a b = (j : Int) ∧ lq up a j = true ∧ lq up b j = true ∧ ∀ d : Nat, lq up a d = true → lq up b d = true → lq up j d = true := by
  have h0 := (h.2.2.2.2.2 a ha b hb).1
  unfold joinN at h0 ⊢
  rcases firstN_cases (isJ up a b) up.length with ⟨k, h1, h2, _, h4⟩ | ⟨_, h2⟩
  · have := isJ_iff.1 h2
    simp only [leqZ_nat] at this
    exact ⟨k, h1, h4, this.1, this.2.1, this.2.2⟩
  · omega
theorem IsLat.meet (h : IsLat up) {a b : Nat} (ha : a < up.length) (hb : b < up.length) :
    ∃ m, m < up.length ∧ meetN up a b = (m : Int) ∧ lq up m a = true ∧ lq up m b = true ∧ ∀ d : Nat, lq up d a = true → lq up d b = true → lq up d m = true := by
  have h0 := (h.2.2.2.2.2 a ha b hb).2
  unfold meetN at h0 ⊢
  rcases firstN_cases (isM up a b) up.length with ⟨k, h1, h2, _, h4⟩ | ⟨_, h2⟩
  · have := isM_iff.1 h2
    simp only [leqZ_nat] at this
    exact ⟨k, h1, h4, this.1, this.2.1, this.2.2⟩
  · omega
/-- Whatever is a join is the join. -/
theorem IsLat.join_is (h : IsLat up) {a b j : Nat} (h1 : lq up a j = true) (h2 : lq up b j = true) (h3 : ∀ d : Nat, lq up a d = true → lq up b d = true → lq up j d = true) : joinN up a b = (j : Int) := by
  obtain ⟨j', _, e, k1, k2, k3⟩ := h.join (lq_iff.1 h1).2.1 (lq_iff.1 h2).2.1
  rw [e, h.anti (k3 j h1 h2) (h3 j' k1 k2)]
theorem IsLat.meet_is (h : IsLat up) {a b m : Nat} (h1 : lq up m a = true) (h2 : lq up m b = true) (h3 : ∀ d : Nat, lq up d a = true → lq up d b = true → lq up d m = true) : meetN up a b = (m : Int) := by
  obtain ⟨m', _, e, k1, k2, k3⟩ := h.meet (lq_iff.1 h1).2.2.1 (lq_iff.1 h2).2.2.1
  rw [e, h.anti (h3 m' k1 k2) (k3 m h1 h2)]
/-- The first of two flows to the second, just if the join is this. -/
theorem IsLat.join_le (h : IsLat up) {a b j : Nat} (ha : a < up.length) (hb : b < up.length) (hj : joinN up a b = (j : Int)) : lq up a b = true ↔ j = b := by
  obtain ⟨j', _, e, k1, k2, k3⟩ := h.join ha hb
  obtain rfl : j = j' := by omega
  constructor
  · intro hab
    exact h.anti (k3 b hab (h.rfl_ hb)) k2
  · rintro rfl
    exact k1
theorem IsLat.meet_le (h : IsLat up) {a b m : Nat} (ha : a < up.length) (hb : b < up.length) (hm : meetN up a b = (m : Int)) : lq up a b = true ↔ m = a := by
  obtain ⟨m', _, e, k1, k2, k3⟩ := h.meet ha hb
  obtain rfl : m = m' := by omega
  constructor
  · intro hab
    exact h.anti k1 (k3 a (h.rfl_ ha) hab)
  · rintro rfl
    exact k2
theorem IsLat.join_meet (h : IsLat up) {a b m : Nat} (ha : a < up.length) (hb : b < up.length) (hm : meetN up a b = (m : Int)) : joinN up a m = (a : Int) := by
  obtain ⟨m', _, e, k1, k2, k3⟩ := h.meet ha hb
  obtain rfl : m = m' := by omega
  exact h.join_is (h.rfl_ ha) k1 fun d h1 _ => h1
theorem IsLat.meet_join (h : IsLat up) {a b j : Nat} (ha : a < up.length) (hb : b < up.length) (hj : joinN up a b = (j : Int)) : meetN up a j = (a : Int) := by
  obtain ⟨j', _, e, k1, k2, k3⟩ := h.join ha hb
  obtain rfl : j = j' := by omega
  exact h.meet_is (h.rfl_ ha) k1 fun d h1 _ => h1
theorem IsLat.join_assoc (h : IsLat up) {a b c j k : Nat} (ha : a < up.length) (hb : b < up.length) (hc : c < up.length) (hj : joinN up a b = (j : Int)) (hk : joinN up b c = (k : Int)) : joinN up j c = joinN up a k := by
  obtain ⟨j', lj, e, j1, j2, j3⟩ := h.join ha hb
  obtain rfl : j = j' := by omega
  obtain ⟨k', lk, e2, k1, k2, k3⟩ := h.join hb hc
  obtain rfl : k = k' := by omega
  obtain ⟨x, lx, e3, x1, x2, x3⟩ := h.join lj hc
  rw [e3]
  symm
  exact h.join_is (h.trans_ j1 x1) (k3 x (h.trans_ j2 x1) x2) fun d h1 h2 => x3 d (j3 d h1 (h.trans_ k1 h2)) (h.trans_ k2 h2)
theorem IsLat.meet_assoc (h : IsLat up) {a b c j k : Nat} (ha : a < up.length) (hb : b < up.length) (hc : c < up.length) (hj : meetN up a b = (j : Int)) (hk : meetN up b c = (k : Int)) : meetN up j c = meetN up a k := by
  obtain ⟨j', lj, e, j1, j2, j3⟩ := h.meet ha hb
  obtain rfl : j = j' := by omega
  obtain ⟨k', lk, e2, k1, k2, k3⟩ := h.meet hb hc
  obtain rfl : k = k' := by omega
  obtain ⟨x, lx, e3, x1, x2, x3⟩ := h.meet lj hc
  rw [e3]
  symm
  exact h.meet_is (h.trans_ x1 j1) (k3 x (h.trans_ x1 j2) x2) fun d h1 h2 => x3 d (j3 d h1 (h.trans_ h2 k1)) (h.trans_ h2 k2)
theorem IsLat.meet_iff (h : IsLat up) {a b m : Nat} (c : Nat) (ha : a < up.length) (hb : b < up.length) (hm : meetN up a b = (m : Int)) : (lq up c a = true ∧ lq up c b = true) ↔ lq up c m = true := by
  obtain ⟨m', _, e, k1, k2, k3⟩ := h.meet ha hb
  obtain rfl : m = m' := by omega
  exact ⟨fun ⟨h1, h2⟩ => k3 c h1 h2, fun hh => ⟨h.trans_ hh k1, h.trans_ hh k2⟩⟩
theorem IsLat.join_iff (h : IsLat up) {a b j : Nat} (c : Nat) (ha : a < up.length) (hb : b < up.length) (hj : joinN up a b = (j : Int)) : (lq up a c = true ∧ lq up b c = true) ↔ lq up j c = true := by
  obtain ⟨j', _, e, k1, k2, k3⟩ := h.join ha hb
  obtain rfl : j = j' := by omega
  exact ⟨fun ⟨h1, h2⟩ => k3 c h1 h2, fun hh => ⟨h.trans_ k1 hh, h.trans_ k2 hh⟩⟩
end

/-- It is enough to look at two labels in one order, and at different ones. -/
theorem isLat_of (up : List Nat) (h1 : 1 ≤ up.length ∧ up.length ≤ 64) (h2 : ∀ a, a < up.length → ∀ b, b < 64 → ubit up a b = true → b < up.length) (h3 : ∀ a, a < up.length → ubit up a a = true)
    (h4 : ∀ a, a < up.length → ∀ b, b < up.length → a ≠ b → ubit up a b = true → ubit up b a = false)
    (h5 : ∀ a, a < up.length → ∀ b, b < up.length → ubit up a b = true → ∀ c, c < up.length → ubit up b c = true → ubit up a c = true)
    (h6 : ∀ a, a < up.length → ∀ b, b < a → 0 ≤ joinN up a b ∧ 0 ≤ meetN up a b) : IsLat up := by
  refine ⟨h1, h2, h3, h4, h5, fun a ha b hb => ?_⟩
  rcases Nat.lt_trichotomy a b with hlt | rfl | hlt
  · have := h6 b hb a hlt
    rw [joinN_comm, meetN_comm] at this
    exact this
  · have hr : lq up a a = true := lq_iff.2 ⟨h1.2, ha, ha, h3 a ha⟩
    constructor
    · exact firstN_nonneg.2 ⟨a, ha, isJ_iff.2 ⟨by rw [leqZ_nat]; exact hr, by rw [leqZ_nat]; exact hr, fun d h _ => h⟩⟩
    · exact firstN_nonneg.2 ⟨a, ha, isM_iff.2 ⟨by rw [leqZ_nat]; exact hr, by rw [leqZ_nat]; exact hr, fun d h _ => h⟩⟩
  · exact h6 a ha b hlt

/-! The labels of bits. -/
def listN (x : Nat) : List Nat := (List.range 64).filter fun k => x.testBit k

/-! What follows from rows. -/
inductive Reach (up : List Nat) : Nat → Nat → Prop
  | refl (a : Nat) : Reach up a a
  | step {a b c : Nat} : b < up.length → c < up.length → Reach up a b → ubit up b c = true → Reach up a c
theorem Reach.trans_ {up : List Nat} {a b c : Nat} (h : Reach up a b) (k : Reach up b c) : Reach up a c := by
  induction k with
  | refl => exact h
  | step hb hc _ hu ih => exact .step hb hc ih hu
open Classical in
/-- The rows with all that follows from them. -/
noncomputable def closeN (up : List Nat) : List Nat := if 64 < up.length then [] else (List.range up.length).map fun a => mask (fun b => decide (Reach up a b)) up.length
theorem closeN_is (up out : List Nat) (h64 : up.length ≤ 64) (hl : out.length = up.length) (hb : ∀ a, a < up.length → ∀ b, ubit out a b = true ↔ b < up.length ∧ Reach up a b) : out = closeN up := by
  unfold closeN
  rw [if_neg (by omega)]
  apply List.ext_getElem (by simp [hl])
  intro a h1 h2
  have ha : a < up.length := by omega
  simp only [List.getElem_map, List.getElem_range]
  apply bits_eq
  intro i
  have h := hb a ha i
  unfold ubit at h
  rw [getD_at _ _ h1] at h
  rw [Bool.eq_iff_iff, h]
  simp
theorem closeN_len (up : List Nat) (h : up.length ≤ 64) : (closeN up).length = up.length := by
  unfold closeN
  rw [if_neg (by omega)]
  simp
theorem closeN_many (up : List Nat) (h : 64 < up.length) : closeN up = [] := by
  unfold closeN
  rw [if_pos h]
/-- Rows that hold the first ones, themselves, and what follows of two. -/
theorem reach_of_closed (up out : List Nat) (h0 : ∀ a, a < up.length → ubit out a a = true) (h1 : ∀ a, a < up.length → ∀ b, b < up.length → ubit up a b = true → ubit out a b = true)
    (h2 : ∀ a, a < up.length → ∀ b, b < up.length → ∀ c, c < up.length → ubit out a b = true → ubit out b c = true → ubit out a c = true) (a b : Nat) (ha : a < up.length) (h : Reach up a b) : ubit out a b = true := by
  induction h with
  | refl => exact h0 a ha
  | @step b c hb hc _ hu ih => exact h2 a ha b hb c hc ih (h1 b hb c hc hu)
theorem closeN_lat (up : List Nat) (h : IsLat up) (hm : ∀ x ∈ up, x < 2 ^ 64) : closeN up = up := by
  symm
  refine closeN_is up up h.1.2 rfl fun a ha b => ⟨fun hu => ?_, fun ⟨hb, hr⟩ => reach_of_closed up up h.2.2.1 (fun _ _ _ _ x => x) (fun a ha b hb c hc x y => h.2.2.2.2.1 a ha b hb x c hc y) a b ha hr⟩
  have hb : b < 64 := by
    by_cases hlt : b < 64
    · exact hlt
    · exfalso
      unfold ubit at hu
      rw [getD_at _ _ ha] at hu
      have hx := hm up[a] (List.getElem_mem ha)
      have : up[a] < 2 ^ b := Nat.lt_of_lt_of_le hx (Nat.pow_le_pow_right (by omega) (by omega))
      rw [Nat.testBit_lt_two_pow this] at hu
      cases hu
  have hbn := h.2.1 a ha b hb hu
  exact ⟨hbn, .step ha hbn (.refl a) hu⟩

end Go.Proofs.Ytbgpjboefnacgaa
