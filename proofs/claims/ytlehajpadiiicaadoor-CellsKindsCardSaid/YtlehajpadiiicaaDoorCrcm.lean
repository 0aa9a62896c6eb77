/- The document's sum of bytes: plain mathematics over natural numbers, no program. -/
import Derived.Test.YtlehajpadiiicaaDoorKit
namespace Go.Proofs.YtlehajpadiiicaaDoor
open Go.RowKit

/-- One step of eight: halved, and xored if it was odd. -/
def st (x : Nat) : Nat := x / 2 ^^^ (if x % 2 = 1 then 3988292384 else 0)
def sts : Nat → Nat → Nat
  | 0, x => x
  | n + 1, x => sts n (st x)

theorem mod2_xor (x y : Nat) : (x ^^^ y) % 2 = (x % 2 + y % 2) % 2 := by
  have h := @Nat.xor_mod_two_eq_one x y
  omega
theorem div2_xor (x y : Nat) : (x ^^^ y) / 2 = x / 2 ^^^ y / 2 := by
  have h := Nat.shiftRight_xor_distrib (a := x) (b := y) (i := 1)
  simpa [Nat.shiftRight_succ] using h
theorem xor_four (a b c d : Nat) : (a ^^^ b) ^^^ (c ^^^ d) = (a ^^^ c) ^^^ (b ^^^ d) := by
  rw [Nat.xor_assoc, Nat.xor_assoc, ← Nat.xor_assoc b, ← Nat.xor_assoc c, Nat.xor_comm b c]
theorem st_xor (x y : Nat) : st (x ^^^ y) = st x ^^^ st y := by
  unfold st
  rw [div2_xor, xor_four, mod2_xor]
  congr 1
  rcases Nat.mod_two_eq_zero_or_one x with hx | hx <;> rcases Nat.mod_two_eq_zero_or_one y with hy | hy <;> simp [hx, hy]
theorem sts_xor (n : Nat) : ∀ x y, sts n (x ^^^ y) = sts n x ^^^ sts n y := by
  induction n with
  | zero => intro x y; rfl
  | succ n ih => intro x y; rw [sts, sts, sts, st_xor, ih]
theorem st_zero : st 0 = 0 := by decide
theorem sts_zero (n : Nat) : sts n 0 = 0 := by
  induction n with
  | zero => rfl
  | succ n ih => rw [sts, st_zero, ih]
theorem sts_add (n m : Nat) : ∀ x, sts (n + m) x = sts m (sts n x) := by
  induction n with
  | zero => intro x; rw [Nat.zero_add]; rfl
  | succ n ih => intro x; rw [Nat.add_right_comm, sts, sts, ih]
theorem st_even (y : Nat) : st (2 * y) = y := by
  unfold st
  have h : 2 * y % 2 = 0 := by omega
  rw [h]
  simp
theorem sts_shift (n : Nat) : ∀ y, sts n (2 ^ n * y) = y := by
  induction n with
  | zero => intro y; simp [sts]
  | succ n ih =>
    intro y
    have e : 2 ^ (n + 1) * y = 2 * (2 ^ n * y) := by rw [Nat.pow_succ]; ac_rfl
    rw [sts, e, st_even, ih]
theorem st_lt (x : Nat) (h : x < 4294967296) : st x < 4294967296 := by
  unfold st
  exact Nat.xor_lt_two_pow (n := 32) (by omega) (by split <;> omega)
theorem sts_lt (n : Nat) : ∀ x, x < 4294967296 → sts n x < 4294967296 := by
  induction n with
  | zero => intro x h; exact h
  | succ n ih => intro x h; exact ih _ (st_lt x h)
theorem xor_eq_zero {a b : Nat} (h : a ^^^ b = 0) : a = b := by
  have h2 : (a ^^^ b) ^^^ b = 0 ^^^ b := by rw [h]
  rw [Nat.xor_assoc, Nat.xor_self, Nat.xor_zero, Nat.zero_xor] at h2
  exact h2
theorem st_ne (x : Nat) (h : x < 4294967296) (h0 : st x = 0) : x = 0 := by
  unfold st at h0
  have h1 := xor_eq_zero h0
  split at h1 <;> omega
theorem sts_ne (n : Nat) : ∀ x, x < 4294967296 → sts n x = 0 → x = 0 := by
  induction n with
  | zero => intro x _ h; exact h
  | succ n ih => intro x h h0; exact st_ne x h (ih _ (st_lt x h) h0)

/-- A byte, and all bytes. -/
def bt (x : Nat) (c : UInt8) : Nat := sts 8 (x ^^^ c.toNat)
def fd (x : Nat) (l : List UInt8) : Nat := l.foldl bt x
/-- The number whose digits the bytes are, the lowest first. -/
def dg : List UInt8 → Nat
  | [] => 0
  | c :: l => c.toNat + 256 * dg l
theorem add_xor (c : UInt8) (r : Nat) : c.toNat + 256 * r = c.toNat ^^^ 256 * r := by
  have h := Nat.two_pow_add_eq_or_of_lt (b := c.toNat) (i := 8) c.toNat_lt r
  have hx : (256 * r) ^^^ c.toNat = 256 * r + c.toNat := by
    apply Nat.eq_of_testBit_eq
    intro i
    have e : 256 * r = 2 ^ 8 * r := by omega
    rw [e, h, Nat.testBit_xor, Nat.testBit_or, Nat.testBit_two_pow_mul]
    by_cases hi : 8 ≤ i
    · have : c.toNat.testBit i = false := Nat.testBit_lt_two_pow (Nat.lt_of_lt_of_le c.toNat_lt (Nat.pow_le_pow_right (by omega) hi))
      simp [this]
    · simp [hi]
  rw [Nat.xor_comm, hx, Nat.add_comm]
theorem xor_low (a r : Nat) (h : a < 16) : a ^^^ 16 * r = a + 16 * r := by
  have h1 := Nat.two_pow_add_eq_or_of_lt (b := a) (i := 4) h r
  have e : 16 * r = 2 ^ 4 * r := by omega
  rw [Nat.add_comm, e, h1]
  apply Nat.eq_of_testBit_eq
  intro i
  rw [Nat.testBit_xor, Nat.testBit_or, Nat.testBit_two_pow_mul]
  by_cases hi : 4 ≤ i
  · have : a.testBit i = false := Nat.testBit_lt_two_pow (Nat.lt_of_lt_of_le h (Nat.pow_le_pow_right (n := 2) (i := 4) (by omega) hi))
    simp [this]
  · simp [hi]
theorem bt_all (x : Nat) (c : UInt8) (r : Nat) : sts 8 (x ^^^ (c.toNat + 256 * r)) = bt x c ^^^ r := by
  rw [add_xor, ← Nat.xor_assoc, sts_xor, show 256 * r = 2 ^ 8 * r by omega, sts_shift]
  rfl
theorem fd_dg (l : List UInt8) : ∀ x, fd x l = sts (8 * l.length) (x ^^^ dg l) := by
  induction l with
  | nil => intro x; simp [fd, dg, sts]
  | cons c l ih =>
    intro x
    have e : 8 * (c :: l).length = 8 + 8 * l.length := by simp; omega
    rw [e, sts_add, dg, bt_all]
    exact ih (bt x c)
theorem fd_lt (l : List UInt8) : ∀ x, x < 4294967296 → fd x l < 4294967296 := by
  induction l with
  | nil => intro x h; exact h
  | cons c l ih =>
    intro x h
    exact ih _ (sts_lt 8 _ (Nat.xor_lt_two_pow (n := 32) h (Nat.lt_trans c.toNat_lt (by decide))))
theorem fd_append (a b : List UInt8) (x : Nat) : fd x (a ++ b) = fd (fd x a) b := by simp [fd, List.foldl_append]

/-- The sum of bytes behind others. -/
def onN (s : Nat) (l : List UInt8) : Nat := 4294967295 - fd (4294967295 - s) l
def ofN (l : List UInt8) : Nat := onN 0 l
theorem onN_lt (s : Nat) (l : List UInt8) : onN s l < 4294967296 := by unfold onN; omega
theorem ofN_lt (l : List UInt8) : ofN l < 4294967296 := onN_lt 0 l
theorem onN_append (s : Nat) (a b : List UInt8) : onN (onN s a) b = onN s (a ++ b) := by
  unfold onN
  rw [fd_append]
  have h := fd_lt a (4294967295 - s) (by omega)
  have e : 4294967295 - (4294967295 - fd (4294967295 - s) a) = fd (4294967295 - s) a := by omega
  rw [e]

/-- Digits, xored in one place. -/
theorem dg_xor (l : List UInt8) : ∀ (j : Nat) (o : UInt8) (h : j < l.length), dg (l.set j (l[j] ^^^ o)) = dg l ^^^ (o.toNat * 256 ^ j) := by
  induction l with
  | nil => intro j o h; exact absurd h (by simp)
  | cons c l ih =>
    intro j o h
    rcases j with _ | j
    · simp only [List.set_cons_zero, List.getElem_cons_zero, dg]
      rw [add_xor, add_xor, UInt8.toNat_xor]
      simp only [Nat.pow_zero, Nat.mul_one]
      rw [Nat.xor_assoc, Nat.xor_assoc, Nat.xor_comm o.toNat]
    · have hl : j < l.length := by simpa using h
      simp only [List.set_cons_succ, List.getElem_cons_succ, dg]
      rw [ih j o hl, add_xor, add_xor, Nat.xor_assoc]
      congr 1
      have e : o.toNat * 256 ^ (j + 1) = 256 * (o.toNat * 256 ^ j) := by rw [Nat.pow_succ]; ac_rfl
      rw [e]
      have h8 : ∀ a b : Nat, 256 * (a ^^^ b) = 256 * a ^^^ 256 * b := fun a b => by
        have := Nat.shiftLeft_xor_distrib (a := a) (b := b) (i := 8)
        simp only [Nat.shiftLeft_eq] at this
        rw [Nat.mul_comm 256, Nat.mul_comm 256, Nat.mul_comm 256]
        exact this
      exact h8 _ _

/-- Bytes that are other ones in up to 32 bits on end have another sum. -/
theorem burst (b c : List UInt8) (k t : Nat) (hl : c.length = b.length) (hd : dg c = dg b ^^^ (2 ^ k * t)) (hk : k ≤ 8 * b.length) (ht : t < 4294967296) (h0 : t ≠ 0) : ofN c ≠ ofN b := by
  intro h
  have hb := fd_lt b 4294967295 (by decide)
  have hc := fd_lt c 4294967295 (by decide)
  have h1 : fd 4294967295 c = fd 4294967295 b := by
    unfold ofN onN at h
    simp only [Nat.sub_zero] at h
    omega
  rw [fd_dg, fd_dg, hd, hl, ← Nat.xor_assoc, sts_xor] at h1
  have h2 : sts (8 * b.length) (2 ^ k * t) = 0 := by
    have h3 : sts (8 * b.length) (4294967295 ^^^ dg b) ^^^ (sts (8 * b.length) (4294967295 ^^^ dg b) ^^^ sts (8 * b.length) (2 ^ k * t)) = 0 := by rw [h1, Nat.xor_self]
    rw [← Nat.xor_assoc, Nat.xor_self, Nat.zero_xor] at h3
    exact h3
  have e : 8 * b.length = k + (8 * b.length - k) := by omega
  rw [e, sts_add, sts_shift] at h2
  exact h0 (sts_ne _ t ht h2)

/-- Three rows, xored byte by byte. -/
def xor3 (a b c : List UInt8) : List UInt8 := List.zipWith (· ^^^ ·) (List.zipWith (· ^^^ ·) a b) c
theorem dg_zip (a : List UInt8) : ∀ b : List UInt8, a.length = b.length → dg (List.zipWith (· ^^^ ·) a b) = dg a ^^^ dg b := by
  induction a with
  | nil =>
    intro b h
    have : b = [] := List.eq_nil_of_length_eq_zero (by simpa using h.symm)
    subst this
    rfl
  | cons x a ih =>
    intro b h
    rcases b with _ | ⟨y, b⟩
    · simp at h
    · simp only [List.zipWith_cons_cons, dg]
      rw [ih b (by simpa using h), add_xor, add_xor, add_xor, UInt8.toNat_xor, xor_four]
      congr 1
      have := Nat.shiftLeft_xor_distrib (a := dg a) (b := dg b) (i := 8)
      simp only [Nat.shiftLeft_eq] at this
      rw [Nat.mul_comm 256, Nat.mul_comm 256, Nat.mul_comm 256]
      exact this
theorem inv_xor (x : Nat) (h : x < 4294967296) : 4294967295 - x = 4294967295 ^^^ x := by
  have e1 : 4294967295 - x = 2 ^ 32 - (x + 1) := by omega
  have e2 : (4294967295 : Nat) = 2 ^ 32 - 1 := by decide
  rw [e1]
  apply Nat.eq_of_testBit_eq
  intro i
  rw [Nat.testBit_two_pow_sub_succ (n := 32) h, e2, Nat.testBit_xor, Nat.testBit_two_pow_sub_one]
  by_cases hi : i < 32
  · simp [hi]
  · have : x.testBit i = false := Nat.testBit_lt_two_pow (Nat.lt_of_lt_of_le h (Nat.pow_le_pow_right (n := 2) (i := 32) (by omega) (by omega)))
    simp [hi, this]
theorem inv3 (a b c : Nat) : 4294967295 ^^^ (a ^^^ (b ^^^ c)) = (4294967295 ^^^ a) ^^^ (4294967295 ^^^ b) ^^^ (4294967295 ^^^ c) := by
  apply Nat.eq_of_testBit_eq
  intro i
  simp only [Nat.testBit_xor]
  generalize Nat.testBit 4294967295 i = k
  generalize Nat.testBit a i = p
  generalize Nat.testBit b i = q
  generalize Nat.testBit c i = r
  cases k <;> cases p <;> cases q <;> cases r <;> rfl
theorem ofN_xor3 (a b c : List UInt8) (h1 : a.length = b.length) (h2 : a.length = c.length) : ofN (xor3 a b c) = ofN a ^^^ ofN b ^^^ ofN c := by
  have hb := fd_lt b 4294967295 (by decide)
  have ha := fd_lt a 4294967295 (by decide)
  have hc := fd_lt c 4294967295 (by decide)
  have hx := fd_lt (xor3 a b c) 4294967295 (by decide)
  have hl : (xor3 a b c).length = a.length := by simp [xor3]; omega
  have hab : (List.zipWith (· ^^^ ·) a b).length = c.length := by simp; omega
  unfold ofN onN
  simp only [Nat.sub_zero]
  rw [inv_xor _ ha, inv_xor _ hb, inv_xor _ hc, inv_xor _ hx, ← inv3]
  congr 1
  rw [fd_dg, fd_dg, fd_dg, fd_dg, hl, ← h1, ← h2, ← sts_xor, ← sts_xor]
  congr 1
  unfold xor3
  rw [dg_zip _ _ hab, dg_zip _ _ h1]
  have h : ∀ p q r : Nat, 4294967295 ^^^ (p ^^^ q ^^^ r) = 4294967295 ^^^ p ^^^ (4294967295 ^^^ q ^^^ (4294967295 ^^^ r)) := fun p q r => by
    rw [← Nat.xor_assoc (4294967295 ^^^ p)]
    rw [← inv3]
    rw [Nat.xor_assoc p]
  exact h _ _ _

end Go.Proofs.YtlehajpadiiicaaDoor
