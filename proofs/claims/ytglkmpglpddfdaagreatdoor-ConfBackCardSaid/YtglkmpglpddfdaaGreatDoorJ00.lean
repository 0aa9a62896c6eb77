import Derived.WalkKit
import Derived.Below
import Derived.Lib.Hide
import Derived.Lib.AppendStr
import Derived.Laws.OwnMore
import Derived.Laws.AppendOwnNone
import Derived.Laws.IdiomStrings
import Derived.Deep.Draws
import Derived.Maps.AppendAt
import Derived.Test.YtglkmpglpddfdaaGreatDoorRows
import Derived.LoopTactic
import Derived.Outline
import Derived.WalkSpells
import Derived.WalkLawsBesides
import Derived.KernelRfl
import Derived.Lib.DecodeN
/- Of a claim's texts, joined: Kit Mem Utfm Latm. No statement but in the last. -/
section
namespace Go.Proofs.YtglkmpglpddfdaaGreatDoor
open Go.RowKit

def byteV (c : UInt8) : Value := .int .u8 (c.toNat : Int)

def Has (w : World) (g : Nat) (t : TypeId) (cs : Array Value) : Prop := w.heap[g]? = some (.cells cs t (0, 0))

section
variable {w w' : World} {g : Nat} {t : TypeId} {cs : Array Value}
theorem Has.lt (h : Has w g t cs) : g < w.heap.size := by
  unfold Has at h
  exact (Array.getElem?_eq_some_iff.1 h).1
theorem Has.cell (h : Has w g t cs) (i : Nat) : w.cell? ⟨g, i, none⟩ = cs[i]? := cell_of_row w g i cs t (0, 0) h
theorem Has.cell0 {u : Value} {r : List Value} (h : Has w g t ⟨u :: r⟩) : w.cell? ⟨g, 0, none⟩ = some u := by rw [h.cell]; simp
theorem Has.cell1 {u v : Value} {r : List Value} (h : Has w g t ⟨u :: v :: r⟩) : w.cell? ⟨g, 1, none⟩ = some v := by rw [h.cell]; simp
theorem Has.free (h : Has w g t cs) (i : Nat) : w.frozen? ⟨g, i, none⟩ = false := by unfold Has at h; simp [World.frozen?, h]
theorem Has.made (w : World) (t : TypeId) (cs : Array Value) : Has (w.alloc (.cells cs t)) w.heap.size t cs := heap_alloc_new w _
theorem Has.drew (h : Has w g t cs) : Has w.drew g t cs := h
theorem Has.drewN (h : Has w g t cs) (n : Nat) : Has (w.drewN n) g t cs := h
theorem Has.alloc (h : Has w g t cs) (o : Obj) : Has (w.alloc o) g t cs := (Below.heap_alloc w o g h.lt).trans h
theorem Has.store (h : Has w g t cs) (i : Nat) (u : Value) : Has (w.setCell ⟨g, i, none⟩ u) g t (cs.setIfInBounds i u) := by
  unfold Has at h ⊢
  simp [World.setCell, Array.getElem?_modify, h]
theorem Has.away (h : Has w g t cs) {p : Addr} (hp : g ≠ p.block) (u : Value) : Has (w.setCell p u) g t cs := (Below.heap_setCell w p u g hp).trans h
theorem Has.below {B : Nat} (h : Has w g t cs) (hb : Below B w w') (hg : g < B) : Has w' g t cs := (hb.block g hg).trans h
theorem Has.grown {row : Option Nat} (h : Has w g t cs) (hb : w.grownBy w' row) (hg : some g ≠ row) : Has w' g t cs := (hb.block g h.lt hg).trans h
theorem Has.apart {g' : Nat} {t' : TypeId} {cs' : Array Value} (h : Has w g t cs) (h' : Has w g' t' cs') (hne : t ≠ t') : g ≠ g' := by
  rintro rfl
  unfold Has at h h'
  simp_all
end

def Row (w : World) (t : TypeId) (lo : Nat) (A : Option Addr) (xs : List Value) : Prop :=
  0 < xs.length → ∃ g off cs, A = some ⟨g, off, none⟩ ∧ lo ≤ g ∧ Has w g t cs ∧ ∀ j u, xs[j]? = some u → cs[off + j]? = some u

def Reads (w : World) (A : Option Addr) (xs : List Value) : Prop :=
  0 < xs.length → ∃ g off, A = some ⟨g, off, none⟩ ∧ ∀ j u, xs[j]? = some u → w.cell? ⟨g, off + j, none⟩ = some u

theorem add_plain (g off j : Nat) : (⟨g, off, none⟩ : Addr).add j = ⟨g, off + j, none⟩ := by
  unfold Addr.add
  by_cases h : j = 0 <;> simp [h]

section
variable {w w' : World} {t : TypeId} {lo : Nat} {A : Option Addr} {xs : List Value}
theorem Row.empty : Row w t lo A [] := fun h => absurd h (by simp)
theorem Row.keep_ (h : Row w t lo A xs) (hk : ∀ g cs, lo ≤ g → Has w g t cs → Has w' g t cs) : Row w' t lo A xs := fun hx => by
  obtain ⟨g, off, cs, hA, hl, hg, hc⟩ := h hx
  exact ⟨g, off, cs, hA, hl, hk g cs hl hg, hc⟩
theorem Row.drew (h : Row w t lo A xs) : Row w.drew t lo A xs := h
theorem Row.drewN (h : Row w t lo A xs) (n : Nat) : Row (w.drewN n) t lo A xs := h
theorem Row.alloc (h : Row w t lo A xs) (o : Obj) : Row (w.alloc o) t lo A xs := h.keep_ fun _ _ _ hg => hg.alloc o
theorem Row.below (h : Row w t lo A xs) (hb : Below w.heap.size w w') : Row w' t lo A xs := h.keep_ fun _ _ _ hg => hg.below hb hg.lt
theorem Row.away {P : Nat} (h : Row w t lo A xs) (hP : P < lo) (hg : w.grownBy w' (some P)) : Row w' t lo A xs := h.keep_ fun _ _ hl hh => hh.grown hg (by
  intro e
  injection e with e
  omega)
theorem Row.grown {P : Nat} {t' : TypeId} {cs' : Array Value} (h : Row w t lo A xs) (hP : Has w P t' cs') (hne : t ≠ t') (hg : w.grownBy w' (some P)) : Row w' t lo A xs :=
  h.keep_ fun _ _ _ hh => hh.grown hg (by
    intro e
    injection e with e
    exact hh.apart hP hne e)
theorem Row.store {P : Nat} {t' : TypeId} {cs' : Array Value} (h : Row w t lo A xs) (hP : Has w P t' cs') (hne : t ≠ t') (i : Nat) (u : Value) : Row (w.setCell ⟨P, i, none⟩ u) t lo A xs :=
  h.keep_ fun _ _ _ hh => hh.away (p := ⟨P, i, none⟩) (hh.apart hP hne) u
theorem Row.reads (h : Row w t lo A xs) : Reads w A xs := fun hx => by
  obtain ⟨g, off, cs, hA, _, hg, hc⟩ := h hx
  exact ⟨g, off, hA, fun j u hj => by rw [hg.cell (off + j)]; exact hc j u hj⟩
theorem Row.take (h : Row w t lo A xs) (k : Nat) : Row w t lo A (xs.take k) := fun hx => by
  obtain ⟨g, off, cs, hA, hl, hg, hc⟩ := h (by simp at hx; omega)
  exact ⟨g, off, cs, hA, hl, hg, fun j u hj => hc j u (by
    rw [List.getElem?_take] at hj
    split at hj
    · exact hj
    · cases hj)⟩
theorem Row.drop (h : Row w t lo A xs) {k cap : Nat} (hc : xs.length ≤ cap) : Row w t lo (if cap = k then A else A.map (·.add k)) (xs.drop k) := fun hx => by
  simp at hx
  obtain ⟨g, off, cs, hA, hl, hg, hcell⟩ := h (by omega)
  rw [if_neg (by omega), hA]
  refine ⟨g, off + k, cs, by simp [add_plain], hl, hg, fun j u hj => ?_⟩
  rw [Nat.add_assoc]
  exact hcell _ u (by rw [← hj, List.getElem?_drop])
theorem Row.some_ (h : Row w t lo A xs) (hx : 0 < xs.length) : A ≠ none := by
  obtain ⟨g, off, cs, hA, _⟩ := h hx
  rw [hA]
  simp
theorem Row.low (h : Row w t lo A xs) {lo' : Nat} (hl : lo' ≤ lo) : Row w t lo' A xs := fun hx => by
  obtain ⟨g, off, cs, hA, hlo, hg, hc⟩ := h hx
  exact ⟨g, off, cs, hA, by omega, hg, hc⟩
theorem Row.of_own {base : Nat} {e : TypeId} {n c : Nat} (h : w.ownsRow base e 1 (.slice A n c) n xs) : Row w e base A xs := fun hx => by
  rcases h.2 with ⟨hv, hn⟩ | ⟨g, cap, cur, hv, hb, hg, _, _, _, hcur⟩
  · have := h.1
    omega
  · injection hv with hA _ _
    subst hA
    refine ⟨g, 0, cur, rfl, hb, hg, fun j u hj => ?_⟩
    rw [← hcur, List.getElem?_take] at hj
    split at hj
    · simpa using hj
    · cases hj
theorem Reads.empty : Reads w A [] := fun h => absurd h (by simp)
theorem Reads.below {B : Nat} (h : Reads w A xs) (hb : Below B w w') (hA : 0 < xs.length → ∀ a, A = some a → a.block < B) : Reads w' A xs := fun hx => by
  obtain ⟨g, off, hA', hc⟩ := h hx
  exact ⟨g, off, hA', fun j u hj => (hb.cell (p := ⟨g, off + j, none⟩) (hA hx ⟨g, off, none⟩ hA')).trans (hc j u hj)⟩
theorem Reads.keep_ (h : Reads w A xs) (hb : Below w.heap.size w w') : Reads w' A xs := fun hx => by
  obtain ⟨g, off, hA, hc⟩ := h hx
  exact ⟨g, off, hA, fun j u hj => (hb.cell (p := ⟨g, off + j, none⟩) (World.block_lt_of_cell? w _ (hc j u hj))).trans (hc j u hj)⟩
theorem Reads.drew (h : Reads w A xs) : Reads w.drew A xs := h
theorem Reads.drewN (h : Reads w A xs) (n : Nat) : Reads (w.drewN n) A xs := h
theorem Reads.take (h : Reads w A xs) (k : Nat) : Reads w A (xs.take k) := fun hx => by
  obtain ⟨g, off, hA, hc⟩ := h (by simp at hx; omega)
  exact ⟨g, off, hA, fun j u hj => hc j u (by
    rw [List.getElem?_take] at hj
    split at hj
    · exact hj
    · cases hj)⟩
end

/-! Only block g, and what is new, has turned. -/
theorem only_refl (w : World) (g : Nat) : w.grownBy w (some g) := ⟨rfl, rfl, rfl, Nat.le_refl _, fun _ _ _ => rfl⟩
theorem only_store {a w : World} {g : Nat} (h : a.grownBy w (some g)) (i : Nat) (u : Value) : a.grownBy (w.setCell ⟨g, i, none⟩ u) (some g) :=
  ⟨h.os, h.tape, h.output, by simpa [World.setCell] using h.size, fun i hi hne => (Below.heap_setCell w _ u i (by
    rintro rfl
    exact hne rfl)).trans (h.block i hi hne)⟩
theorem only_of_below {a w : World} {B g : Nat} (h : Below B a w) (hB : a.heap.size ≤ B) : a.grownBy w (some g) := ⟨h.os, h.tape, h.output, h.size, fun i hi _ => h.block i (by omega)⟩
theorem below_step {w b c : World} (h : Below w.heap.size w b) (k : Below b.heap.size b c) : Below w.heap.size w c := h.trans (k.mono h.size)
theorem u64_bounds {n : Int} (h : (Lit.int .u64 n).wf = true) : 0 ≤ n ∧ n ≤ 18446744073709551615 := by
  simp [Lit.wf, IntKind.min, IntKind.max, IntKind.signed, IntKind.bits] at h
  omega
structure Arg (w : World) (A : Option Addr) (n c : Nat) (l : List UInt8) : Prop where
  len : n = l.length
  reads : Reads w A (l.map byteV)
  old : 0 < n → ∀ a, A = some a → a.block < w.heap.size
  room : n ≤ c
  most : c ≤ maxLen
  none_ : A = none → c = 0
theorem Arg.below {w w' : World} {A : Option Addr} {n c : Nat} {l : List UInt8} (h : Arg w A n c l) (hb : Below w.heap.size w w') : Arg w' A n c l :=
  ⟨h.len, h.reads.below hb (fun hx => h.old (by rw [h.len]; simpa using hx)), fun hn a ha => Nat.lt_of_lt_of_le (h.old hn a ha) hb.size, h.room, h.most, h.none_⟩

/-! Strings. -/
theorem size_list (l : List UInt8) : (⟨l.toArray⟩ : ByteArray).size = l.length := by simp [ByteArray.size]

theorem below_alloc' {w b : World} (h : Below w.heap.size w b) (o : Obj) : Below w.heap.size w (b.alloc o) := h.alloc h.size o
theorem below_alloc1 {B : Nat} {w W : World} (h : Below B w W) (o : Obj) (hs : B ≤ w.heap.size) : Below B w (W.alloc o) := h.alloc (Nat.le_trans hs h.size) o

end Go.Proofs.YtglkmpglpddfdaaGreatDoor
end

section
namespace Go.Proofs.YtglkmpglpddfdaaGreatDoor
open Go.RowKit
set_option linter.unusedVariables false

def Fresh (W : Nat) (l : List UInt8) (w : World) (e : Ending) (w' : World) : Prop :=
  ∃ A c, e = .returned (.slice A l.length c) ∧ l.length ≤ c ∧ c ≤ maxLen ∧ Row w' 5 W A (l.map byteV) ∧ Below W w w'
theorem ret_u64 {a b : Int} (h : a = b) : Ending.returned (.int .u64 a) = .returned (.int .u64 b) := by rw [h]
end Go.Proofs.YtglkmpglpddfdaaGreatDoor
end

section
namespace Go.Proofs.YtglkmpglpddfdaaGreatDoor
set_option linter.unusedVariables false

theorem get_L (L : List UInt8) (j : Nat) : (⟨L.toArray⟩ : ByteArray).get! j = L.getD j 0 := by
  unfold ByteArray.get!
  by_cases h : j < L.length
  · simp [List.getD, h]
  · simp [List.getD, h]
    rfl
def decL (l : List UInt8) : Nat × Nat := Utf8.decode ⟨l.toArray⟩ 0
theorem decode_drop (L : List UInt8) (i : Nat) : Utf8.decode ⟨L.toArray⟩ i = decL (L.drop i) := by
  unfold decL
  rw [Lib.decode_at, Lib.decode_at]
  simp only [get_L]
  have e : (⟨L.toArray⟩ : ByteArray).size - i = (⟨(L.drop i).toArray⟩ : ByteArray).size - 0 := by simp [ByteArray.size]
  have g : ∀ k, (L.drop i).getD (0 + k) 0 = L.getD (i + k) 0 := fun k => by simp [List.getD, List.getElem?_drop]
  have g0 := g 0
  rw [e, g 1, g 2, g 3, g0]
  simp only [Nat.add_zero]
theorem decL_at (l : List UInt8) : decL l = Lib.decodeN l.length (l.getD 0 0).toNat (l.getD 1 0).toNat (l.getD 2 0).toNat (l.getD 3 0).toNat := by
  unfold decL
  rw [Lib.decode_at]
  simp only [get_L, Nat.zero_add, Nat.sub_zero]
  rfl
theorem decL_width (l : List UInt8) (h : l ≠ []) : 1 ≤ (decL l).2 ∧ (decL l).2 ≤ 4 ∧ (decL l).2 ≤ l.length := by
  have hl : 0 < l.length := List.length_pos_iff.2 h
  rw [decL_at]
  unfold Lib.decodeN
  repeat' split
  all_goals simp only
  all_goals omega
theorem decL_rune (l : List UInt8) : (decL l).1 ≤ 1114111 := by
  rw [decL_at]
  unfold Lib.decodeN
  have h0 := (l.getD 0 0).toNat_lt
  have h1 := (l.getD 1 0).toNat_lt
  have h2 := (l.getD 2 0).toNat_lt
  repeat' split
  all_goals simp only
  all_goals omega
def takesN (r : Nat) : Nat := if r < 128 then 1 else if r < 2048 then 2 else if r < 65536 then 3 else 4
theorem decL_takes (l : List UInt8) (h : l ≠ []) : ((decL l).1 = 65533 ∧ (decL l).2 = 1) ∨ (takesN (decL l).1 = (decL l).2 ∧ ¬ ((decL l).1 = 65533 ∧ (decL l).2 = 1)) := by
  have hl : 0 < l.length := List.length_pos_iff.2 h
  rw [decL_at]
  unfold Lib.decodeN
  have h0 := (l.getD 0 0).toNat_lt
  repeat' split
  all_goals simp only [takesN]
  all_goals first
    | (left; exact ⟨trivial, trivial⟩)
    | (left; simp; done)
    | (right; refine ⟨?_, by omega⟩; (repeat' split) <;> omega)
theorem decL_low (l : List UInt8) (h : l ≠ []) : (decL l).1 < 128 ↔ (l.getD 0 0).toNat < 128 := by
  have hl : 0 < l.length := List.length_pos_iff.2 h
  rw [decL_at]
  unfold Lib.decodeN
  repeat' split
  all_goals simp only
  all_goals omega
theorem decL_ascii (l : List UInt8) (h : (l.getD 0 0).toNat < 128) : decL l = ((l.getD 0 0).toNat, 1) := by
  rw [decL_at]
  unfold Lib.decodeN
  rw [if_pos h]

def cut (l : List UInt8) : List (Nat × List UInt8) := if h : l = [] then [] else ((decL l).1, l.take (decL l).2) :: cut (l.drop (decL l).2)
termination_by l.length
decreasing_by
  have := decL_width l h
  rw [List.length_drop]
  omega
theorem cut_nil : cut [] = [] := by rw [cut]; simp
theorem cut_cons {l : List UInt8} (h : l ≠ []) : cut l = ((decL l).1, l.take (decL l).2) :: cut (l.drop (decL l).2) := by rw [cut]; simp [h]
theorem cut_flat (l : List UInt8) : ((cut l).map (·.2)).flatten = l := by
  by_cases h : l = []
  · subst h; rw [cut_nil]; rfl
  · rw [cut_cons h, List.map_cons, List.flatten_cons, cut_flat (l.drop (decL l).2)]
    exact List.take_append_drop _ _
termination_by l.length
decreasing_by
  have := decL_width l h
  rw [List.length_drop]
  omega
theorem cut_len (l : List UInt8) : (cut l).length ≤ l.length := by
  by_cases h : l = []
  · subst h; rw [cut_nil]; exact Nat.le_refl _
  · have hw := decL_width l h
    have ih := cut_len (l.drop (decL l).2)
    rw [cut_cons h, List.length_cons]
    rw [List.length_drop] at ih
    omega
termination_by l.length
decreasing_by
  have := decL_width l h
  rw [List.length_drop]
  omega

end Go.Proofs.YtglkmpglpddfdaaGreatDoor
end

section
namespace Go.Proofs.YtglkmpglpddfdaaGreatDoor
set_option linter.unusedVariables false

/-! Bits. -/
def mask (p : Nat → Bool) : Nat → Nat
  | 0 => 0
  | n + 1 => mask p n + if p n then 2 ^ n else 0
theorem mask_lt (p : Nat → Bool) (n : Nat) : mask p n < 2 ^ n := by
  induction n with
  | zero => simp [mask]
  | succ n ih =>
    unfold mask
    rw [Nat.pow_succ]
    split <;> omega
theorem testBit_add_pow (x n i : Nat) (h : x < 2 ^ n) : (x + 2 ^ n).testBit i = (x.testBit i || decide (i = n)) := by
  have e : x + 2 ^ n = 2 ^ n * 1 ||| x := by
    have := Nat.two_pow_add_eq_or_of_lt h 1
    omega
  rw [e, Nat.testBit_or, Nat.mul_one, Nat.testBit_two_pow, Bool.or_comm]
  congr 1
  simp [eq_comm]
theorem mask_bit (p : Nat → Bool) (n i : Nat) : (mask p n).testBit i = (decide (i < n) && p i) := by
  induction n with
  | zero => simp [mask]
  | succ n ih =>
    unfold mask
    by_cases hp : p n = true
    · rw [if_pos hp, testBit_add_pow _ _ _ (mask_lt p n), ih]
      by_cases h : i = n
      · subst h; simp [hp]
      · have e : decide (i < n + 1) = decide (i < n) := by simp; omega
        rw [e]
        simp [h]
    · rw [if_neg hp, Nat.add_zero, ih]
      by_cases h : i = n
      · subst h
        simp at hp
        simp [hp]
      · have e : decide (i < n + 1) = decide (i < n) := by simp; omega
        rw [e]
theorem bits_eq {x n : Nat} {p : Nat → Bool} (h : ∀ i, x.testBit i = (decide (i < n) && p i)) : x = mask p n :=
  Nat.eq_of_testBit_eq fun i => by rw [h, mask_bit]
theorem add_bit (x k i : Nat) (h : x.testBit k = false) : (x + 2 ^ k).testBit i = (x.testBit i || decide (i = k)) := by
  obtain ⟨q, r, hr, hx⟩ : ∃ q r, r < 2 ^ k ∧ x = 2 ^ k * q + r := ⟨x / 2 ^ k, x % 2 ^ k, Nat.mod_lt _ (Nat.pow_pos (by omega)), (Nat.div_add_mod x (2 ^ k)).symm⟩
  subst hx
  rw [Nat.testBit_two_pow_mul_add _ hr, if_neg (by omega), Nat.sub_self, Nat.testBit_zero] at h
  have h2 : q % 2 = 0 := by simp at h; omega
  have e : 2 ^ k * q + r + 2 ^ k = 2 ^ k * (q + 1) + r := by rw [Nat.mul_add, Nat.mul_one]; omega
  rw [e, Nat.testBit_two_pow_mul_add _ hr, Nat.testBit_two_pow_mul_add _ hr]
  by_cases hi : i < k
  · have : ¬ i = k := by omega
    simp [hi, this]
  · rw [if_neg hi, if_neg hi]
    by_cases hk : i = k
    · subst hk
      rw [Nat.sub_self, Nat.testBit_zero, Nat.testBit_zero]
      simp
      omega
    · obtain ⟨j, hj⟩ : ∃ j, i - k = j + 1 := ⟨i - k - 1, by omega⟩
      rw [hj, Nat.testBit_succ, Nat.testBit_succ, show (q + 1) / 2 = q / 2 by omega]
      simp [hk]

/-! The first of n that fits. -/
def firstN (p : Nat → Bool) (n : Nat) : Int := match (List.range n).find? p with
  | some k => k
  | none => -1
theorem firstN_some {p : Nat → Bool} {n k : Nat} (hk : k < n) (hp : p k = true) (h : ∀ j, j < k → p j = false) : firstN p n = k := by
  unfold firstN
  have e : (List.range n).find? p = some k := by
    rw [List.find?_range_eq_some]
    exact ⟨hp, by simpa using hk, fun j hj => by simp [h j hj]⟩
  rw [e]
theorem firstN_none {p : Nat → Bool} {n : Nat} (h : ∀ j, j < n → p j = false) : firstN p n = -1 := by
  unfold firstN
  have e : (List.range n).find? p = none := by
    rw [List.find?_eq_none]
    intro j hj
    simp at hj
    simp [h j hj]
  rw [e]
theorem firstN_cases (p : Nat → Bool) (n : Nat) : (∃ k, k < n ∧ p k = true ∧ (∀ j, j < k → p j = false) ∧ firstN p n = k) ∨ ((∀ j, j < n → p j = false) ∧ firstN p n = -1) := by
  by_cases h : ∃ k, k < n ∧ p k = true
  · left
    have hex : ∃ k, k < n ∧ p k = true := h
    obtain ⟨k, ⟨hk, hp⟩, hmin⟩ : ∃ k, (k < n ∧ p k = true) ∧ ∀ j, j < k → ¬ (j < n ∧ p j = true) := by
      obtain ⟨k, hk⟩ := h
      induction k using Nat.strongRecOn with
      | ind k ih =>
        by_cases hj : ∃ j, j < k ∧ j < n ∧ p j = true
        · obtain ⟨j, h1, h2⟩ := hj
          exact ih j h1 h2
        · exact ⟨k, hk, fun j hlt hh => hj ⟨j, hlt, hh⟩⟩
    have hf : ∀ j, j < k → p j = false := fun j hj => by
      have := hmin j hj
      cases hpj : p j
      · rfl
      · exact absurd ⟨by omega, hpj⟩ this
    exact ⟨k, hk, hp, hf, firstN_some hk hp hf⟩
  · right
    have hf : ∀ j, j < n → p j = false := fun j hj => by
      cases hpj : p j
      · rfl
      · exact absurd ⟨j, hj, hpj⟩ h
    exact ⟨hf, firstN_none hf⟩
theorem firstN_nonneg {p : Nat → Bool} {n : Nat} : 0 ≤ firstN p n ↔ ∃ k, k < n ∧ p k = true := by
  rcases firstN_cases p n with ⟨k, h1, h2, _, h4⟩ | ⟨h1, h2⟩
  · rw [h4]
    exact ⟨fun _ => ⟨k, h1, h2⟩, fun _ => by omega⟩
  · rw [h2]
    exact ⟨fun h => by omega, fun ⟨k, hk, hp⟩ => by rw [h1 k hk] at hp; cases hp⟩
theorem firstN_congr {p q : Nat → Bool} {n : Nat} (h : ∀ i, i < n → p i = q i) : firstN p n = firstN q n := by
  rcases firstN_cases p n with ⟨k, h1, h2, h3, h4⟩ | ⟨h1, h2⟩
  · rw [h4, firstN_some h1 (by rw [← h k h1]; exact h2) (fun j hj => by rw [← h j (by omega)]; exact h3 j hj)]
  · rw [h2, firstN_none (fun j hj => by rw [← h j hj]; exact h1 j hj)]

/-! Rows: which label may flow to which. -/
theorem getD_at (l : List Nat) (i : Nat) (h : i < l.length) : l.getD i 0 = l[i] := by simp [List.getD, List.getElem?_eq_getElem h]
def ubit (up : List Nat) (a b : Nat) : Bool := (up.getD a 0).testBit b
def lq (up : List Nat) (a b : Nat) : Bool := decide (up.length ≤ 64) && decide (a < up.length) && decide (b < up.length) && ubit up a b
def leqZ (up : List Nat) (a b : Int) : Bool := decide (0 ≤ a) && decide (0 ≤ b) && lq up a.toNat b.toNat
theorem leqZ_nat (up : List Nat) (a b : Nat) : leqZ up a b = lq up a b := by simp [leqZ]
theorem lq_iff {up : List Nat} {a b : Nat} : lq up a b = true ↔ up.length ≤ 64 ∧ a < up.length ∧ b < up.length ∧ ubit up a b = true := by
  simp [lq, and_assoc]
theorem leqZ_iff {up : List Nat} {a b : Int} : leqZ up a b = true ↔ 0 ≤ a ∧ 0 ≤ b ∧ lq up a.toNat b.toNat = true := by
  simp [leqZ, and_assoc]
theorem leqZ_out {up : List Nat} {a b : Int} (h : up.length > 64 ∨ a < 0 ∨ (up.length : Int) ≤ a ∨ b < 0 ∨ (up.length : Int) ≤ b) : leqZ up a b = false := by
  cases hc : leqZ up a b
  · rfl
  · obtain ⟨h1, h2, h3⟩ := leqZ_iff.1 hc
    obtain ⟨h4, h5, h6, _⟩ := lq_iff.1 h3
    omega
def downN (up : List Nat) (a : Int) : Nat := mask (fun i => leqZ up i a) up.length
def aboveN (up : List Nat) (a : Int) : Nat := mask (fun i => leqZ up a i) up.length
def isJ (up : List Nat) (a b : Int) (c : Nat) : Bool := (leqZ up a c && leqZ up b c) && (List.range up.length).all fun d => !(leqZ up a d && leqZ up b d) || leqZ up c d
def isM (up : List Nat) (a b : Int) (c : Nat) : Bool := (leqZ up c a && leqZ up c b) && (List.range up.length).all fun d => !(leqZ up d a && leqZ up d b) || leqZ up d c
def joinN (up : List Nat) (a b : Int) : Int := firstN (isJ up a b) up.length
def meetN (up : List Nat) (a b : Int) : Int := firstN (isM up a b) up.length
theorem isJ_iff {up : List Nat} {a b : Int} {c : Nat} : isJ up a b c = true ↔ leqZ up a c = true ∧ leqZ up b c = true ∧ ∀ d : Nat, leqZ up a d = true → leqZ up b d = true → leqZ up c d = true := by
  unfold isJ
  rw [Bool.and_eq_true, Bool.and_eq_true, List.all_eq_true, and_assoc]
  constructor
  · rintro ⟨h1, h2, h3⟩
    refine ⟨h1, h2, fun d ha hb => ?_⟩
    have hd : d < up.length := by
      obtain ⟨_, _, h⟩ := leqZ_iff.1 ha
      simpa using (lq_iff.1 h).2.2.1
    have := h3 d (by simpa using hd)
    simpa [ha, hb] using this
  · rintro ⟨h1, h2, h3⟩
    refine ⟨h1, h2, fun d hd => ?_⟩
    cases ha : leqZ up a d
    · simp
    · cases hb : leqZ up b d
      · simp
      · simp [h3 d ha hb]
theorem isM_iff {up : List Nat} {a b : Int} {c : Nat} : isM up a b c = true ↔ leqZ up c a = true ∧ leqZ up c b = true ∧ ∀ d : Nat, leqZ up d a = true → leqZ up d b = true → leqZ up d c = true := by
  unfold isM
  rw [Bool.and_eq_true, Bool.and_eq_true, List.all_eq_true, and_assoc]
  constructor
  · rintro ⟨h1, h2, h3⟩
    refine ⟨h1, h2, fun d ha hb => ?_⟩
    have hd : d < up.length := by
      obtain ⟨_, _, h⟩ := leqZ_iff.1 ha
      simpa using (lq_iff.1 h).2.1
    have := h3 d (by simpa using hd)
    simpa [ha, hb] using this
  · rintro ⟨h1, h2, h3⟩
    refine ⟨h1, h2, fun d hd => ?_⟩
    cases ha : leqZ up d a
    · simp
    · cases hb : leqZ up d b
      · simp
      · simp [h3 d ha hb]
theorem isJ_comm (up : List Nat) (a b : Int) (c : Nat) : isJ up a b c = isJ up b a c := by
  rw [Bool.eq_iff_iff, isJ_iff, isJ_iff]
  exact ⟨fun ⟨h1, h2, h3⟩ => ⟨h2, h1, fun d x y => h3 d y x⟩, fun ⟨h1, h2, h3⟩ => ⟨h2, h1, fun d x y => h3 d y x⟩⟩
theorem isM_comm (up : List Nat) (a b : Int) (c : Nat) : isM up a b c = isM up b a c := by
  rw [Bool.eq_iff_iff, isM_iff, isM_iff]
  exact ⟨fun ⟨h1, h2, h3⟩ => ⟨h2, h1, fun d x y => h3 d y x⟩, fun ⟨h1, h2, h3⟩ => ⟨h2, h1, fun d x y => h3 d y x⟩⟩
theorem joinN_comm (up : List Nat) (a b : Int) : joinN up a b = joinN up b a := firstN_congr fun c _ => isJ_comm up a b c
theorem meetN_comm (up : List Nat) (a b : Int) : meetN up a b = meetN up b a := firstN_congr fun c _ => isM_comm up a b c

def IsLat (up : List Nat) : Prop :=
  (1 ≤ up.length ∧ up.length ≤ 64) ∧ (∀ a, a < up.length → ∀ b, b < 64 → ubit up a b = true → b < up.length) ∧ (∀ a, a < up.length → ubit up a a = true) ∧
  (∀ a, a < up.length → ∀ b, b < up.length → a ≠ b → ubit up a b = true → ubit up b a = false) ∧
  (∀ a, a < up.length → ∀ b, b < up.length → ubit up a b = true → ∀ c, c < up.length → ubit up b c = true → ubit up a c = true) ∧
  (∀ a, a < up.length → ∀ b, b < up.length → 0 ≤ joinN up a b ∧ 0 ≤ meetN up a b)
open Classical in
noncomputable def checkB (up : List Nat) : Bool := decide (IsLat up)
theorem checkB_iff {up : List Nat} : checkB up = true ↔ IsLat up := by simp [checkB]
theorem checkB_yes {up : List Nat} (h : IsLat up) : checkB up = true := checkB_iff.2 h
theorem checkB_no {up : List Nat} (h : ¬ IsLat up) : checkB up = false := by
  cases e : checkB up
  · rfl
  · exact absurd (checkB_iff.1 e) h
theorem lat32 : IsLat [3, 2] := ⟨by decide, by decide, by decide, by decide, by decide, by decide⟩
section
variable {up : List Nat}
theorem IsLat.trans_ (h : IsLat up) {a b c : Nat} (h1 : lq up a b = true) (h2 : lq up b c = true) : lq up a c = true := by
  obtain ⟨hn, ha, hb, k1⟩ := lq_iff.1 h1
  obtain ⟨_, _, hc, k2⟩ := lq_iff.1 h2
  exact lq_iff.2 ⟨hn, ha, hc, h.2.2.2.2.1 a ha b hb k1 c hc k2⟩
theorem IsLat.join (h : IsLat up) {a b : Nat} (ha : a < up.length) (hb : b < up.length) :
    ∃ j, j < up.length ∧ joinN up a b = (j : Int) ∧ lq up a j = true ∧ lq up b j = true ∧ ∀ d : Nat, lq up a d = true → lq up b d = true → lq up j d = true := by
  have h0 := (h.2.2.2.2.2 a ha b hb).1
  unfold joinN at h0 ⊢
  rcases firstN_cases (isJ up a b) up.length with ⟨k, h1, h2, _, h4⟩ | ⟨_, h2⟩
  · have := isJ_iff.1 h2
    simp only [leqZ_nat] at this
    exact ⟨k, h1, h4, this.1, this.2.1, this.2.2⟩
  · omega
end

theorem isLat_of (up : List Nat) (h1 : 1 ≤ up.length ∧ up.length ≤ 64) (h2 : ∀ a, a < up.length → ∀ b, b < 64 → ubit up a b = true → b < up.length) (h3 : ∀ a, a < up.length → ubit up a a = true)
    (h4 : ∀ a, a < up.length → ∀ b, b < up.length → a ≠ b → ubit up a b = true → ubit up b a = false)
    (h5 : ∀ a, a < up.length → ∀ b, b < up.length → ubit up a b = true → ∀ c, c < up.length → ubit up b c = true → ubit up a c = true)
    (h6 : ∀ a, a < up.length → ∀ b, b < a → 0 ≤ joinN up a b ∧ 0 ≤ meetN up a b) : IsLat up := by
  refine ⟨h1, h2, h3, h4, h5, fun a ha b hb => ?_⟩
  rcases Nat.lt_trichotomy a b with hlt | rfl | hlt
  · have := h6 b hb a hlt
    rw [joinN_comm, meetN_comm] at this
    exact this
  · have hr : lq up a a = true := lq_iff.2 ⟨h1.2, ha, ha, h3 a ha⟩
    constructor
    · exact firstN_nonneg.2 ⟨a, ha, isJ_iff.2 ⟨by rw [leqZ_nat]; exact hr, by rw [leqZ_nat]; exact hr, fun d h _ => h⟩⟩
    · exact firstN_nonneg.2 ⟨a, ha, isM_iff.2 ⟨by rw [leqZ_nat]; exact hr, by rw [leqZ_nat]; exact hr, fun d h _ => h⟩⟩
  · exact h6 a ha b hlt

/-! The labels of bits. -/
def listN (x : Nat) : List Nat := (List.range 64).filter fun k => x.testBit k

/-! What follows from rows. -/
inductive Reach (up : List Nat) : Nat → Nat → Prop
  | refl (a : Nat) : Reach up a a
  | step {a b c : Nat} : b < up.length → c < up.length → Reach up a b → ubit up b c = true → Reach up a c
theorem Reach.trans_ {up : List Nat} {a b c : Nat} (h : Reach up a b) (k : Reach up b c) : Reach up a c := by
  induction k with
  | refl => exact h
  | step hb hc _ hu ih => exact .step hb hc ih hu
open Classical in
/-- The rows with all that follows from them. -/
noncomputable def closeN (up : List Nat) : List Nat := if 64 < up.length then [] else (List.range up.length).map fun a => mask (fun b => decide (Reach up a b)) up.length
theorem closeN_is (up out : List Nat) (h64 : up.length ≤ 64) (hl : out.length = up.length) (hb : ∀ a, a < up.length → ∀ b, ubit out a b = true ↔ b < up.length ∧ Reach up a b) : out = closeN up := by
  unfold closeN
  rw [if_neg (by omega)]
  apply List.ext_getElem (by simp [hl])
  intro a h1 h2
  have ha : a < up.length := by omega
  simp only [List.getElem_map, List.getElem_range]
  apply bits_eq
  intro i
  have h := hb a ha i
  unfold ubit at h
  rw [getD_at _ _ h1] at h
  rw [Bool.eq_iff_iff, h]
  simp
theorem closeN_len (up : List Nat) (h : up.length ≤ 64) : (closeN up).length = up.length := by
  unfold closeN
  rw [if_neg (by omega)]
  simp
theorem closeN_many (up : List Nat) (h : 64 < up.length) : closeN up = [] := by
  unfold closeN
  rw [if_pos h]
theorem reach_of_closed (up out : List Nat) (h0 : ∀ a, a < up.length → ubit out a a = true) (h1 : ∀ a, a < up.length → ∀ b, b < up.length → ubit up a b = true → ubit out a b = true)
    (h2 : ∀ a, a < up.length → ∀ b, b < up.length → ∀ c, c < up.length → ubit out a b = true → ubit out b c = true → ubit out a c = true) (a b : Nat) (ha : a < up.length) (h : Reach up a b) : ubit out a b = true := by
  induction h with
  | refl => exact h0 a ha
  | @step b c hb hc _ hu ih => exact h2 a ha b hb c hc ih (h1 b hb c hc hu)
theorem closeN_lat (up : List Nat) (h : IsLat up) (hm : ∀ x ∈ up, x < 2 ^ 64) : closeN up = up := by
  symm
  refine closeN_is up up h.1.2 rfl fun a ha b => ⟨fun hu => ?_, fun ⟨hb, hr⟩ => reach_of_closed up up h.2.2.1 (fun _ _ _ _ x => x) (fun a ha b hb c hc x y => h.2.2.2.2.1 a ha b hb x c hc y) a b ha hr⟩
  have hb : b < 64 := by
    by_cases hlt : b < 64
    · exact hlt
    · exfalso
      unfold ubit at hu
      rw [getD_at _ _ ha] at hu
      have hx := hm up[a] (List.getElem_mem ha)
      have : up[a] < 2 ^ b := Nat.lt_of_lt_of_le hx (Nat.pow_le_pow_right (by omega) (by omega))
      rw [Nat.testBit_lt_two_pow this] at hu
      cases hu
  have hbn := h.2.1 a ha b hb hu
  exact ⟨hbn, .step ha hbn (.refl a) hu⟩

end Go.Proofs.YtglkmpglpddfdaaGreatDoor
end
