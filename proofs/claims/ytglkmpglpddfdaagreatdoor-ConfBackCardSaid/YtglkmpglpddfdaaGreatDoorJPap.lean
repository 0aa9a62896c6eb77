import Derived.Test.YtglkmpglpddfdaaGreatDoorJ13
import Derived.Test.YtglkmpglpddfdaaGreatDoorJPal
import Derived.Test.YtglkmpglpddfdaaGreatDoorJLatc
/- Of a claim's texts, joined: Pap. No statement but in the last. -/
namespace Go.Proofs.YtglkmpglpddfdaaGreatDoor
open Go.RowKit
set_option linter.unusedVariables false

structure Apart (s : Cs) (P : Nat) : Prop where
  n : ∀ a, s.nA = some a → P ≠ a.block
  u : ∀ a, s.uA = some a → P ≠ a.block
  q : ∀ a, s.qA = some a → P ≠ a.block
  g : ∀ a, s.gA = some a → P ≠ a.block
theorem PB.slices {w : World} {base P : Nat} {c : Cf} (h : PB w base P c) (hb : ∀ x ∈ c.up, x < 2 ^ 64) (hs : ∀ x ∈ c.names, x.length ≤ 281474976710656) :
    ∃ s : Cs, PBx w base P (.slice s.nA s.nn s.nc) (.slice s.uA s.un s.uc) (.slice s.qA s.qn s.qc) (.slice s.gA s.gn s.gc) c ∧ ArgC w s c ∧ Apart s P ∧ ∀ Q, Q < base → Apart s Q := by
  obtain ⟨vn, vu, vq, vg, hx⟩ := h
  have hx' := hx
  obtain ⟨h1, h2, h3, h4, h5, h6⟩ := hx
  have key : ∀ {e : TypeId} {sz n : Nat} {v : Value} {xs : List Value} (h : w.ownsRow base e sz v n xs) (hne : e ≠ 50), ∃ A c, v = .slice A n c ∧ (n * sz = xs.length) ∧ Reads w A xs ∧ (0 < n → ∀ a, A = some a → a.block < w.heap.size) ∧ n ≤ c ∧ c ≤ maxLen ∧ (∀ a, A = some a → P ≠ a.block) ∧ ∀ Q, Q < base → ∀ a, A = some a → Q ≠ a.block := by
    intro e sz n v xs h hne
    rcases h.2 with ⟨rfl, rfl⟩ | ⟨g, cap, cur, rfl, hB, hg, k1, k2, _, hcur⟩
    · have hl := h.1
      refine ⟨none, 0, rfl, hl.symm, fun hx => ?_, fun h => absurd h (Nat.lt_irrefl 0), Nat.le_refl _, Nat.zero_le _, fun a ha => (by cases ha), fun Q _ a ha => (by cases ha)⟩
      rw [hl] at hx
      omega
    · refine ⟨_, cap, rfl, h.1.symm, fun _ => ⟨g, 0, rfl, fun j u hj => ?_⟩, fun _ a ha => by injection ha with ha; subst ha; exact (Array.getElem?_eq_some_iff.1 hg).1, k1, k2, fun a ha => ?_, fun Q hQ a ha => ?_⟩
      · rw [Nat.zero_add, Has.cell (w := w) (g := g) (t := e) (cs := cur) hg]
        rw [← hcur, List.getElem?_take] at hj
        split at hj
        · simpa using hj
        · cases hj
      · injection ha with ha
        subst ha
        exact (Has.apart (w := w) (g := g) (t := e) (cs := cur) hg h1 hne).symm
      · injection ha with ha
        subst ha
        show Q ≠ g
        omega
  obtain ⟨nA, nc, rfl, e1, r1, o1, p1, q1, a1, b1⟩ := key h3 (by decide)
  obtain ⟨uA, uc, rfl, e2, r2, o2, p2, q2, a2, b2⟩ := key h4 (by decide)
  obtain ⟨qA, qc, rfl, e3, r3, o3, p3, q3, a3, b3⟩ := key h5 (by decide)
  obtain ⟨gA, gc, rfl, e4, r4, o4, p4, q4, a4, b4⟩ := key h6 (by decide)
  exact ⟨⟨nA, _, nc, uA, _, uc, qA, _, qc, gA, _, gc⟩, hx', ⟨⟨rfl, r1, o1, p1, q1⟩, ⟨rfl, r2, o2, p2, q2, hb⟩, ⟨rfl, r3, o3, p3, q3⟩, ⟨rfl, r4, o4, p4, q4⟩, hs⟩, ⟨a1, a2, a3, a4⟩, fun Q hQ => ⟨b1 Q hQ, b2 Q hQ, b3 Q hQ, b4 Q hQ⟩⟩
def ParseEnd (r : Cf × Int × Nat × Nat) (w : World) (e : Ending) (w' : World) : Prop :=
  ∃ s : Cs, e = .returned (.tuple #[s.v, .int .i64 r.2.1, .int .i64 (r.2.2.1 : Int), .int .i64 (r.2.2.2 : Int)]) ∧ ArgC w' s r.1 ∧ Below w.heap.size w w'
theorem argC0 (w : World) : ArgC w ⟨none, 0, 0, none, 0, 0, none, 0, 0, none, 0, 0⟩ cf0 :=
  ⟨⟨rfl, Reads.empty, fun h => absurd h (Nat.lt_irrefl 0), Nat.le_refl _, Nat.zero_le _⟩, ⟨rfl, Reads.empty, fun h => absurd h (Nat.lt_irrefl 0), Nat.le_refl _, Nat.zero_le _, fun x hx => by cases hx⟩,
    ⟨rfl, Reads.empty, fun h => absurd h (Nat.lt_irrefl 0), Nat.le_refl _, Nat.zero_le _⟩, ⟨rfl, Reads.empty, fun h => absurd h (Nat.lt_irrefl 0), Nat.le_refl _, Nat.zero_le _⟩, fun x hx => by cases hx⟩
theorem parseN_bad {s : List UInt8} {c : Cf} {a k : Nat} (h : parseL (linesN s) 1 cf0 = (c, some (a, k))) : parseN s = (cf0, 13, a, k) := by unfold parseN; rw [h]
theorem parseN_end {s : List UInt8} {c : Cf} (h : parseL (linesN s) 1 cf0 = (c, none)) : parseN s = if checkC { c with up := closeN c.up } = true then ({ c with up := closeN c.up }, 0, 0, 0) else (cf0, 13, 0, 0) := by unfold parseN; rw [h]
theorem line_at {L : List UInt8} {fr i : Nat} (hf : fr ≤ i) (hi : i ≤ L.length) (hno : ∀ b ∈ (L.drop fr).take (i - fr), b ≠ 10) (h : i < L.length → L[i]? = some 10) :
    linesN (L.drop fr) = (L.drop fr).take (i - fr) :: (if i < L.length then linesN (L.drop (i + 1)) else []) := by
  by_cases hlt : i < L.length
  · have e : L.drop fr = (L.drop fr).take (i - fr) ++ 10 :: L.drop (i + 1) := by
      have h1 : L.drop fr = (L.drop fr).take (i - fr) ++ (L.drop fr).drop (i - fr) := (List.take_append_drop _ _).symm
      rw [List.drop_drop, show fr + (i - fr) = i by omega, List.drop_eq_getElem_cons hlt] at h1
      have h2 := h hlt
      rw [List.getElem?_eq_getElem hlt] at h2
      injection h2 with h2
      rw [h2] at h1
      exact h1
    rw [if_pos hlt]
    have := linesN_mid _ (L.drop (i + 1)) hno
    rw [← e] at this
    exact this
  · have e : (L.drop fr).take (i - fr) = L.drop fr := List.take_of_length_le (by rw [List.length_drop]; omega)
    rw [if_neg hlt, e]
    rw [e] at hno
    exact linesN_last _ hno
structure ParI (L : List UInt8) (b : Nat) (W : World) (i fr a : Nat) (c : Cf) (wr : World) : Prop where
  hi : i ≤ L.length + 1
  hf : fr ≤ i
  ha : a ≤ i + 1
  rest : (if i ≤ L.length then parseL (linesN (L.drop fr)) a c else parseL [] a c) = parseL (linesN L) 1 cf0
  no : i ≤ L.length → ∀ b ∈ (L.drop fr).take (i - fr), b ≠ 10
  ok : Okf c i
  names : ∀ x ∈ c.names, x.length ≤ L.length
  pb : PB wr b b c
  bel : Below b W wr
theorem ParI.line {L : List UInt8} {b i fr a : Nat} {W wr : World} {c : Cf} (h : ParI L b W i fr a c wr) (hi : i ≤ L.length) (h10 : i < L.length → L[i]? = some 10) :
    parseL ((L.drop fr).take (i - fr) :: (if i < L.length then linesN (L.drop (i + 1)) else [])) a c = parseL (linesN L) 1 cf0 := by
  have := h.rest
  rw [if_pos hi, line_at h.hf hi (h.no hi) h10] at this
  exact this
theorem ParI.next {L : List UInt8} {b i fr a : Nat} {W wr wr' : World} {c c' : Cf} (h : ParI L b W i fr a c wr) (hi : i ≤ L.length) (hr : parseL (if i < L.length then linesN (L.drop (i + 1)) else []) (a + 1) c' = parseL (linesN L) 1 cf0)
    (ok : Okf c' (i + 1)) (hn : ∀ x ∈ c'.names, x.length ≤ L.length) (pb : PB wr' b b c') (bel : Below b W wr') : ParI L b W (i + 1) (i + 1) (a + 1) c' wr' :=
  ⟨by omega, Nat.le_refl _, by have := h.ha; omega, by
    rw [← hr]
    by_cases hlt : i < L.length
    · rw [if_pos (by omega), if_pos hlt]
    · rw [if_neg (by omega), if_neg hlt], fun _ b hb => by simp at hb, ok, hn, pb, bel⟩
end Go.Proofs.YtglkmpglpddfdaaGreatDoor
