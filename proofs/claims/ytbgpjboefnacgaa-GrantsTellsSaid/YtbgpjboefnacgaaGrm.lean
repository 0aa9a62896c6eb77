/- Grants: words and mathematics, no statement. -/
import Derived.Test.YtbgpjboefnacgaaLatq
namespace Go.Proofs.Ytbgpjboefnacgaa
open Go.RowKit
set_option linter.unusedVariables false

/-- A grant: who, from where, to where. -/
structure G where
  a : Int
  f : Int
  t : Int
deriving DecidableEq
def gV (g : G) : Value := .agg #[.int .i64 g.a, .int .i64 g.f, .int .i64 g.t]
def gC (g : G) : List Value := [.int .i64 g.a, .int .i64 g.f, .int .i64 g.t]
def cellsG (l : List G) : List Value := l.flatMap gC
theorem cellsG_len (l : List G) : (cellsG l).length = 3 * l.length := by
  induction l with
  | nil => rfl
  | cons g l ih => simp [cellsG, gC] at ih ⊢; omega
theorem cellsG_at (l : List G) (i : Nat) (h : i < l.length) : (cellsG l)[3 * i]? = some (.int .i64 l[i].a) ∧ (cellsG l)[3 * i + 1]? = some (.int .i64 l[i].f) ∧ (cellsG l)[3 * i + 2]? = some (.int .i64 l[i].t) := by
  induction l generalizing i with
  | nil => simp at h
  | cons g l ih =>
    cases i with
    | zero => simp [cellsG, gC]
    | succ i =>
      have hi : i < l.length := by simpa using h
      obtain ⟨h1, h2, h3⟩ := ih i hi
      have e : cellsG (g :: l) = gC g ++ cellsG l := by simp [cellsG]
      rw [e]
      have hl : (gC g).length = 3 := rfl
      rw [List.getElem?_append_right (by rw [hl]; omega), List.getElem?_append_right (by rw [hl]; omega), List.getElem?_append_right (by rw [hl]; omega), hl]
      simp only [List.getElem_cons_succ]
      rw [show 3 * (i + 1) - 3 = 3 * i by omega, show 3 * (i + 1) + 1 - 3 = 3 * i + 1 by omega, show 3 * (i + 1) + 2 - 3 = 3 * i + 2 by omega]
      exact ⟨h1, h2, h3⟩
theorem cellsG_take (l : List G) (k : Nat) : cellsG (l.take k) = (cellsG l).take (3 * k) := by
  induction l generalizing k with
  | nil => simp [cellsG]
  | cons g l ih =>
    cases k with
    | zero => simp [cellsG]
    | succ k =>
      have e : ∀ m : List G, cellsG (g :: m) = gC g ++ cellsG m := fun m => by simp [cellsG]
      have hl : (gC g).length = 3 := rfl
      rw [List.take_succ_cons, e, e, ih, List.take_append, hl, show (gC g).take (3 * (k + 1)) = gC g from List.take_of_length_le (by rw [hl]; omega), show 3 * (k + 1) - 3 = 3 * k by omega]
theorem cellsG_drop (l : List G) (k : Nat) : cellsG (l.drop k) = (cellsG l).drop (3 * k) := by
  induction l generalizing k with
  | nil => simp [cellsG]
  | cons g l ih =>
    cases k with
    | zero => simp [cellsG]
    | succ k =>
      have e : cellsG (g :: l) = gC g ++ cellsG l := by simp [cellsG]
      have hl : (gC g).length = 3 := rfl
      rw [List.drop_succ_cons, e, ih, List.drop_append, hl, show (gC g).drop (3 * (k + 1)) = [] from List.drop_of_length_le (by rw [hl]; omega), List.nil_append, show 3 * (k + 1) - 3 = 3 * k by omega]
/-- A slice of grants that came in. -/
structure ArgG (w : World) (A : Option Addr) (n c : Nat) (l : List G) : Prop where
  len : n = l.length
  reads : Reads w A (cellsG l)
  old : 0 < n → ∀ a, A = some a → a.block < w.heap.size
  room : n ≤ c
  most : c ≤ maxLen
theorem ArgG.below {w w' : World} {A : Option Addr} {n c : Nat} {l : List G} (h : ArgG w A n c l) (hb : Below w.heap.size w w') : ArgG w' A n c l :=
  ⟨h.len, h.reads.below hb (fun hx => h.old (by rw [cellsG_len] at hx; rw [h.len]; omega)), fun hn a ha => Nat.lt_of_lt_of_le (h.old hn a ha) hb.size, h.room, h.most⟩
/-- The cells of a slice's grant. -/
theorem Reads.gat {w : World} {A : Option Addr} {l : List G} (h : Reads w A (cellsG l)) {i : Nat} (hi : i < l.length) :
    ∃ g off, A = some ⟨g, off, none⟩ ∧ w.cell? ⟨g, off + i * 3, none⟩ = some (.int .i64 l[i].a) ∧ w.cell? ⟨g, off + i * 3 + 1, none⟩ = some (.int .i64 l[i].f) ∧ w.cell? ⟨g, off + i * 3 + 2, none⟩ = some (.int .i64 l[i].t) := by
  obtain ⟨g, off, hA, hc⟩ := h (by rw [cellsG_len]; omega)
  obtain ⟨h1, h2, h3⟩ := cellsG_at l i hi
  rw [Nat.mul_comm 3 i] at h1 h2 h3
  refine ⟨g, off, hA, hc _ _ h1, ?_, ?_⟩
  · rw [Nat.add_assoc]; exact hc _ _ h2
  · rw [Nat.add_assoc]; exact hc _ _ h3

def lessG (g h : G) : Bool := if g.a ≠ h.a then decide (g.a < h.a) else if g.f ≠ h.f then decide (g.f < h.f) else decide (g.t < h.t)
def fitsG (up : List Nat) (g : G) : Bool := leqZ up g.f g.a && leqZ up g.t g.a && !leqZ up g.f g.t
def g0 : G := ⟨0, 0, 0⟩
def okG (up : List Nat) (l : List G) (i : Nat) : Bool := fitsG up (l.getD i g0) && (decide (i = 0) || lessG (l.getD (i - 1) g0) (l.getD i g0))
def checkG (up : List Nat) (l : List G) : Bool := decide (l.length ≤ 64) && (List.range l.length).all (okG up l)
def mayG (l : List G) (g : G) : Bool := decide (g ∈ l)
theorem getG_at (l : List G) (i : Nat) (h : i < l.length) : l.getD i g0 = l[i] := by simp [List.getD, List.getElem?_eq_getElem h]

/-- The labels of which something may come. -/
inductive Src (up : List Nat) (l : List G) (x : Nat) : Nat → Prop
  | base {i : Nat} : i < up.length → x.testBit i = true → Src up l x i
  | down {a b : Nat} : Src up l x b → lq up a b = true → Src up l x a
  | act {g : G} : g ∈ l → fitsG up g = true → Src up l x g.t.toNat → Src up l x g.a.toNat
  | frm {g : G} : g ∈ l → fitsG up g = true → Src up l x g.t.toNat → Src up l x g.f.toNat
theorem fitsG_in {up : List Nat} {g : G} (h : fitsG up g = true) : (0 ≤ g.a ∧ g.a.toNat < up.length) ∧ (0 ≤ g.f ∧ g.f.toNat < up.length) ∧ (0 ≤ g.t ∧ g.t.toNat < up.length) := by
  unfold fitsG at h
  simp only [Bool.and_eq_true] at h
  obtain ⟨⟨h1, h2⟩, _⟩ := h
  obtain ⟨a1, a2, a3⟩ := leqZ_iff.1 h1
  obtain ⟨b1, b2, b3⟩ := leqZ_iff.1 h2
  obtain ⟨_, c1, c2, _⟩ := lq_iff.1 a3
  obtain ⟨_, d1, d2, _⟩ := lq_iff.1 b3
  exact ⟨⟨a2, c2⟩, ⟨a1, c1⟩, ⟨b1, d1⟩⟩
theorem Src.lt {up : List Nat} {l : List G} {x i : Nat} (h : Src up l x i) : i < up.length := by
  cases h with
  | base h _ => exact h
  | down _ h => exact (lq_iff.1 h).2.1
  | act _ h _ => exact (fitsG_in h).1.2
  | frm _ h _ => exact (fitsG_in h).2.1.2
/-- A set that has what is asked, and all that follows, has all sources. -/
theorem src_least {up : List Nat} {l : List G} {x : Nat} (S : Nat → Prop) (h0 : ∀ i, i < up.length → x.testBit i = true → S i) (h1 : ∀ a b, S b → lq up a b = true → S a)
    (h2 : ∀ g, g ∈ l → fitsG up g = true → S g.t.toNat → S g.a.toNat ∧ S g.f.toNat) (i : Nat) (h : Src up l x i) : S i := by
  induction h with
  | base hi hx => exact h0 _ hi hx
  | down _ hl ih => exact h1 _ _ ih hl
  | act hg hf _ ih => exact (h2 _ hg hf ih).1
  | frm hg hf _ ih => exact (h2 _ hg hf ih).2
open Classical in
noncomputable def srcN (up : List Nat) (l : List G) (x : Nat) : Nat := mask (fun i => decide (Src up l x i)) up.length
theorem srcN_bit (up : List Nat) (l : List G) (x i : Nat) : (srcN up l x).testBit i = true ↔ Src up l x i := by
  unfold srcN
  rw [mask_bit]
  simp only [Bool.and_eq_true, decide_eq_true_eq]
  exact ⟨fun h => h.2, fun h => ⟨h.lt, h⟩⟩
theorem srcN_lt (up : List Nat) (l : List G) (x : Nat) : srcN up l x < 2 ^ up.length := mask_lt _ _
theorem srcN_is (up : List Nat) (l : List G) (x y : Nat) (h : ∀ i, y.testBit i = true ↔ Src up l x i) : y = srcN up l x :=
  Nat.eq_of_testBit_eq fun i => by rw [Bool.eq_iff_iff, h, srcN_bit]
theorem srcN_mono (up : List Nat) (l m : List G) (x y : Nat) (hl : ∀ g, g ∈ l → g ∈ m) (hx : ∀ i, i < up.length → x.testBit i = true → Src up m y i) (i : Nat) (h : Src up l x i) : Src up m y i :=
  src_least (Src up m y) hx (fun _ _ => .down) (fun g hg hf ht => ⟨.act (hl g hg) hf ht, .frm (hl g hg) hf ht⟩) i h
theorem srcN_or (up : List Nat) (l m : List G) (x y : Nat) (hl : ∀ g, g ∈ l → g ∈ m) (hx : ∀ i, i < up.length → x.testBit i = true → Src up m y i) : srcN up m y ||| srcN up l x = srcN up m y := by
  apply Nat.eq_of_testBit_eq
  intro i
  rw [Nat.testBit_or]
  cases h : (srcN up l x).testBit i
  · simp
  · rw [(srcN_bit up m y i).2 (srcN_mono up l m x y hl hx i ((srcN_bit up l x i).1 h))]
    rfl
/-- Sources of sources are these. -/
theorem srcN_again (up : List Nat) (l : List G) (x : Nat) : srcN up l (srcN up l x) = srcN up l x := by
  apply Eq.symm
  apply srcN_is
  intro i
  rw [srcN_bit]
  constructor
  · intro h
    exact .base h.lt ((srcN_bit up l x i).2 h)
  · intro h
    exact srcN_mono up l l (srcN up l x) x (fun _ h => h) (fun i _ hx => (srcN_bit up l x i).1 hx) i h

end Go.Proofs.Ytbgpjboefnacgaa
