import Derived.WalkKit
import Derived.Below
import Derived.Lib.Hide
import Derived.Lib.AppendStr
import Derived.Laws.OwnMore
import Derived.Laws.AppendOwnNone
import Derived.Laws.IdiomStrings
import Derived.Deep.Draws
import Derived.Maps.AppendAt
import Derived.Test.YtoelojlabmconaaRows
import Derived.LoopTactic
import Derived.Outline
import Derived.WalkSpells
import Derived.WalkLawsBesides
import Derived.KernelRfl
import Derived.ProofKit
import Derived.OpenShut
import Derived.ShutString
import Derived.ChangeOld
import Derived.Deep.SlicePairs
/- Of a claim's texts, joined: Kit Mem Args Dtw Latm. No statement but in the last. -/
section
namespace Go.Proofs.Ytoelojlabmconaa
open Go.RowKit

def byteV (c : UInt8) : Value := .int .u8 (c.toNat : Int)

def Has (w : World) (g : Nat) (t : TypeId) (cs : Array Value) : Prop := w.heap[g]? = some (.cells cs t (0, 0))

section
variable {w w' : World} {g : Nat} {t : TypeId} {cs : Array Value}
theorem Has.lt (h : Has w g t cs) : g < w.heap.size := by
  unfold Has at h
  exact (Array.getElem?_eq_some_iff.1 h).1
theorem Has.cell (h : Has w g t cs) (i : Nat) : w.cell? ⟨g, i, none⟩ = cs[i]? := cell_of_row w g i cs t (0, 0) h
theorem Has.free (h : Has w g t cs) (i : Nat) : w.frozen? ⟨g, i, none⟩ = false := by unfold Has at h; simp [World.frozen?, h]
theorem Has.made (w : World) (t : TypeId) (cs : Array Value) : Has (w.alloc (.cells cs t)) w.heap.size t cs := heap_alloc_new w _
theorem Has.drew (h : Has w g t cs) : Has w.drew g t cs := h
theorem Has.alloc (h : Has w g t cs) (o : Obj) : Has (w.alloc o) g t cs := (Below.heap_alloc w o g h.lt).trans h
theorem Has.store (h : Has w g t cs) (i : Nat) (u : Value) : Has (w.setCell ⟨g, i, none⟩ u) g t (cs.setIfInBounds i u) := by
  unfold Has at h ⊢
  simp [World.setCell, Array.getElem?_modify, h]
theorem Has.away (h : Has w g t cs) {p : Addr} (hp : g ≠ p.block) (u : Value) : Has (w.setCell p u) g t cs := (Below.heap_setCell w p u g hp).trans h
theorem Has.below {B : Nat} (h : Has w g t cs) (hb : Below B w w') (hg : g < B) : Has w' g t cs := (hb.block g hg).trans h
theorem Has.grown {row : Option Nat} (h : Has w g t cs) (hb : w.grownBy w' row) (hg : some g ≠ row) : Has w' g t cs := (hb.block g h.lt hg).trans h
theorem Has.apart {g' : Nat} {t' : TypeId} {cs' : Array Value} (h : Has w g t cs) (h' : Has w g' t' cs') (hne : t ≠ t') : g ≠ g' := by
  rintro rfl
  unfold Has at h h'
  simp_all
end

def Row (w : World) (t : TypeId) (lo : Nat) (A : Option Addr) (xs : List Value) : Prop :=
  0 < xs.length → ∃ g off cs, A = some ⟨g, off, none⟩ ∧ lo ≤ g ∧ Has w g t cs ∧ ∀ j u, xs[j]? = some u → cs[off + j]? = some u

def Reads (w : World) (A : Option Addr) (xs : List Value) : Prop :=
  0 < xs.length → ∃ g off, A = some ⟨g, off, none⟩ ∧ ∀ j u, xs[j]? = some u → w.cell? ⟨g, off + j, none⟩ = some u

theorem add_plain (g off j : Nat) : (⟨g, off, none⟩ : Addr).add j = ⟨g, off + j, none⟩ := by
  unfold Addr.add
  by_cases h : j = 0 <;> simp [h]

section
variable {w w' : World} {t : TypeId} {lo : Nat} {A : Option Addr} {xs : List Value}
theorem Row.empty : Row w t lo A [] := fun h => absurd h (by simp)
theorem Row.keep_ (h : Row w t lo A xs) (hk : ∀ g cs, lo ≤ g → Has w g t cs → Has w' g t cs) : Row w' t lo A xs := fun hx => by
  obtain ⟨g, off, cs, hA, hl, hg, hc⟩ := h hx
  exact ⟨g, off, cs, hA, hl, hk g cs hl hg, hc⟩
theorem Row.drew (h : Row w t lo A xs) : Row w.drew t lo A xs := h
theorem Row.alloc (h : Row w t lo A xs) (o : Obj) : Row (w.alloc o) t lo A xs := h.keep_ fun _ _ _ hg => hg.alloc o
theorem Row.below (h : Row w t lo A xs) (hb : Below w.heap.size w w') : Row w' t lo A xs := h.keep_ fun _ _ _ hg => hg.below hb hg.lt
theorem Row.away {P : Nat} (h : Row w t lo A xs) (hP : P < lo) (hg : w.grownBy w' (some P)) : Row w' t lo A xs := h.keep_ fun _ _ hl hh => hh.grown hg (by
  intro e
  injection e with e
  omega)
theorem Row.grown {P : Nat} {t' : TypeId} {cs' : Array Value} (h : Row w t lo A xs) (hP : Has w P t' cs') (hne : t ≠ t') (hg : w.grownBy w' (some P)) : Row w' t lo A xs :=
  h.keep_ fun _ _ _ hh => hh.grown hg (by
    intro e
    injection e with e
    exact hh.apart hP hne e)
theorem Row.store {P : Nat} {t' : TypeId} {cs' : Array Value} (h : Row w t lo A xs) (hP : Has w P t' cs') (hne : t ≠ t') (i : Nat) (u : Value) : Row (w.setCell ⟨P, i, none⟩ u) t lo A xs :=
  h.keep_ fun _ _ _ hh => hh.away (p := ⟨P, i, none⟩) (hh.apart hP hne) u
theorem Row.reads (h : Row w t lo A xs) : Reads w A xs := fun hx => by
  obtain ⟨g, off, cs, hA, _, hg, hc⟩ := h hx
  exact ⟨g, off, hA, fun j u hj => by rw [hg.cell (off + j)]; exact hc j u hj⟩
theorem Row.take (h : Row w t lo A xs) (k : Nat) : Row w t lo A (xs.take k) := fun hx => by
  obtain ⟨g, off, cs, hA, hl, hg, hc⟩ := h (by simp at hx; omega)
  exact ⟨g, off, cs, hA, hl, hg, fun j u hj => hc j u (by
    rw [List.getElem?_take] at hj
    split at hj
    · exact hj
    · cases hj)⟩
theorem Row.drop (h : Row w t lo A xs) {k cap : Nat} (hc : xs.length ≤ cap) : Row w t lo (if cap = k then A else A.map (·.add k)) (xs.drop k) := fun hx => by
  simp at hx
  obtain ⟨g, off, cs, hA, hl, hg, hcell⟩ := h (by omega)
  rw [if_neg (by omega), hA]
  refine ⟨g, off + k, cs, by simp [add_plain], hl, hg, fun j u hj => ?_⟩
  rw [Nat.add_assoc]
  exact hcell _ u (by rw [← hj, List.getElem?_drop])
theorem Row.low (h : Row w t lo A xs) {lo' : Nat} (hl : lo' ≤ lo) : Row w t lo' A xs := fun hx => by
  obtain ⟨g, off, cs, hA, hlo, hg, hc⟩ := h hx
  exact ⟨g, off, cs, hA, by omega, hg, hc⟩
theorem Row.of_own {base : Nat} {e : TypeId} {n c : Nat} (h : w.ownsRow base e 1 (.slice A n c) n xs) : Row w e base A xs := fun hx => by
  rcases h.2 with ⟨hv, hn⟩ | ⟨g, cap, cur, hv, hb, hg, _, _, _, hcur⟩
  · have := h.1
    omega
  · injection hv with hA _ _
    subst hA
    refine ⟨g, 0, cur, rfl, hb, hg, fun j u hj => ?_⟩
    rw [← hcur, List.getElem?_take] at hj
    split at hj
    · simpa using hj
    · cases hj
theorem Reads.empty : Reads w A [] := fun h => absurd h (by simp)
theorem Reads.below {B : Nat} (h : Reads w A xs) (hb : Below B w w') (hA : 0 < xs.length → ∀ a, A = some a → a.block < B) : Reads w' A xs := fun hx => by
  obtain ⟨g, off, hA', hc⟩ := h hx
  exact ⟨g, off, hA', fun j u hj => (hb.cell (p := ⟨g, off + j, none⟩) (hA hx ⟨g, off, none⟩ hA')).trans (hc j u hj)⟩
theorem Reads.keep_ (h : Reads w A xs) (hb : Below w.heap.size w w') : Reads w' A xs := fun hx => by
  obtain ⟨g, off, hA, hc⟩ := h hx
  exact ⟨g, off, hA, fun j u hj => (hb.cell (p := ⟨g, off + j, none⟩) (World.block_lt_of_cell? w _ (hc j u hj))).trans (hc j u hj)⟩
theorem Reads.drew (h : Reads w A xs) : Reads w.drew A xs := h
theorem Reads.take (h : Reads w A xs) (k : Nat) : Reads w A (xs.take k) := fun hx => by
  obtain ⟨g, off, hA, hc⟩ := h (by simp at hx; omega)
  exact ⟨g, off, hA, fun j u hj => hc j u (by
    rw [List.getElem?_take] at hj
    split at hj
    · exact hj
    · cases hj)⟩
end

/-! Only block g, and what is new, has turned. -/
theorem only_store {a w : World} {g : Nat} (h : a.grownBy w (some g)) (i : Nat) (u : Value) : a.grownBy (w.setCell ⟨g, i, none⟩ u) (some g) :=
  ⟨h.os, h.tape, h.output, by simpa [World.setCell] using h.size, fun i hi hne => (Below.heap_setCell w _ u i (by
    rintro rfl
    exact hne rfl)).trans (h.block i hi hne)⟩
theorem below_step {w b c : World} (h : Below w.heap.size w b) (k : Below b.heap.size b c) : Below w.heap.size w c := h.trans (k.mono h.size)
theorem u64_bounds {n : Int} (h : (Lit.int .u64 n).wf = true) : 0 ≤ n ∧ n ≤ 18446744073709551615 := by
  simp [Lit.wf, IntKind.min, IntKind.max, IntKind.signed, IntKind.bits] at h
  omega
theorem u16_bounds {n : Int} (h : (Lit.int .u16 n).wf = true) : 0 ≤ n ∧ n ≤ 65535 := by
  simp [Lit.wf, IntKind.min, IntKind.max, IntKind.signed, IntKind.bits] at h
  omega
theorem u8_bounds {n : Int} (h : (Lit.int .u8 n).wf = true) : 0 ≤ n ∧ n ≤ 255 := by
  simp [Lit.wf, IntKind.min, IntKind.max, IntKind.signed, IntKind.bits] at h
  omega
structure Arg (w : World) (A : Option Addr) (n c : Nat) (l : List UInt8) : Prop where
  len : n = l.length
  reads : Reads w A (l.map byteV)
  old : 0 < n → ∀ a, A = some a → a.block < w.heap.size
  room : n ≤ c
  most : c ≤ maxLen
  none_ : A = none → c = 0
theorem Arg.below {w w' : World} {A : Option Addr} {n c : Nat} {l : List UInt8} (h : Arg w A n c l) (hb : Below w.heap.size w w') : Arg w' A n c l :=
  ⟨h.len, h.reads.below hb (fun hx => h.old (by rw [h.len]; simpa using hx)), fun hn a ha => Nat.lt_of_lt_of_le (h.old hn a ha) hb.size, h.room, h.most, h.none_⟩

/-! Strings. -/
theorem below_alloc' {w b : World} (h : Below w.heap.size w b) (o : Obj) : Below w.heap.size w (b.alloc o) := h.alloc h.size o
end Go.Proofs.Ytoelojlabmconaa
end

section
namespace Go.Proofs.Ytoelojlabmconaa
open Go.RowKit
set_option linter.unusedVariables false

def Fresh (W : Nat) (l : List UInt8) (w : World) (e : Ending) (w' : World) : Prop :=
  ∃ A c, e = .returned (.slice A l.length c) ∧ l.length ≤ c ∧ c ≤ maxLen ∧ Row w' 5 W A (l.map byteV) ∧ Below W w w'
end Go.Proofs.Ytoelojlabmconaa
end

section
namespace Go.Proofs.Ytoelojlabmconaa
open Go.ChangeShapes Go.WideShapes Go.ChangeAt Go.RowKit Go.Deep
set_option linter.unusedVariables false

theorem own : ownKnob Try.prog.godebug = none := by kernel_rfl
theorem laidOut : laidOutB Try.prog = true := by kernel_rfl

section
variable {H : Type} {enc : TypeId × Value → H} {W : World} {base : Nat}

end

end Go.Proofs.Ytoelojlabmconaa
end

section
namespace Go.Proofs.Ytoelojlabmconaa
open Go.RowKit
set_option linter.unusedVariables false

theorem Reads.zint {w : World} {A : Option Addr} {l : List Int} (h : Reads w A (l.map (Value.int .i64))) {i : Nat} (hi : i < l.length) :
    ∃ g off, A = some ⟨g, off, none⟩ ∧ w.cell? ⟨g, off + i, none⟩ = some (.int .i64 l[i]) := by
  obtain ⟨g, off, hA, hc⟩ := h (by simpa using Nat.lt_of_le_of_lt (Nat.zero_le _) hi)
  exact ⟨g, off, hA, hc _ _ (by simp [hi])⟩
set_option maxHeartbeats 1000000 in
theorem r3Ints_z (l : List Int) (A B : Option Addr) (n c c' : Nat) (w : World) (hn : n = l.length) (ha : Reads w A (l.map (Value.int .i64))) (hb : Reads w B (l.map (Value.int .i64))) (hl : n ≤ 1000000) :
    Calls Try.prog 16 #[.slice A n c, .slice B n c'] w fun e w' => e = .returned (.bool true) ∧ Below w.heap.size w w' := by
  have HN := Lib.hid hn
  have HA := Lib.hid ha
  have HB := Lib.hid hb
  clear hn ha hb
  go_enter Try.func16, Try.ntmps16
  go_wp2
  go_loopw [5] (fun i wr => ∃ k : Nat, k ≤ n ∧ i = .int .i64 k ∧ Below w.heap.size w wr) (fun i _ => n - (intOf i).toNat)
  case atStart => exact ⟨0, Nat.zero_le _, rfl, Below.refl _ _⟩
  case round =>
    obtain ⟨k, hk, rfl, hB⟩ := hrel
    have BW := Lib.hid hB
    clear hB
    by_cases hlt : k < n
    · have hkl : k < l.length := by have := HN.out; omega
      obtain ⟨g1, o1, rfl, c1⟩ := (HA.out.keep_ BW.out).zint hkl
      obtain ⟨g2, o2, rfl, c2⟩ := (HB.out.keep_ BW.out).zint hkl
      generalize l[k] = x at c1 c2
      have i0 : (0 : Int) ≤ (k : Int) := by omega
      have i1 : (k : Int) < (n : Int) := by omega
      clear hkl
      go_wp2
      go_region
      all_goals
        go_wp2
        go_roundw
        case rel => exact ⟨k + 1, by omega, by go_num, BW.out.drew⟩
        case measure => simp [intOf]; omega
    · obtain rfl : k = n := by omega
      obtain ⟨w3, hw3⟩ : ∃ w3 : World, w3 = wr := ⟨_, rfl⟩
      subst hw3
      go_wp2
      go_ret
      exact ⟨rfl, BW.out⟩

end Go.Proofs.Ytoelojlabmconaa
end

section
namespace Go.Proofs.Ytoelojlabmconaa
set_option linter.unusedVariables false

/-! Bits. -/
def mask (p : Nat → Bool) : Nat → Nat
  | 0 => 0
  | n + 1 => mask p n + if p n then 2 ^ n else 0
/-! The first of n that fits. -/
def firstN (p : Nat → Bool) (n : Nat) : Int := match (List.range n).find? p with
  | some k => k
  | none => -1
/-! Rows: which label may flow to which. -/
def ubit (up : List Nat) (a b : Nat) : Bool := (up.getD a 0).testBit b
def lq (up : List Nat) (a b : Nat) : Bool := decide (up.length ≤ 64) && decide (a < up.length) && decide (b < up.length) && ubit up a b
def leqZ (up : List Nat) (a b : Int) : Bool := decide (0 ≤ a) && decide (0 ≤ b) && lq up a.toNat b.toNat
def downN (up : List Nat) (a : Int) : Nat := mask (fun i => leqZ up i a) up.length
def aboveN (up : List Nat) (a : Int) : Nat := mask (fun i => leqZ up a i) up.length
def isJ (up : List Nat) (a b : Int) (c : Nat) : Bool := (leqZ up a c && leqZ up b c) && (List.range up.length).all fun d => !(leqZ up a d && leqZ up b d) || leqZ up c d
def isM (up : List Nat) (a b : Int) (c : Nat) : Bool := (leqZ up c a && leqZ up c b) && (List.range up.length).all fun d => !(leqZ up d a && leqZ up d b) || leqZ up d c
def joinN (up : List Nat) (a b : Int) : Int := firstN (isJ up a b) up.length
def meetN (up : List Nat) (a b : Int) : Int := firstN (isM up a b) up.length
def IsLat (up : List Nat) : Prop :=
  (1 ≤ up.length ∧ up.length ≤ 64) ∧ (∀ a, a < up.length → ∀ b, b < 64 → ubit up a b = true → b < up.length) ∧ (∀ a, a < up.length → ubit up a a = true) ∧
  (∀ a, a < up.length → ∀ b, b < up.length → a ≠ b → ubit up a b = true → ubit up b a = false) ∧
  (∀ a, a < up.length → ∀ b, b < up.length → ubit up a b = true → ∀ c, c < up.length → ubit up b c = true → ubit up a c = true) ∧
  (∀ a, a < up.length → ∀ b, b < up.length → 0 ≤ joinN up a b ∧ 0 ≤ meetN up a b)
open Classical in
noncomputable def checkB (up : List Nat) : Bool := decide (IsLat up)
section
variable {up : List Nat}
end

/-! The labels of bits. -/
def listN (x : Nat) : List Nat := (List.range 64).filter fun k => x.testBit k

/-! What follows from rows. -/
inductive Reach (up : List Nat) : Nat → Nat → Prop
  | refl (a : Nat) : Reach up a a
  | step {a b c : Nat} : b < up.length → c < up.length → Reach up a b → ubit up b c = true → Reach up a c
open Classical in
/-- The rows with all that follows from them. -/
noncomputable def closeN (up : List Nat) : List Nat := if 64 < up.length then [] else (List.range up.length).map fun a => mask (fun b => decide (Reach up a b)) up.length
end Go.Proofs.Ytoelojlabmconaa
end
