import Derived.WalkKit
import Derived.Below
import Derived.Lib.Hide
import Derived.Lib.AppendStr
import Derived.Laws.OwnMore
import Derived.Laws.AppendOwnNone
import Derived.Laws.IdiomStrings
import Derived.Deep.Draws
import Derived.Maps.AppendAt
import Derived.Test.YtpaklhifnndeoaaRows
import Derived.LoopTactic
import Derived.Outline
import Derived.WalkSpells
import Derived.WalkLawsBesides
import Derived.KernelRfl
import Derived.ProofKit
import Derived.OpenShut
import Derived.ShutString
import Derived.ChangeOld
import Derived.Deep.SlicePairs
import Derived.OrdersHeld
import Derived.Deep.RegionHeld
import Derived.RangeFuncNested
import Derived.RangeFuncCalls
import Derived.OwnWalkIn
import Derived.OrdersIn
import Derived.Deep.Onto
/- Of a claim's texts, joined: Kit Mem Args Ctm Trm Trn Rdr Lit Zrw. No statement but in the last. -/
section
namespace Go.Proofs.Ytpaklhifnndeoaa
open Go.RowKit

def byteV (c : UInt8) : Value := .int .u8 (c.toNat : Int)

def Has (w : World) (g : Nat) (t : TypeId) (cs : Array Value) : Prop := w.heap[g]? = some (.cells cs t (0, 0))

section
variable {w w' : World} {g : Nat} {t : TypeId} {cs : Array Value}
theorem Has.lt (h : Has w g t cs) : g < w.heap.size := by
  unfold Has at h
  exact (Array.getElem?_eq_some_iff.1 h).1
theorem Has.cell (h : Has w g t cs) (i : Nat) : w.cell? ⟨g, i, none⟩ = cs[i]? := cell_of_row w g i cs t (0, 0) h
theorem Has.free (h : Has w g t cs) (i : Nat) : w.frozen? ⟨g, i, none⟩ = false := by unfold Has at h; simp [World.frozen?, h]
theorem Has.made (w : World) (t : TypeId) (cs : Array Value) : Has (w.alloc (.cells cs t)) w.heap.size t cs := heap_alloc_new w _
theorem Has.drew (h : Has w g t cs) : Has w.drew g t cs := h
theorem Has.alloc (h : Has w g t cs) (o : Obj) : Has (w.alloc o) g t cs := (Below.heap_alloc w o g h.lt).trans h
theorem Has.store (h : Has w g t cs) (i : Nat) (u : Value) : Has (w.setCell ⟨g, i, none⟩ u) g t (cs.setIfInBounds i u) := by
  unfold Has at h ⊢
  simp [World.setCell, Array.getElem?_modify, h]
theorem Has.away (h : Has w g t cs) {p : Addr} (hp : g ≠ p.block) (u : Value) : Has (w.setCell p u) g t cs := (Below.heap_setCell w p u g hp).trans h
theorem Has.below {B : Nat} (h : Has w g t cs) (hb : Below B w w') (hg : g < B) : Has w' g t cs := (hb.block g hg).trans h
theorem Has.grown {row : Option Nat} (h : Has w g t cs) (hb : w.grownBy w' row) (hg : some g ≠ row) : Has w' g t cs := (hb.block g h.lt hg).trans h
theorem Has.apart {g' : Nat} {t' : TypeId} {cs' : Array Value} (h : Has w g t cs) (h' : Has w g' t' cs') (hne : t ≠ t') : g ≠ g' := by
  rintro rfl
  unfold Has at h h'
  simp_all
end

def Row (w : World) (t : TypeId) (lo : Nat) (A : Option Addr) (xs : List Value) : Prop :=
  0 < xs.length → ∃ g off cs, A = some ⟨g, off, none⟩ ∧ lo ≤ g ∧ Has w g t cs ∧ ∀ j u, xs[j]? = some u → cs[off + j]? = some u

def Reads (w : World) (A : Option Addr) (xs : List Value) : Prop :=
  0 < xs.length → ∃ g off, A = some ⟨g, off, none⟩ ∧ ∀ j u, xs[j]? = some u → w.cell? ⟨g, off + j, none⟩ = some u

theorem add_plain (g off j : Nat) : (⟨g, off, none⟩ : Addr).add j = ⟨g, off + j, none⟩ := by
  unfold Addr.add
  by_cases h : j = 0 <;> simp [h]

section
variable {w w' : World} {t : TypeId} {lo : Nat} {A : Option Addr} {xs : List Value}
theorem Row.empty : Row w t lo A [] := fun h => absurd h (by simp)
theorem Row.keep_ (h : Row w t lo A xs) (hk : ∀ g cs, lo ≤ g → Has w g t cs → Has w' g t cs) : Row w' t lo A xs := fun hx => by
  obtain ⟨g, off, cs, hA, hl, hg, hc⟩ := h hx
  exact ⟨g, off, cs, hA, hl, hk g cs hl hg, hc⟩
theorem Row.drew (h : Row w t lo A xs) : Row w.drew t lo A xs := h
theorem Row.alloc (h : Row w t lo A xs) (o : Obj) : Row (w.alloc o) t lo A xs := h.keep_ fun _ _ _ hg => hg.alloc o
theorem Row.below (h : Row w t lo A xs) (hb : Below w.heap.size w w') : Row w' t lo A xs := h.keep_ fun _ _ _ hg => hg.below hb hg.lt
theorem Row.away {P : Nat} (h : Row w t lo A xs) (hP : P < lo) (hg : w.grownBy w' (some P)) : Row w' t lo A xs := h.keep_ fun _ _ hl hh => hh.grown hg (by
  intro e
  injection e with e
  omega)
theorem Row.grown {P : Nat} {t' : TypeId} {cs' : Array Value} (h : Row w t lo A xs) (hP : Has w P t' cs') (hne : t ≠ t') (hg : w.grownBy w' (some P)) : Row w' t lo A xs :=
  h.keep_ fun _ _ _ hh => hh.grown hg (by
    intro e
    injection e with e
    exact hh.apart hP hne e)
theorem Row.store {P : Nat} {t' : TypeId} {cs' : Array Value} (h : Row w t lo A xs) (hP : Has w P t' cs') (hne : t ≠ t') (i : Nat) (u : Value) : Row (w.setCell ⟨P, i, none⟩ u) t lo A xs :=
  h.keep_ fun _ _ _ hh => hh.away (p := ⟨P, i, none⟩) (hh.apart hP hne) u
theorem Row.reads (h : Row w t lo A xs) : Reads w A xs := fun hx => by
  obtain ⟨g, off, cs, hA, _, hg, hc⟩ := h hx
  exact ⟨g, off, hA, fun j u hj => by rw [hg.cell (off + j)]; exact hc j u hj⟩
theorem Row.take (h : Row w t lo A xs) (k : Nat) : Row w t lo A (xs.take k) := fun hx => by
  obtain ⟨g, off, cs, hA, hl, hg, hc⟩ := h (by simp at hx; omega)
  exact ⟨g, off, cs, hA, hl, hg, fun j u hj => hc j u (by
    rw [List.getElem?_take] at hj
    split at hj
    · exact hj
    · cases hj)⟩
theorem Row.drop (h : Row w t lo A xs) {k cap : Nat} (hc : xs.length ≤ cap) : Row w t lo (if cap = k then A else A.map (·.add k)) (xs.drop k) := fun hx => by
  simp at hx
  obtain ⟨g, off, cs, hA, hl, hg, hcell⟩ := h (by omega)
  rw [if_neg (by omega), hA]
  refine ⟨g, off + k, cs, by simp [add_plain], hl, hg, fun j u hj => ?_⟩
  rw [Nat.add_assoc]
  exact hcell _ u (by rw [← hj, List.getElem?_drop])
theorem Row.low (h : Row w t lo A xs) {lo' : Nat} (hl : lo' ≤ lo) : Row w t lo' A xs := fun hx => by
  obtain ⟨g, off, cs, hA, hlo, hg, hc⟩ := h hx
  exact ⟨g, off, cs, hA, by omega, hg, hc⟩
theorem Row.of_own {base : Nat} {e : TypeId} {n c : Nat} (h : w.ownsRow base e 1 (.slice A n c) n xs) : Row w e base A xs := fun hx => by
  rcases h.2 with ⟨hv, hn⟩ | ⟨g, cap, cur, hv, hb, hg, _, _, _, hcur⟩
  · have := h.1
    omega
  · injection hv with hA _ _
    subst hA
    refine ⟨g, 0, cur, rfl, hb, hg, fun j u hj => ?_⟩
    rw [← hcur, List.getElem?_take] at hj
    split at hj
    · simpa using hj
    · cases hj
theorem Reads.empty : Reads w A [] := fun h => absurd h (by simp)
theorem Reads.below {B : Nat} (h : Reads w A xs) (hb : Below B w w') (hA : 0 < xs.length → ∀ a, A = some a → a.block < B) : Reads w' A xs := fun hx => by
  obtain ⟨g, off, hA', hc⟩ := h hx
  exact ⟨g, off, hA', fun j u hj => (hb.cell (p := ⟨g, off + j, none⟩) (hA hx ⟨g, off, none⟩ hA')).trans (hc j u hj)⟩
theorem Reads.keep_ (h : Reads w A xs) (hb : Below w.heap.size w w') : Reads w' A xs := fun hx => by
  obtain ⟨g, off, hA, hc⟩ := h hx
  exact ⟨g, off, hA, fun j u hj => (hb.cell (p := ⟨g, off + j, none⟩) (World.block_lt_of_cell? w _ (hc j u hj))).trans (hc j u hj)⟩
theorem Reads.drew (h : Reads w A xs) : Reads w.drew A xs := h
theorem Reads.take (h : Reads w A xs) (k : Nat) : Reads w A (xs.take k) := fun hx => by
  obtain ⟨g, off, hA, hc⟩ := h (by simp at hx; omega)
  exact ⟨g, off, hA, fun j u hj => hc j u (by
    rw [List.getElem?_take] at hj
    split at hj
    · exact hj
    · cases hj)⟩
end

/-! Only block g, and what is new, has turned. -/
theorem only_refl (w : World) (g : Nat) : w.grownBy w (some g) := ⟨rfl, rfl, rfl, Nat.le_refl _, fun _ _ _ => rfl⟩
theorem only_store {a w : World} {g : Nat} (h : a.grownBy w (some g)) (i : Nat) (u : Value) : a.grownBy (w.setCell ⟨g, i, none⟩ u) (some g) :=
  ⟨h.os, h.tape, h.output, by simpa [World.setCell] using h.size, fun i hi hne => (Below.heap_setCell w _ u i (by
    rintro rfl
    exact hne rfl)).trans (h.block i hi hne)⟩
theorem only_of_below {a w : World} {B g : Nat} (h : Below B a w) (hB : a.heap.size ≤ B) : a.grownBy w (some g) := ⟨h.os, h.tape, h.output, h.size, fun i hi _ => h.block i (by omega)⟩
theorem below_only {a b : World} {B g : Nat} (h : a.grownBy b (some g)) (hB : B ≤ g) (hs : B ≤ a.heap.size) : Below B a b :=
  ⟨h.os, h.tape, h.output, h.size, fun i hi => h.block i (by omega) (by intro e; injection e with e; omega)⟩
theorem below_step {w b c : World} (h : Below w.heap.size w b) (k : Below b.heap.size b c) : Below w.heap.size w c := h.trans (k.mono h.size)
theorem u8_bounds {n : Int} (h : (Lit.int .u8 n).wf = true) : 0 ≤ n ∧ n ≤ 255 := by
  simp [Lit.wf, IntKind.min, IntKind.max, IntKind.signed, IntKind.bits] at h
  omega
theorem bytes_of (zs : List Int) (h : ∀ n ∈ zs, (Lit.int .u8 n).wf = true) : ∃ l : List UInt8, l.length = zs.length ∧ zs.map (Value.int .u8) = l.map byteV := by
  induction zs with
  | nil => exact ⟨[], rfl, rfl⟩
  | cons n zs ih =>
    obtain ⟨l, h1, h2⟩ := ih fun m hm => h m (List.mem_cons_of_mem _ hm)
    have hb := u8_bounds (h n (List.mem_cons_self ..))
    refine ⟨UInt8.ofNat n.toNat :: l, by simp [h1], ?_⟩
    simp only [List.map_cons, h2, byteV]
    congr 2
    simp
    omega

structure Arg (w : World) (A : Option Addr) (n c : Nat) (l : List UInt8) : Prop where
  len : n = l.length
  reads : Reads w A (l.map byteV)
  old : 0 < n → ∀ a, A = some a → a.block < w.heap.size
  room : n ≤ c
  most : c ≤ maxLen
  none_ : A = none → c = 0
theorem Arg.below {w w' : World} {A : Option Addr} {n c : Nat} {l : List UInt8} (h : Arg w A n c l) (hb : Below w.heap.size w w') : Arg w' A n c l :=
  ⟨h.len, h.reads.below hb (fun hx => h.old (by rw [h.len]; simpa using hx)), fun hn a ha => Nat.lt_of_lt_of_le (h.old hn a ha) hb.size, h.room, h.most, h.none_⟩

/-! Strings. -/
theorem size_list (l : List UInt8) : (⟨l.toArray⟩ : ByteArray).size = l.length := by simp [ByteArray.size]

theorem run_string_of {P : Program} (w : World) (src dst e : TypeId) (hs : P.underlying src = some (.slice e)) (he : P.underlying e = some (.int .u8)) (hd : P.underlying dst = some .string)
    {A : Option Addr} {n cap : Nat} {l : List UInt8} (hn : n = l.length) (h : Reads w A (l.map byteV)) :
    (convert src dst (.slice A n cap)).run P w = .ok (.string ⟨l.toArray⟩) w := by
  subst hn
  rcases A with _ | a
  · have hl : l = [] := by
      rcases l with _ | ⟨c, l⟩
      · rfl
      · obtain ⟨g, off, ha, _⟩ := h (by simp)
        cases ha
    subst hl
    rw [run_convert_bytes_string w src dst e none _ cap hs he hd]
    simp [Conv.bytesToString]
    rfl
  · refine run_convert_bytes_back w src dst e a cap l hs he hd fun j hj => ?_
    obtain ⟨g, off, ha, hc⟩ := h (by simp; omega)
    injection ha with ha
    subst ha
    rw [add_plain]
    exact hc j _ (by simp [List.getElem?_eq_getElem hj, byteV])
theorem below_alloc' {w b : World} (h : Below w.heap.size w b) (o : Obj) : Below w.heap.size w (b.alloc o) := h.alloc h.size o
end Go.Proofs.Ytpaklhifnndeoaa
end

section
namespace Go.Proofs.Ytpaklhifnndeoaa
open Go.RowKit
set_option linter.unusedVariables false

def Fresh (W : Nat) (l : List UInt8) (w : World) (e : Ending) (w' : World) : Prop :=
  ∃ A c, e = .returned (.slice A l.length c) ∧ l.length ≤ c ∧ c ≤ maxLen ∧ Row w' 5 W A (l.map byteV) ∧ Below W w w'
theorem u8info : (Try.prog.info? 5).map (fun i => (i.zero, i.size, i.bytes)) = some (some (.int .u8 0), 1, 1) := by kernel_rfl
end Go.Proofs.Ytpaklhifnndeoaa
end

section
namespace Go.Proofs.Ytpaklhifnndeoaa
open Go.ChangeShapes Go.WideShapes Go.ChangeAt Go.RowKit Go.Deep
set_option linter.unusedVariables false

theorem own : ownKnob Try.prog.godebug = none := by kernel_rfl
theorem laidOut : laidOutB Try.prog = true := by kernel_rfl

section
variable {H : Type} {enc : TypeId × Value → H} {W : World} {base : Nat}

theorem arg_bytes {A : Option Addr} {n c : Nat} {d : DataW H} {p : List MemPlace} (h : DataW.Trod enc Try.prog W 0 (fun _ => true) true 54 (.slice A n c) d p) :
    ∃ l : List UInt8, Arg W A n c l := by
  obtain ⟨fuel, hf⟩ := h
  rcases open_ints Try.underlying54 Try.underlying5 (by kernel_rfl) hf with ⟨hcs, _⟩ | ⟨x, l, c', zs, hcs, _, hl, hm, hz, hx, hcell, hwz⟩
  · simp [Value.cells] at hcs
    obtain ⟨rfl, rfl, rfl⟩ := hcs
    exact ⟨[], rfl, Reads.empty, fun _ a ha => (by cases ha), Nat.le_refl _, Nat.zero_le _, fun _ => rfl⟩
  · simp [Value.cells] at hcs
    obtain ⟨rfl, rfl, rfl⟩ := hcs
    have hz' : zs.length = c := by simpa using hz
    obtain ⟨bs, hbl, hbm⟩ := bytes_of zs hwz
    have hat : ∀ i, i < zs.length → W.cell? (x.add i) = (zs.map (Value.int .u8))[i]? := fun i hi => by
      rw [hcell i hi]
      simp [hi]
    by_cases hc0 : c = 0
    · subst hc0
      have hn : n = 0 := by omega
      subst hn
      exact ⟨[], rfl, Reads.empty, fun h => absurd h (by omega), hl, hm, fun h => by cases h⟩
    · obtain ⟨b, off, spot⟩ := x
      have hspot : spot = none := by
        have := hcell 0 (by omega)
        simpa [Addr.add] using World.cell?_spot this
      subst hspot
      have hblk : b < W.heap.size := by
        have := hcell 0 (by omega)
        exact World.block_lt_of_cell? W _ (by simpa [Addr.add] using this)
      refine ⟨bs.take n, by simp; omega, fun hx => ⟨b, off, rfl, fun j u hj => ?_⟩, fun _ a ha => (by injection ha with ha; subst ha; exact hblk), hl, hm, fun h => by cases h⟩
      have hjn : j < n := by
        have := (List.getElem?_eq_some_iff.1 hj).1
        simp at this
        omega
      have h2 := hat j (by omega)
      rw [add_plain] at h2
      rw [h2, hbm]
      rw [List.map_take, List.getElem?_take, if_pos hjn] at hj
      exact hj
end

end Go.Proofs.Ytpaklhifnndeoaa
end

section
namespace Go.Proofs.Ytpaklhifnndeoaa
open Go.RowKit
set_option linter.unusedVariables false

def sumZ : List Int → Int
  | [] => 0
  | x :: l => x + sumZ l
theorem sumZ_app (a b : List Int) : sumZ (a ++ b) = sumZ a + sumZ b := by
  induction a with
  | nil => simp [sumZ]
  | cons x a ih =>
    show x + sumZ (a ++ b) = x + sumZ a + sumZ b
    rw [ih]
    omega
theorem sumZ_parts (l : List Int) (k : Nat) : sumZ (l.take k) + sumZ (l.drop k) = sumZ l := by rw [← sumZ_app, List.take_append_drop]
theorem sumZ_more {l : List Int} {k : Nat} (h : k < l.length) : sumZ (l.take (k + 1)) = sumZ (l.take k) + l[k] := by
  rw [List.take_succ_eq_append_getElem h, sumZ_app]
  simp [sumZ]
theorem sumZ_pos {l : List Int} (h : ∀ x ∈ l, 0 ≤ x) : 0 ≤ sumZ l := by
  induction l with
  | nil => exact Int.le_refl 0
  | cons x l ih =>
    have h1 := h x List.mem_cons_self
    have h2 := ih (fun y hy => h y (List.mem_cons_of_mem _ hy))
    show 0 ≤ x + sumZ l
    omega
theorem sumZ_most {l : List Int} {b : Int} (h : ∀ x ∈ l, x ≤ b) : sumZ l ≤ (l.length : Int) * b := by
  induction l with
  | nil => simp [sumZ]
  | cons x l ih =>
    have h1 := h x List.mem_cons_self
    have h2 := ih (fun y hy => h y (List.mem_cons_of_mem _ hy))
    show x + sumZ l ≤ ((l.length + 1 : Nat) : Int) * b
    have h3 : ((l.length + 1 : Nat) : Int) * b = (l.length : Int) * b + b := by rw [show ((l.length + 1 : Nat) : Int) = (l.length : Int) + 1 by omega, Int.add_mul, Int.one_mul]
    omega
def worseZ (l : List Int) (k : Nat) : Int := if sumZ (l.drop k) < sumZ (l.take k) then sumZ (l.take k) else sumZ (l.drop k)
theorem worseZ_max (l : List Int) (k : Nat) : worseZ l k = max (sumZ (l.take k)) (sumZ (l.drop k)) := by
  unfold worseZ
  split <;> omega
def bestTo (l : List Int) : Nat → Nat
  | 0 => 1
  | 1 => 1
  | k + 2 => if worseZ l (k + 2) < worseZ l (bestTo l (k + 1)) then k + 2 else bestTo l (k + 1)
theorem bestTo_more (l : List Int) {k : Nat} (h : 1 ≤ k) : bestTo l (k + 1) = if worseZ l (k + 1) < worseZ l (bestTo l k) then k + 1 else bestTo l k := by
  obtain ⟨j, rfl⟩ : ∃ j, k = j + 1 := ⟨k - 1, by omega⟩
  rfl
theorem bestTo_in (l : List Int) : ∀ k, 1 ≤ k → 1 ≤ bestTo l k ∧ bestTo l k ≤ k
  | 1, _ => ⟨Nat.le_refl _, Nat.le_refl _⟩
  | k + 2, _ => by
    have h := bestTo_in l (k + 1) (by omega)
    rw [bestTo_more l (by omega)]
    split
    · exact ⟨by omega, Nat.le_refl _⟩
    · exact ⟨h.1, by omega⟩
theorem bestTo_least (l : List Int) : ∀ k, 1 ≤ k → ∀ j, 1 ≤ j → j ≤ k → worseZ l (bestTo l k) ≤ worseZ l j ∧ (j < bestTo l k → worseZ l (bestTo l k) < worseZ l j)
  | 1, _, j, h1, h2 => by
    obtain rfl : j = 1 := by omega
    exact ⟨Int.le_refl _, fun h => absurd h (Nat.lt_irrefl _)⟩
  | k + 2, _, j, h1, h2 => by
    have ih := bestTo_least l (k + 1) (by omega)
    have hin := bestTo_in l (k + 1) (by omega)
    rw [bestTo_more l (by omega), show k + 1 + 1 = k + 2 from rfl]
    by_cases e : j = k + 2
    · subst e
      split
      · exact ⟨Int.le_refl _, fun h => absurd h (Nat.lt_irrefl _)⟩
      · rename_i h3
        exact ⟨by omega, fun h => by omega⟩
    · have h4 := ih j h1 (by omega)
      split
      · rename_i h3
        exact ⟨by omega, fun _ => by omega⟩
      · exact h4
def atZ (l : List Int) : Nat := if sumZ l ≤ 122 ∨ l.length < 2 then 0 else bestTo l (l.length - 1)
theorem atZ_zero {l : List Int} (h : sumZ l ≤ 122 ∨ l.length < 2) : atZ l = 0 := if_pos h
theorem atZ_in {l : List Int} (h : ¬ (sumZ l ≤ 122 ∨ l.length < 2)) : 1 ≤ atZ l ∧ atZ l < l.length := by
  unfold atZ
  rw [if_neg h]
  have := bestTo_in l (l.length - 1) (by omega)
  omega
theorem atZ_least {l : List Int} (h : ¬ (sumZ l ≤ 122 ∨ l.length < 2)) {j : Nat} (h1 : 1 ≤ j) (h2 : j < l.length) : worseZ l (atZ l) ≤ worseZ l j ∧ (j < atZ l → worseZ l (atZ l) < worseZ l j) := by
  unfold atZ
  rw [if_neg h]
  exact bestTo_least l (l.length - 1) (by omega) j h1 (by omega)
end Go.Proofs.Ytpaklhifnndeoaa
end

section
namespace Go.Proofs.Ytpaklhifnndeoaa
open Go.RowKit
set_option linter.unusedVariables false

theorem half_at {l : List Int} {m : Int} (hm : ∀ x ∈ l, 0 ≤ x ∧ x ≤ m) : ∀ n, n ≤ l.length → sumZ l ≤ 2 * sumZ (l.take n) → 0 < sumZ l → ∃ k, 1 ≤ k ∧ k ≤ n ∧ sumZ l ≤ 2 * sumZ (l.take k) ∧ 2 * sumZ (l.take (k - 1)) < sumZ l
  | 0, _, h1, h2 => by
    simp [sumZ] at h1
    omega
  | n + 1, hn, h1, h2 => by
    by_cases h : sumZ l ≤ 2 * sumZ (l.take n)
    · obtain ⟨k, a, b, c, d⟩ := half_at hm n (by omega) h h2
      exact ⟨k, a, by omega, c, d⟩
    · exact ⟨n + 1, by omega, Nat.le_refl _, h1, by rw [Nat.add_sub_cancel]; omega⟩
theorem parts_at {l : List Int} (h : ¬ (sumZ l ≤ 122 ∨ l.length < 2)) {m : Int} (hm : ∀ x ∈ l, 0 ≤ x ∧ x ≤ m) :
    2 * worseZ l (atZ l) ≤ sumZ l + m ∧ sumZ l - m ≤ 2 * sumZ (l.take (atZ l)) ∧ sumZ l - m ≤ 2 * sumZ (l.drop (atZ l)) := by
  have hs : 122 < sumZ l := by omega
  have hl : 2 ≤ l.length := by omega
  obtain ⟨k, k1, k2, k3, k4⟩ := half_at hm l.length (Nat.le_refl _) (by rw [List.take_length]; omega) (by omega)
  have hk : k - 1 < l.length := by omega
  have hx := hm l[k - 1] (List.getElem_mem hk)
  have hmore := sumZ_more hk
  rw [show k - 1 + 1 = k by omega] at hmore
  have hp1 := sumZ_parts l k
  have hp2 := sumZ_parts l (k - 1)
  have h0 : 0 ≤ sumZ (l.take (k - 1)) := sumZ_pos (fun x hx => (hm x (List.mem_of_mem_take hx)).1)
  have h0d : 0 ≤ sumZ (l.drop k) := sumZ_pos (fun x hx => (hm x (List.mem_of_mem_drop hx)).1)
  have hw : ∃ j, 1 ≤ j ∧ j < l.length ∧ 2 * worseZ l j ≤ sumZ l + m := by
    by_cases hc : k < l.length ∧ (2 * sumZ (l.take k) ≤ sumZ l + m ∨ k = 1)
    · refine ⟨k, k1, hc.1, ?_⟩
      rw [worseZ_max]
      rcases hc.2 with h1 | h1
      · omega
      · subst h1
        have z0 : sumZ (l.take (1 - 1)) = 0 := by simp [sumZ]
        rw [z0] at hmore
        omega
    · by_cases hk1 : k = 1
      · exact absurd ⟨by omega, .inr hk1⟩ hc
      · refine ⟨k - 1, by omega, hk, ?_⟩
        rw [worseZ_max]
        by_cases hkl : k < l.length
        · have : ¬ 2 * sumZ (l.take k) ≤ sumZ l + m := fun h1 => hc ⟨hkl, .inl h1⟩
          omega
        · have hke : k = l.length := by omega
          have ht : sumZ (l.take k) = sumZ l := by rw [hke, List.take_length]
          omega
  obtain ⟨j, j1, j2, j3⟩ := hw
  have hle := (atZ_least h j1 j2).1
  have hpa := sumZ_parts l (atZ l)
  have hmx := worseZ_max l (atZ l)
  refine ⟨by omega, by omega, by omega⟩

/-! The order of keys. -/
theorem bl_irrefl : ∀ a : List UInt8, Op.bytesLess a a = false
  | [] => rfl
  | x :: a => by simp [Op.bytesLess, bl_irrefl a, UInt8.lt_irrefl]
theorem bl_total : ∀ a b : List UInt8, Op.bytesLess a b = false → Op.bytesLess b a = false → a = b
  | [], [], _, _ => rfl
  | [], y :: b, h1, _ => by simp [Op.bytesLess] at h1
  | x :: a, [], _, h2 => by simp [Op.bytesLess] at h2
  | x :: a, y :: b, h1, h2 => by
    simp only [Op.bytesLess, Bool.or_eq_false_iff, decide_eq_false_iff_not] at h1 h2
    have hxy : x = y := UInt8.le_antisymm (UInt8.not_lt.1 h2.1) (UInt8.not_lt.1 h1.1)
    subst hxy
    simp only [BEq.rfl, Bool.true_and] at h1 h2
    rw [bl_total a b h1.2 h2.2]
theorem bl_trans : ∀ a b c : List UInt8, Op.bytesLess a b = true → Op.bytesLess b c = true → Op.bytesLess a c = true
  | _, [], [], _, h2 => by simp [Op.bytesLess] at h2
  | _, _ :: _, [], _, h2 => by simp [Op.bytesLess] at h2
  | [], _, z :: c, _, _ => by simp [Op.bytesLess]
  | x :: a, [], z :: c, h1, _ => by simp [Op.bytesLess] at h1
  | x :: a, y :: b, z :: c, h1, h2 => by
    simp only [Op.bytesLess, Bool.or_eq_true, Bool.and_eq_true, decide_eq_true_eq, beq_iff_eq] at h1 h2 ⊢
    rcases h1 with h1 | ⟨rfl, h1⟩
    · rcases h2 with h2 | ⟨rfl, h2⟩
      · exact .inl (UInt8.lt_trans h1 h2)
      · exact .inl h1
    · rcases h2 with h2 | ⟨rfl, h2⟩
      · exact .inl h2
      · exact .inr ⟨rfl, bl_trans a b c h1 h2⟩
theorem bl_nil (a : List UInt8) : Op.bytesLess a [] = false := by cases a <;> rfl
end Go.Proofs.Ytpaklhifnndeoaa
end

section
namespace Go.Proofs.Ytpaklhifnndeoaa
open Go.RowKit
set_option linter.unusedVariables false

structure Lf where
  k : List UInt8
  d : List UInt8
  pg : List Int
deriving Inhabited
inductive Tr where
  | leaf (p : Int) (l : List Lf)
  | branch (p : Int) (l : List (List UInt8 × Tr))
deriving Inhabited
theorem Tr.small {p : Int} {l : List (List UInt8 × Tr)} {x : List UInt8 × Tr} (h : x ∈ l) : SizeOf.sizeOf x.2 < SizeOf.sizeOf (Tr.branch p l) := by
  have h1 := List.sizeOf_lt_of_mem h
  obtain ⟨a, b⟩ := x
  simp at h1 ⊢
  omega
theorem Tr.ind {P : Tr → Prop} (hl : ∀ p l, P (.leaf p l)) (hb : ∀ p l, (∀ x ∈ l, P x.2) → P (.branch p l)) : ∀ t, P t
  | .leaf p l => hl p l
  | .branch p l => hb p l (fun x hx => Tr.ind hl hb x.2)
termination_by t => SizeOf.sizeOf t
decreasing_by exact Tr.small hx
def sizeL (x : Lf) : Int := 3 + (x.k.length : Int) + (if 16 < x.d.length then 4 else (x.d.length : Int))
def sizesT : Tr → List Int
  | .leaf _ l => l.map sizeL
  | .branch _ l => l.map (fun x => 4 + (x.1.length : Int))
def wayTo (l : List (List UInt8 × Tr)) (s : List UInt8) : Nat → Nat
  | 0 => 0
  | n + 1 => if Op.bytesLess s (l.getD (n + 1) default).1 then wayTo l s n else n + 1
def wayT (l : List (List UInt8 × Tr)) (s : List UInt8) : Nat := wayTo l s (l.length - 1)
theorem wayTo_le (l : List (List UInt8 × Tr)) (s : List UInt8) : ∀ n, wayTo l s n ≤ n
  | 0 => Nat.le_refl _
  | n + 1 => by
    unfold wayTo
    split
    · have := wayTo_le l s n
      omega
    · exact Nat.le_refl _
theorem wayT_lt {l : List (List UInt8 × Tr)} (s : List UInt8) (h : l ≠ []) : wayT l s < l.length := by
  have h1 := wayTo_le l s (l.length - 1)
  have h2 : l.length ≠ 0 := fun e => h (List.length_eq_zero_iff.1 e)
  unfold wayT
  omega
def getL15 (l : List Lf) (s : List UInt8) : Option (List UInt8) := (l.find? (fun x => x.k == s)).map (·.d)
def findT : Tr → List UInt8 → Option (List UInt8)
  | .leaf _ l, s => getL15 l s
  | .branch _ l, s => match h : l[wayT l s]? with
    | some x => findT x.2 s
    | none => none
termination_by t => SizeOf.sizeOf t
decreasing_by exact Tr.small (List.mem_of_getElem? h)
def keyed (s : List UInt8) : List (List UInt8 × Tr) → List (List UInt8 × Tr)
  | [] => []
  | x :: l => (s, x.2) :: l
def frontT (n : Nat) : Tr → Tr
  | .leaf _ l => .leaf 0 (l.take n)
  | .branch _ l => .branch 0 (l.take n)
def backT (n : Nat) : Tr → Tr
  | .leaf _ l => .leaf 0 (l.drop n)
  | .branch _ l => .branch 0 (keyed [] (l.drop n))
def keyT (n : Nat) : Tr → List UInt8
  | .leaf _ l => (l.getD n default).k
  | .branch _ l => (l.getD n default).1
def kidT (l : List (List UInt8 × Tr)) (k : Nat) : List UInt8 × Tr := l.getD k default
def splitT (l : List (List UInt8 × Tr)) (k n : Nat) : List (List UInt8 × Tr) :=
  l.take k ++ [((kidT l k).1, frontT n (kidT l k).2), (keyT n (kidT l k).2, backT n (kidT l k).2)] ++ l.drop (k + 1)
def atT (l : List (List UInt8 × Tr)) (k : Nat) : Nat := atZ (sizesT (kidT l k).2)
def partT (l : List (List UInt8 × Tr)) (k : Nat) : List (List UInt8 × Tr) := if atT l k = 0 then l else splitT l k (atT l k)
def joinT (s : List UInt8) : Tr → Tr → Tr
  | .leaf _ a, .leaf _ b => .leaf 0 (a ++ b)
  | .branch _ a, .branch _ b => .branch 0 (a ++ keyed s b)
  | a, _ => a
def firstT (l : List (List UInt8 × Tr)) (k : Nat) : Nat := if k + 1 < l.length then k else k - 1
def mergeT (l : List (List UInt8 × Tr)) (j : Nat) : List (List UInt8 × Tr) :=
  l.take j ++ [((kidT l j).1, joinT (kidT l (j + 1)).1 (kidT l j).2 (kidT l (j + 1)).2)] ++ l.drop (j + 2)
def mendT (p : Int) (l : List (List UInt8 × Tr)) (k : Nat) : Tr :=
  if atT l k ≠ 0 then .branch 0 (splitT l k (atT l k))
  else if 30 ≤ sumZ (sizesT (kidT l k).2) ∨ l.length < 2 then .branch p l
  else .branch 0 (partT (mergeT l (firstT l k)) (firstT l k))
def topT : Tr → Tr
  | .leaf p l => if atZ (sizesT (.leaf p l)) = 0 then .leaf p l else mendT 0 [([], .leaf p l)] 0
  | .branch p l => match h : l with
    | [x] => topT x.2
    | _ => if atZ (sizesT (.branch p l)) = 0 then .branch p l else mendT 0 [([], .branch p l)] 0
termination_by t => SizeOf.sizeOf t
decreasing_by exact Tr.small (by rw [List.mem_singleton])
def putL (c : Lf) : List Lf → List Lf
  | [] => [c]
  | x :: l => if Op.bytesLess x.k c.k then x :: putL c l else if x.k = c.k then c :: l else c :: x :: l
def putT (c : Lf) : Tr → Tr
  | .leaf _ l => .leaf 0 (putL c l)
  | .branch p l => match h : l[wayT l c.k]? with
    | some x => mendT 0 (l.set (wayT l c.k) (x.1, putT c x.2)) (wayT l c.k)
    | none => .branch p l
termination_by t => SizeOf.sizeOf t
decreasing_by exact Tr.small (List.mem_of_getElem? h)
def entT : Tr → List (List UInt8 × List UInt8)
  | .leaf _ l => l.map (fun x => (x.k, x.d))
  | .branch _ l => l.attach.flatMap (fun x => entT x.1.2)
termination_by t => SizeOf.sizeOf t
decreasing_by exact Tr.small x.2
theorem entT_branch (p : Int) (l : List (List UInt8 × Tr)) : entT (.branch p l) = l.flatMap (fun x => entT x.2) := by
  rw [entT]
  have h := List.flatMap_map (f := Subtype.val) (g := fun (x : List UInt8 × Tr) => entT x.2) (l := l.attach)
  rw [List.attach_map_subtype_val] at h
  exact h.symm
theorem entT_leaf (p : Int) (l : List Lf) : entT (.leaf p l) = l.map (fun x => (x.k, x.d)) := by rw [entT]
/-! What is in a tree that has been mended is what was in it. -/
def entTs (l : List (List UInt8 × Tr)) : List (List UInt8 × List UInt8) := l.flatMap (fun x => entT x.2)
theorem entTs_app (a b : List (List UInt8 × Tr)) : entTs (a ++ b) = entTs a ++ entTs b := by unfold entTs; rw [List.flatMap_append]
theorem entTs_cons (x : List UInt8 × Tr) (l : List (List UInt8 × Tr)) : entTs (x :: l) = entT x.2 ++ entTs l := by unfold entTs; rw [List.flatMap_cons]
theorem entTs_nil : entTs [] = [] := rfl
theorem entT_br (p : Int) (l : List (List UInt8 × Tr)) : entT (.branch p l) = entTs l := entT_branch p l
theorem entTs_keyed (s : List UInt8) (l : List (List UInt8 × Tr)) : entTs (keyed s l) = entTs l := by
  cases l
  · rfl
  · rw [keyed, entTs_cons, entTs_cons]
theorem ent_parts (n : Nat) (t : Tr) : entT (frontT n t) ++ entT (backT n t) = entT t := by
  cases t with
  | leaf p l => rw [frontT, backT, entT_leaf, entT_leaf, entT_leaf, ← List.map_append, List.take_append_drop]
  | branch p l => rw [frontT, backT, entT_br, entT_br, entT_br, entTs_keyed, ← entTs_app, List.take_append_drop]
theorem at_parts {l : List (List UInt8 × Tr)} {k : Nat} (hk : k < l.length) : l = l.take k ++ kidT l k :: l.drop (k + 1) := by
  have h : kidT l k = l[k] := by rw [kidT, List.getD_eq_getElem?_getD, List.getElem?_eq_getElem hk]; rfl
  rw [h, ← List.drop_eq_getElem_cons hk, List.take_append_drop]
theorem ent_split {l : List (List UInt8 × Tr)} {k : Nat} (hk : k < l.length) (n : Nat) : entTs (splitT l k n) = entTs l := by
  rw [splitT, entTs_app, entTs_app, entTs_cons, entTs_cons, entTs_nil, List.append_nil, ent_parts, List.append_assoc]
  conv => rhs; rw [at_parts hk, entTs_app, entTs_cons]
theorem ent_part {l : List (List UInt8 × Tr)} {k : Nat} (hk : k < l.length) : entTs (partT l k) = entTs l := by
  unfold partT
  split
  · rfl
  · exact ent_split hk _
def kindT : Tr → Bool
  | .leaf _ _ => true
  | .branch _ _ => false
theorem ent_join (s : List UInt8) {a b : Tr} (h : kindT a = kindT b) : entT (joinT s a b) = entT a ++ entT b := by
  cases a <;> cases b
  · rw [joinT, entT_leaf, entT_leaf, entT_leaf, List.map_append]
  · cases h
  · cases h
  · rw [joinT, entT_br, entT_br, entT_br, entTs_app, entTs_keyed]
theorem merge_len {l : List (List UInt8 × Tr)} {j : Nat} (hj : j + 1 < l.length) : (mergeT l j).length + 1 = l.length := by
  unfold mergeT
  simp
  omega
theorem ent_merge {l : List (List UInt8 × Tr)} {j : Nat} (hj : j + 1 < l.length) (h : kindT (kidT l j).2 = kindT (kidT l (j + 1)).2) : entTs (mergeT l j) = entTs l := by
  rw [mergeT, entTs_app, entTs_app, entTs_cons, entTs_nil, List.append_nil, ent_join _ h]
  have h1 := at_parts (l := l) (k := j) (by omega)
  have h2 : l.drop (j + 1) = kidT l (j + 1) :: l.drop (j + 2) := by
    have h3 : kidT l (j + 1) = l[j + 1] := by rw [kidT, List.getD_eq_getElem?_getD, List.getElem?_eq_getElem hj]; rfl
    rw [h3]
    exact List.drop_eq_getElem_cons hj
  rw [h2] at h1
  conv => rhs; rw [h1, entTs_app, entTs_cons, entTs_cons]
  simp [List.append_assoc]
def evenT (l : List (List UInt8 × Tr)) : Prop := ∀ i j, i < l.length → j < l.length → kindT (kidT l i).2 = kindT (kidT l j).2
theorem ent_mend (p : Int) {l : List (List UInt8 × Tr)} {k : Nat} (hk : k < l.length) (he : evenT l) : entT (mendT p l k) = entTs l := by
  unfold mendT
  split
  · rw [entT_br, ent_split hk]
  · split
    · rw [entT_br]
    · rename_i h1 h2
      have hf : firstT l k + 1 < l.length := by
        unfold firstT
        split <;> omega
      have hm := merge_len hf
      rw [entT_br, ent_part (by omega), ent_merge hf (he _ _ (by omega) hf)]
theorem ent_top : ∀ t : Tr, entT (topT t) = entT t
  | .leaf p l => by
    rw [topT]
    split
    · rfl
    · rw [ent_mend 0 (by simp) (fun i j hi hj => by simp at hi hj; rw [hi, hj]), entTs_cons, entTs_nil, List.append_nil]
  | .branch p [] => by
    rw [topT]
    · split
      · rfl
      · rw [ent_mend 0 (by simp) (fun i j hi hj => by simp at hi hj; rw [hi, hj]), entTs_cons, entTs_nil, List.append_nil]
    · intro z hz
      simp at hz
  | .branch p [x] => by
    rw [topT, ent_top x.2, entT_br, entTs_cons, entTs_nil, List.append_nil]
  | .branch p (x :: y :: r) => by
    rw [topT]
    · split
      · rfl
      · rw [ent_mend 0 (by simp) (fun i j hi hj => by simp at hi hj; rw [hi, hj]), entTs_cons, entTs_nil, List.append_nil]
    · intro z hz
      simp at hz
termination_by t => SizeOf.sizeOf t
decreasing_by exact Tr.small (List.mem_singleton.2 rfl)
end Go.Proofs.Ytpaklhifnndeoaa
end

section
namespace Go.Proofs.Ytpaklhifnndeoaa
open Go.RowKit
set_option linter.unusedVariables false

def Runs (M : Act → World → Prop) : Exit → Act → World → Prop := Exit.then M (fun _ _ _ => False)
theorem Runs.out (M : Act → World → Prop) : ¬ LetsOut (Runs M) := fun ⟨_, _, h⟩ => h
theorem wp_held {P : Program} {id : Nat} {ops : Array Oper} {K : Act → World → Prop} {Q : Exit → Act → World → Prop} {a : Act} {w : World} (S : World → Prop) (M : Act → World → Prop)
    (hm : P.follows .mixedOrders = true)
    (h : wpAnyH P .any ops (Runs M) S ops.size (Array.replicate ops.size false) a w.drew) (h2 : ∀ a w, M a w → K a w) : (Code.region id ops true).wp P (Exit.then K Q) a w :=
  wp_mono (Q := Runs M) (wp_region_held hm h) (fun e a w h => by cases e <;> first | exact h2 _ _ h | exact False.elim h)
theorem cell_below {w w' : World} {p : Addr} {v : Value} (h : w.cell? p = some v) (hb : Below w.heap.size w w') : w'.cell? p = some v := (hb.cell (World.block_lt_of_cell? w p h)).trans h
end Go.Proofs.Ytpaklhifnndeoaa
end

section
namespace Go.Proofs.Ytpaklhifnndeoaa
open Go.RowKit
set_option linter.unusedVariables false

theorem lit {ops : Array Oper} {i : Nat} {o : Oper} {tl : List Oper} (h : ops.toList.drop i = o :: tl) : ops[i]? = some o := by
  have h2 := congrArg (fun l => l[0]?) h
  simp only [List.getElem?_drop, Nat.add_zero, List.getElem?_cons_zero] at h2
  rw [← h2]
  simp
theorem step_open {P : Program} {ops : Array Oper} {o : Oper} {a : Act} {w : World} {K : Act → World → Prop} {Q : Exit → Act → World → Prop} {E : Prop} (hgd : o.guard = none) (h : Oper.wp P o a w K Q) :
    if Region.wanted o (yielded ops a.tmps) = true then Oper.wp P o a w K Q else E := by
  have hw : Region.wanted o (yielded ops a.tmps) = true := by simp [Region.wanted, hgd]
  rw [if_pos hw]
  exact h
end Go.Proofs.Ytpaklhifnndeoaa
end

section
namespace Go.Proofs.Ytpaklhifnndeoaa
open Go.RowKit
set_option linter.unusedVariables false

structure RowZ (w : World) (A : Option Addr) (n c : Nat) (l : List Int) : Prop where
  len : n = l.length
  reads : Reads w A (l.map (Value.int .i64))
  nil : A = none → c = 0
  room : n ≤ c
  most : c ≤ maxLen
theorem RowZ.below {w w' : World} {A : Option Addr} {n c : Nat} {l : List Int} (h : RowZ w A n c l) (hb : Below w.heap.size w w') : RowZ w' A n c l := ⟨h.len, h.reads.keep_ hb, h.nil, h.room, h.most⟩
theorem RowZ.none_ (w : World) : RowZ w none 0 0 [] := ⟨rfl, Reads.empty, fun _ => rfl, Nat.le_refl _, Nat.zero_le _⟩
theorem int_info13 : (Try.prog.info? 3).map (fun i => (i.zero, i.size, i.bytes)) = some (some (.int .i64 0), 1, 8) := by kernel_rfl
theorem one_z13 (l : List Int) : ∀ u ∈ l.map (Value.int .i64), u.oneCell' = true := by
  intro u hu
  obtain ⟨c, _, rfl⟩ := List.mem_map.1 hu
  rfl
theorem wpList_append_zs {P : Program} {w : World} {ops : Array Oper} {rest : List Oper} {o : Oper} {a : Act} {Q : Exit → Act → World → Prop} (hgd : o.guard = none) (s x : Operand) (t : TypeId)
    (ho : o.op = .call { callee := .builtin .append, args := #[s, x], argTypes := #[t, t] }) (base : Nat) (e : TypeId) (i : TypeInfo) (ht : P.underlying t = some (.slice e)) (hi : P.info? e = some i) (hz : i.zero = some (.int .i64 0))
    (hsize : i.size = 1) (hby : i.bytes = 8) (v : Value) (n : Nat) (xs : List Value) (hs : a.eval s = v) (hown : w.ownsRow base e 1 v n xs) (A : Option Addr) (m c : Nat) (l : List Int) (hx : a.eval x = .slice A m c) (hm : m = l.length)
    (hA : A = none → c = 0) (hr : Reads w A (l.map (Value.int .i64))) (hmax : n + m ≤ 1000000) (hbase : base ≤ w.heap.size)
    (h : ∀ v' w', w'.ownsRow base e 1 v' (n + m) (xs ++ l.map (Value.int .i64)) → w.grownBy w' v.ownBlock → wpList P ops Q rest (a.put o.dst v') w') : wpList P ops Q (o :: rest) a w := by
  subst hm
  rcases A with _ | ad
  · have h0 : l = [] := by
      rcases l with _ | ⟨d, l⟩
      · rfl
      · obtain ⟨g, off, ha, _⟩ := hr (by simp)
        cases ha
    subst h0
    have hc := hA rfl
    subst hc
    exact wpList_append_own_none hgd s x t ho base e i 1 ht hi v n xs hs hown hx (h v w (by simpa using hown) (World.grownBy.refl w _))
  · refine wpList_append_own w hgd s x t ho base e i (.int .i64 0) 1 8 ht hi hz hsize hby rfl (by decide) v n xs hs hown ad l.length c (l.map (Value.int .i64)) hx (by simp) (fun j u hj => ?_) (one_z13 l) (by unfold maxLen; omega) (by omega) hbase (fun v' w' h1 h2 _ => h v' w' h1 h2)
    obtain ⟨g, off, hA', hc⟩ := hr (by
      have := (List.getElem?_eq_some_iff.1 hj).1
      omega)
    injection hA' with hA'
    subst hA'
    rw [add_plain]
    exact hc j u hj
theorem RowZ.own {w : World} {B n : Nat} {v : Value} {l : List Int} (h : w.ownsRow B 3 1 v n (l.map (Value.int .i64))) : ∃ A c, v = .slice A n c ∧ RowZ w A n c l := by
  have hl : n = l.length := by have := h.1; simpa using this.symm
  rcases h.2 with ⟨rfl, hn⟩ | ⟨g, cap, cur, rfl, _, hc, h1, h2, h3, h4⟩
  · subst hn
    obtain rfl : l = [] := List.length_eq_zero_iff.1 hl.symm
    exact ⟨none, 0, rfl, RowZ.none_ _⟩
  · exact ⟨_, cap, rfl, hl, (Row.of_own h).reads, fun e => (by cases e), h1, h2⟩
theorem Reads.dropZ {w : World} {A : Option Addr} {n c : Nat} {l : List Int} (h : Reads w A (l.map (Value.int .i64))) (hn : n = l.length) (hc : n ≤ c) {k : Nat} (hk : k ≤ n) : Reads w (if c = k then A else A.map (·.add k)) ((l.drop k).map (Value.int .i64)) := fun hx => by
  have hl : k < l.length := by
    rw [List.length_map, List.length_drop] at hx
    omega
  rw [if_neg (by omega)]
  obtain ⟨g, off, hA, hr⟩ := h (by rw [List.length_map]; omega)
  subst hA
  refine ⟨g, off + k, by simp [add_plain], fun j u hj => ?_⟩
  have := hr (k + j) u (by rw [← hj, List.map_drop, List.getElem?_drop])
  rw [← Nat.add_assoc] at this
  exact this
theorem Reads.zint14 {w : World} {A : Option Addr} {l : List Int} (h : Reads w A (l.map (Value.int .i64))) {i : Nat} (hi : i < l.length) :
    ∃ g off, A = some ⟨g, off, none⟩ ∧ w.cell? ⟨g, off + i, none⟩ = some (.int .i64 l[i]) := by
  obtain ⟨g, off, hA, hc⟩ := h (by simpa using Nat.lt_of_le_of_lt (Nat.zero_le _) hi)
  exact ⟨g, off, hA, hc _ _ (by simp [hi])⟩
theorem below_own14 {B : Nat} {w0 w w' : World} {e : TypeId} {s n : Nat} {v : Value} {xs : List Value} (h : Below B w0 w) (hg : w.grownBy w' v.ownBlock) (ho : w.ownsRow B e s v n xs) (hB : B ≤ w.heap.size) : Below B w0 w' :=
  h.grown hg hB (fun k hk => (ho.lt k hk).1)
end Go.Proofs.Ytpaklhifnndeoaa
end
