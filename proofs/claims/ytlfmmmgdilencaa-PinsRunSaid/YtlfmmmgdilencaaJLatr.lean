import Derived.Test.YtlfmmmgdilencaaJ00
import Derived.Laws.OwnMore
/- Of a claim's texts, joined: Latr. No statement but in the last. -/
namespace Go.Proofs.Ytlfmmmgdilencaa
open Go.RowKit
set_option linter.unusedVariables false

def u64V (x : Nat) : Value := .int .u64 (x : Int)
structure ArgU (w : World) (A : Option Addr) (n c : Nat) (l : List Nat) : Prop where
  len : n = l.length
  reads : Reads w A (l.map u64V)
  old : 0 < n → ∀ a, A = some a → a.block < w.heap.size
  room : n ≤ c
  most : c ≤ maxLen
  big : ∀ x ∈ l, x < 2 ^ 64
theorem ArgU.below {w w' : World} {A : Option Addr} {n c : Nat} {l : List Nat} (h : ArgU w A n c l) (hb : Below w.heap.size w w') : ArgU w' A n c l :=
  ⟨h.len, h.reads.below hb (fun hx => h.old (by rw [h.len]; simpa using hx)), fun hn a ha => Nat.lt_of_lt_of_le (h.old hn a ha) hb.size, h.room, h.most, h.big⟩
theorem one_u64V (l : List Nat) : ∀ u ∈ l.map u64V, u.oneCell' = true := by
  intro u hu
  obtain ⟨c, _, rfl⟩ := List.mem_map.1 hu
  rfl
theorem ret_bool {a b : Bool} (h : a = b) : Ending.returned (.bool a) = .returned (.bool b) := by rw [h]
theorem Reads.at_ {w : World} {A : Option Addr} {l : List Nat} (h : Reads w A (l.map u64V)) {i : Nat} (hi : i < l.length) :
    ∃ g off, A = some ⟨g, off, none⟩ ∧ w.cell? ⟨g, off + i, none⟩ = some (.int .u64 (l[i] : Int)) := by
  obtain ⟨g, off, hA, hc⟩ := h (by simp; omega)
  exact ⟨g, off, hA, hc i (u64V l[i]) (by simp [List.getElem?_eq_getElem hi])⟩

/-! Owned rows. -/
theorem below_own {B : Nat} {w0 w w' : World} {e : TypeId} {s n : Nat} {v : Value} {xs : List Value} (h : Below B w0 w) (hg : w.grownBy w' v.ownBlock) (ho : w.ownsRow B e s v n xs) (hB : B ≤ w.heap.size) : Below B w0 w' :=
  h.grown hg hB (fun k hk => (ho.lt k hk).1)
theorem u64info : (Try.prog.info? 27).map (fun i => (i.zero, i.size, i.bytes)) = some (some (.int .u64 0), 1, 8) := by kernel_rfl
theorem own_sliceU {w : World} {B : Nat} {v : Value} {n : Nat} {xs : List Value} (h : w.ownsRow B 27 1 v n xs) : ∃ A c, v = .slice A n c ∧ n ≤ c ∧ c ≤ maxLen := by
  rcases h.2 with ⟨rfl, rfl⟩ | ⟨g, cap, cur, rfl, _, _, h1, h2, _⟩
  · exact ⟨none, 0, rfl, Nat.le_refl _, Nat.zero_le _⟩
  · exact ⟨_, cap, rfl, h1, h2⟩
theorem argU_own {w : World} {B n : Nat} {v : Value} {l : List Nat} (h : w.ownsRow B 27 1 v n (l.map u64V)) (hn : n = l.length) (hb : ∀ x ∈ l, x < 2 ^ 64) : ∃ A c, v = .slice A n c ∧ ArgU w A n c l ∧ Row w 27 B A (l.map u64V) := by
  obtain ⟨A, c, rfl, h1, h2⟩ := own_sliceU h
  have hr : Row w 27 B A (l.map u64V) := Row.of_own h
  exact ⟨A, c, rfl, ⟨hn, hr.reads, fun h0 a ha => by
    obtain ⟨g, off, cs, hA, _, hg, _⟩ := hr (by simp; omega)
    rw [ha] at hA
    injection hA with hA
    subst hA
    exact hg.lt, h1, h2, hb⟩, hr⟩

/-! Turned rows, and bounds. -/
def turnedN (up : List Nat) : List Nat := (List.range up.length).map fun i : Nat => downN up i
def TurnEnd (up : List Nat) (n : Nat) (w : World) (e : Ending) (w' : World) : Prop := ∃ A c, e = .returned (.slice A n c) ∧ ArgU w' A n c (turnedN up) ∧ Below w.heap.size w w'

end Go.Proofs.Ytlfmmmgdilencaa
