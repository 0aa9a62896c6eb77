import Derived.Test.YtglkmpglpddfdaaGreatDoorJLatq
import Derived.StillTailTactics
/- Of a claim's texts, joined: Latc. No statement but in the last. -/
namespace Go.Proofs.YtglkmpglpddfdaaGreatDoor
open Go.RowKit
set_option linter.unusedVariables false

/-! Rows under way. -/
theorem ubit_set (o : List Nat) (a c : Nat) (h : a < o.length) (hc : ubit o a c = false) (i j : Nat) : ubit (o.set a (o[a] + 2 ^ c)) i j = (ubit o i j || (decide (i = a) && decide (j = c))) := by
  unfold ubit
  by_cases hi : i < o.length
  · rw [getD_at _ _ (by simpa using hi), getD_at _ _ hi]
    by_cases e : i = a
    · subst e
      rw [List.getElem_set_self]
      unfold ubit at hc
      rw [getD_at _ _ h] at hc
      rw [add_bit _ _ _ hc]
      simp
    · rw [List.getElem_set_ne (by omega)]
      simp [e]
  · have e : i ≠ a := by omega
    have e1 : (o.set a (o[a] + 2 ^ c)).getD i 0 = 0 := by simp only [List.getD, List.getElem?_eq_none (show (o.set a (o[a] + 2 ^ c)).length ≤ i by simp; omega), Option.getD_none]
    have e2 : o.getD i 0 = 0 := by simp only [List.getD, List.getElem?_eq_none (by omega : o.length ≤ i), Option.getD_none]
    rw [e1, e2]
    simp [e]
structure Way (up : List Nat) (o : List Nat) : Prop where
  len : o.length = up.length
  low : ∀ a b, ubit o a b = true → b < up.length
  base : ∀ a, a < up.length → ∀ b, b < up.length → (decide (a = b) || ubit up a b) = true → ubit o a b = true
  reach : ∀ a b, ubit o a b = true → Reach up a b
theorem Way.lt {up o : List Nat} (h : Way up o) : ∀ x ∈ o, x < 2 ^ up.length := by
  intro x hx
  obtain ⟨i, hi, rfl⟩ := List.getElem_of_mem hx
  apply Nat.lt_pow_two_of_testBit
  intro j hj
  cases e : o[i].testBit j
  · rfl
  · have := h.low i j (by unfold ubit; rw [getD_at _ _ hi]; exact e)
    omega
theorem Way.big {up o : List Nat} (h : Way up o) (h64 : up.length ≤ 64) : ∀ x ∈ o, x < 2 ^ 64 := fun x hx => Nat.lt_of_lt_of_le (h.lt x hx) (Nat.pow_le_pow_right (by omega) h64)
theorem Way.add {up o : List Nat} (h : Way up o) {a b c : Nat} (ha : a < o.length) (hc : c < up.length) (h1 : ubit o a b = true) (h2 : ubit o b c = true) (h3 : ubit o a c = false) : Way up (o.set a (o[a] + 2 ^ c)) := by
  refine ⟨by simp [h.len], fun i j hu => ?_, fun i hi j hj hb => ?_, fun i j hu => ?_⟩
  · rw [ubit_set o a c ha h3] at hu
    cases e : ubit o i j
    · rw [e] at hu
      simp at hu
      omega
    · exact h.low i j e
  · rw [ubit_set o a c ha h3, h.base i hi j hj hb]
    rfl
  · rw [ubit_set o a c ha h3] at hu
    cases e : ubit o i j
    · rw [e] at hu
      simp at hu
      obtain ⟨rfl, rfl⟩ := hu
      exact (h.reach _ _ h1).trans_ (h.reach _ _ h2)
    · exact h.reach i j e
theorem Way.close {up o : List Nat} (h : Way up o) (h64 : up.length ≤ 64) (hc : ∀ a, a < up.length → ∀ b, b < up.length → ∀ c, c < up.length → ubit o a b = true → ubit o b c = true → ubit o a c = true) : o = closeN up :=
  closeN_is up o h64 h.len fun a ha b => ⟨fun hu => ⟨h.low a b hu, h.reach a b hu⟩, fun ⟨hb, hr⟩ =>
    reach_of_closed up o (fun a ha => h.base a ha a ha (by simp)) (fun a ha b hb hu => h.base a ha b hb (by simp [hu])) hc a b ha hr⟩

def baseN (up : List Nat) (p q : Nat) : List Nat := (List.range up.length).map fun i => mask (fun b => decide (i = b) || ubit up i b) (if i < p then up.length else if i = p then q else 0)
theorem baseN_len (up : List Nat) (p q : Nat) : (baseN up p q).length = up.length := by simp [baseN]
theorem baseN_at (up : List Nat) (p q i : Nat) (h : i < (baseN up p q).length) : (baseN up p q)[i] = mask (fun b => decide (i = b) || ubit up i b) (if i < p then up.length else if i = p then q else 0) := by simp [baseN]
theorem baseN_start (up : List Nat) : baseN up 0 0 = List.replicate up.length 0 := by
  apply List.ext_getElem (by simp [baseN])
  intro i h1 h2
  rw [baseN_at]
  simp
  rfl
theorem baseN_way (up : List Nat) : Way up (baseN up up.length 0) := by
  have hb : ∀ a b, ubit (baseN up up.length 0) a b = true ↔ a < up.length ∧ b < up.length ∧ (decide (a = b) || ubit up a b) = true := by
    intro a b
    unfold ubit
    by_cases ha : a < up.length
    · rw [getD_at _ _ (by rw [baseN_len]; exact ha), baseN_at, if_pos ha, mask_bit]
      simp [ha, ubit]
    · rw [show (baseN up up.length 0).getD a 0 = 0 by simp [List.getD, List.getElem?_eq_none (show (baseN up up.length 0).length ≤ a by rw [baseN_len]; omega)]]
      simp [ha]
  refine ⟨baseN_len _ _ _, fun a b h => ((hb a b).1 h).2.1, fun a ha b hbn h => (hb a b).2 ⟨ha, hbn, h⟩, fun a b h => ?_⟩
  obtain ⟨h1, h2, h3⟩ := (hb a b).1 h
  by_cases e : a = b
  · subst e; exact .refl a
  · exact .step h1 h2 (.refl a) (by simpa [e] using h3)

theorem make_u64s (n : Nat) (hn : n ≤ 1000000) (w : World) : (Instr.makeSlice 24 (.int .i64 n) (.int .i64 n)).run Tryz.prog w = .ok (.slice (some ⟨w.heap.size, 0, none⟩) n n) (w.alloc (.cells (madeCells #[.int .u64 0] n) 37)) := by
  obtain ⟨i0, hi, hz0, hz1, hz2⟩ := info_parts u64info
  have := run_make (P := Tryz.prog) (w := w) 24 37 i0 (.int .u64 0) Tryz.underlying24 hi hz0 .i64 .i64 n n (by omega) (by omega) (by rw [hz2]; omega) (by omega)
  simp only [Int.toNat_natCast, hz1, Nat.mul_one] at this
  exact this
theorem made_u64 (n : Nat) : madeCells #[.int .u64 0] n = ((List.replicate n 0).map u64V).toArray := by
  apply Array.ext'
  rw [toList_madeCells_one]
  simp [u64V]
theorem way_cell {w : World} {g : Nat} {o : List Nat} (h : Has w g 37 (o.map u64V).toArray) {i : Nat} (hi : i < o.length) : w.cell? ⟨g, i, none⟩ = some (.int .u64 (o[i] : Int)) := by
  rw [h.cell]
  simp [List.getElem?_eq_getElem hi, u64V]
theorem way_store {w : World} {g : Nat} {o : List Nat} (h : Has w g 37 (o.map u64V).toArray) (i v : Nat) : Has (w.setCell ⟨g, i, none⟩ (.int .u64 (v : Int))) g 37 ((o.set i v).map u64V).toArray := by
  have := h.store i (.int .u64 (v : Int))
  have e : ((o.set i v).map u64V).toArray = (o.map u64V).toArray.setIfInBounds i (.int .u64 (v : Int)) := by
    rw [List.map_set]
    simp [u64V]
  rw [e]
  exact this
def cellN (v : Value) : Nat := match v with
  | .int _ x => x.toNat
  | _ => 0
def sumW (w : World) (g : Nat) : Nat := match w.heap[g]? with
  | some (.cells cs _ _) => (cs.toList.map cellN).sum
  | _ => 0
def boolN (v : Value) : Nat := match v with
  | .bool true => 1
  | _ => 0
def Round (o0 : List Nat) (m : Bool) (o : List Nat) (C : Prop) : Prop := (m = true ∧ o0.sum < o.sum) ∨ (m = false ∧ o = o0 ∧ C)
theorem Round.imp {o0 o : List Nat} {m : Bool} {C D : Prop} (h : Round o0 m o C) (hc : o = o0 → C → D) : Round o0 m o D := by
  rcases h with h | ⟨h1, h2, h3⟩
  · exact .inl h
  · exact .inr ⟨h1, h2, hc h2 h3⟩
def Cl (o : List Nat) (a b c : Nat) : Prop := ubit o a b = true → ubit o b c = true → ubit o a c = true
def RowsW (up : List Nat) (w wr : World) (o : List Nat) : Prop := Way up o ∧ Has wr w.heap.size 37 (o.map u64V).toArray ∧ Below w.heap.size w wr

theorem has_argU {w : World} {g n : Nat} {l : List Nat} (h : Has w g 37 (l.map u64V).toArray) (hn : n = l.length) (hm : n ≤ maxLen) (hb : ∀ x ∈ l, x < 2 ^ 64) : ArgU w (some ⟨g, 0, none⟩) n n l :=
  ⟨hn, fun _ => ⟨g, 0, rfl, fun i v hv => by rw [Nat.zero_add, h.cell]; simpa using hv⟩, fun _ a ha => by injection ha with ha; subst ha; exact h.lt, Nat.le_refl _, hm, hb⟩
theorem argU_nil (w : World) : ArgU w none 0 0 [] := ⟨rfl, Reads.empty, fun h => absurd h (by omega), Nat.le_refl _, Nat.zero_le _, fun x hx => by cases hx⟩

end Go.Proofs.YtglkmpglpddfdaaGreatDoor
