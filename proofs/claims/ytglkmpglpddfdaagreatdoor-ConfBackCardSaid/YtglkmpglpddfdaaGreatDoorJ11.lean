import Derived.Test.YtglkmpglpddfdaaGreatDoorJLatq
import Derived.BigRegion
import Derived.Deep.RegionWith
import Derived.Deep.RegionHeld
import Derived.ChangeAlike
import Derived.OrdersHeld
import Derived.RangeFuncNested
import Derived.RangeFuncCalls
import Derived.OwnWalkIn
import Derived.OrdersIn
import Derived.Below
/- Of a claim's texts, joined: Grm Grr Rdr. No statement but in the last. -/
section
namespace Go.Proofs.YtglkmpglpddfdaaGreatDoor
open Go.RowKit
set_option linter.unusedVariables false

structure G where
  a : Int
  f : Int
  t : Int
deriving DecidableEq
def gV (g : G) : Value := .agg #[.int .i64 g.a, .int .i64 g.f, .int .i64 g.t]
def gC (g : G) : List Value := [.int .i64 g.a, .int .i64 g.f, .int .i64 g.t]
def cellsG (l : List G) : List Value := l.flatMap gC
theorem cellsG_len (l : List G) : (cellsG l).length = 3 * l.length := by
  induction l with
  | nil => rfl
  | cons g l ih => simp [cellsG, gC] at ih ⊢; omega
theorem cellsG_at (l : List G) (i : Nat) (h : i < l.length) : (cellsG l)[3 * i]? = some (.int .i64 l[i].a) ∧ (cellsG l)[3 * i + 1]? = some (.int .i64 l[i].f) ∧ (cellsG l)[3 * i + 2]? = some (.int .i64 l[i].t) := by
  induction l generalizing i with
  | nil => simp at h
  | cons g l ih =>
    cases i with
    | zero => simp [cellsG, gC]
    | succ i =>
      have hi : i < l.length := by simpa using h
      obtain ⟨h1, h2, h3⟩ := ih i hi
      have e : cellsG (g :: l) = gC g ++ cellsG l := by simp [cellsG]
      rw [e]
      have hl : (gC g).length = 3 := rfl
      rw [List.getElem?_append_right (by rw [hl]; omega), List.getElem?_append_right (by rw [hl]; omega), List.getElem?_append_right (by rw [hl]; omega), hl]
      simp only [List.getElem_cons_succ]
      rw [show 3 * (i + 1) - 3 = 3 * i by omega, show 3 * (i + 1) + 1 - 3 = 3 * i + 1 by omega, show 3 * (i + 1) + 2 - 3 = 3 * i + 2 by omega]
      exact ⟨h1, h2, h3⟩
structure ArgG (w : World) (A : Option Addr) (n c : Nat) (l : List G) : Prop where
  len : n = l.length
  reads : Reads w A (cellsG l)
  old : 0 < n → ∀ a, A = some a → a.block < w.heap.size
  room : n ≤ c
  most : c ≤ maxLen
theorem ArgG.below {w w' : World} {A : Option Addr} {n c : Nat} {l : List G} (h : ArgG w A n c l) (hb : Below w.heap.size w w') : ArgG w' A n c l :=
  ⟨h.len, h.reads.below hb (fun hx => h.old (by rw [cellsG_len] at hx; rw [h.len]; omega)), fun hn a ha => Nat.lt_of_lt_of_le (h.old hn a ha) hb.size, h.room, h.most⟩
theorem Reads.gat {w : World} {A : Option Addr} {l : List G} (h : Reads w A (cellsG l)) {i : Nat} (hi : i < l.length) :
    ∃ g off, A = some ⟨g, off, none⟩ ∧ w.cell? ⟨g, off + i * 3, none⟩ = some (.int .i64 l[i].a) ∧ w.cell? ⟨g, off + i * 3 + 1, none⟩ = some (.int .i64 l[i].f) ∧ w.cell? ⟨g, off + i * 3 + 2, none⟩ = some (.int .i64 l[i].t) := by
  obtain ⟨g, off, hA, hc⟩ := h (by rw [cellsG_len]; omega)
  obtain ⟨h1, h2, h3⟩ := cellsG_at l i hi
  rw [Nat.mul_comm 3 i] at h1 h2 h3
  refine ⟨g, off, hA, hc _ _ h1, ?_, ?_⟩
  · rw [Nat.add_assoc]; exact hc _ _ h2
  · rw [Nat.add_assoc]; exact hc _ _ h3

def lessG (g h : G) : Bool := if g.a ≠ h.a then decide (g.a < h.a) else if g.f ≠ h.f then decide (g.f < h.f) else decide (g.t < h.t)
def fitsG (up : List Nat) (g : G) : Bool := leqZ up g.f g.a && leqZ up g.t g.a && !leqZ up g.f g.t
def g0 : G := ⟨0, 0, 0⟩
def okG (up : List Nat) (l : List G) (i : Nat) : Bool := fitsG up (l.getD i g0) && (decide (i = 0) || lessG (l.getD (i - 1) g0) (l.getD i g0))
def checkG (up : List Nat) (l : List G) : Bool := decide (l.length ≤ 64) && (List.range l.length).all (okG up l)
def mayG (l : List G) (g : G) : Bool := decide (g ∈ l)
theorem getG_at (l : List G) (i : Nat) (h : i < l.length) : l.getD i g0 = l[i] := by simp [List.getD, List.getElem?_eq_getElem h]

inductive Src (up : List Nat) (l : List G) (x : Nat) : Nat → Prop
  | base {i : Nat} : i < up.length → x.testBit i = true → Src up l x i
  | down {a b : Nat} : Src up l x b → lq up a b = true → Src up l x a
  | act {g : G} : g ∈ l → fitsG up g = true → Src up l x g.t.toNat → Src up l x g.a.toNat
  | frm {g : G} : g ∈ l → fitsG up g = true → Src up l x g.t.toNat → Src up l x g.f.toNat
theorem fitsG_in {up : List Nat} {g : G} (h : fitsG up g = true) : (0 ≤ g.a ∧ g.a.toNat < up.length) ∧ (0 ≤ g.f ∧ g.f.toNat < up.length) ∧ (0 ≤ g.t ∧ g.t.toNat < up.length) := by
  unfold fitsG at h
  simp only [Bool.and_eq_true] at h
  obtain ⟨⟨h1, h2⟩, _⟩ := h
  obtain ⟨a1, a2, a3⟩ := leqZ_iff.1 h1
  obtain ⟨b1, b2, b3⟩ := leqZ_iff.1 h2
  obtain ⟨_, c1, c2, _⟩ := lq_iff.1 a3
  obtain ⟨_, d1, d2, _⟩ := lq_iff.1 b3
  exact ⟨⟨a2, c2⟩, ⟨a1, c1⟩, ⟨b1, d1⟩⟩
theorem Src.lt {up : List Nat} {l : List G} {x i : Nat} (h : Src up l x i) : i < up.length := by
  cases h with
  | base h _ => exact h
  | down _ h => exact (lq_iff.1 h).2.1
  | act _ h _ => exact (fitsG_in h).1.2
  | frm _ h _ => exact (fitsG_in h).2.1.2
open Classical in
noncomputable def srcN (up : List Nat) (l : List G) (x : Nat) : Nat := mask (fun i => decide (Src up l x i)) up.length
theorem two_boxes {W W' : World} {p q : Nat} {g h : G} (h1 : Has W p 45 #[.int .i64 g.a, .int .i64 g.f, .int .i64 g.t]) (h2 : Has W q 45 #[.int .i64 h.a, .int .i64 h.f, .int .i64 h.t]) (hb : Below W.heap.size W W') :
    (W'.cell? ⟨p, 0, none⟩ = some (.int .i64 g.a) ∧ W'.cell? ⟨p, 1, none⟩ = some (.int .i64 g.f) ∧ W'.cell? ⟨p, 2, none⟩ = some (.int .i64 g.t)) ∧
      W'.cell? ⟨q, 0, none⟩ = some (.int .i64 h.a) ∧ W'.cell? ⟨q, 1, none⟩ = some (.int .i64 h.f) ∧ W'.cell? ⟨q, 2, none⟩ = some (.int .i64 h.t) := by
  have k1 := h1.below hb h1.lt
  have k2 := h2.below hb h2.lt
  rw [k1.cell, k1.cell, k1.cell, k2.cell, k2.cell, k2.cell]
  simp

end Go.Proofs.YtglkmpglpddfdaaGreatDoor
end

section
namespace Go.Proofs.YtglkmpglpddfdaaGreatDoor
open Go.RowKit
set_option linter.unusedVariables false

theorem int_bne_t {a b : Int} (h : a ≠ b) : (a != b) = true := by simp [h]
theorem int_bne_f {a b : Int} (h : a = b) : (a != b) = false := by simp [h]
set_option maxHeartbeats 1000000 in
theorem r4Less_any (g h : G) (w : World) :
    Calls Tryz.prog 73 #[gV g, gV h] w fun e w' => e = .returned (.bool (lessG g h)) ∧ Below w.heap.size w w' := by
  have HB : Hid (Below w.heap.size w ((w.alloc (.cells #[.int .i64 g.a, .int .i64 g.f, .int .i64 g.t] 45)).alloc (.cells #[.int .i64 h.a, .int .i64 h.f, .int .i64 h.t] 45))) := Lib.hid (((Below.refl _ w).alloc (Nat.le_refl _) _).alloc (by simp) _)
  unfold gV
  obtain ⟨a, f, t⟩ := g
  obtain ⟨a', f', t'⟩ := h
  simp only at HB ⊢
  by_cases h1 : a = a'
  · have q1 := int_bne_f h1
    by_cases h2 : f = f'
    · have q2 := int_bne_f h2
      have HE : Hid (lessG ⟨a, f, t⟩ ⟨a', f', t'⟩ = decide (t < t')) := Lib.hid (by simp [lessG, h1, h2])
      clear h1 h2
      go_enter Tryz.func73, Tryz.ntmps73
      go_wp2
      go_ret
      exact ⟨ret_bool HE.out.symm, HB.out⟩
    · have q2 := int_bne_t h2
      have HE : Hid (lessG ⟨a, f, t⟩ ⟨a', f', t'⟩ = decide (f < f')) := Lib.hid (by simp [lessG, h1, h2])
      clear h1 h2
      go_enter Tryz.func73, Tryz.ntmps73
      go_wp2
      go_ret
      exact ⟨ret_bool HE.out.symm, HB.out⟩
  · have q1 := int_bne_t h1
    have HE : Hid (lessG ⟨a, f, t⟩ ⟨a', f', t'⟩ = decide (a < a')) := Lib.hid (by simp [lessG, h1])
    clear h1
    go_enter Tryz.func73, Tryz.ntmps73
    go_wp2
    go_ret
    exact ⟨ret_bool HE.out.symm, HB.out⟩

set_option maxHeartbeats 1000000 in
theorem r4Fits_any (up : List Nat) (A : Option Addr) (n c : Nat) (g : G) (w : World) (hu : ArgU w A n c up) (hn : n ≤ 1000000) :
    Calls Tryz.prog 72 #[.slice A n c, gV g] w fun e w' => e = .returned (.bool (fitsG up g)) ∧ Below w.heap.size w w' := by
  have HL := Lib.hid (fun w1 (h1 : Below w.heap.size w w1) (a b : Int) (v : Bool) (hv : leqZ up a b = v) => show Calls Tryz.prog 110 #[.slice A n c, .int .i64 a, .int .i64 b] w1 (fun e w' => e = .returned (.bool v) ∧ w1 = w') by
    have := r3Leq_any up A n c a b w1 (hu.below h1) hn
    rwa [hv] at this)
  have HB : Hid (Below w.heap.size w (w.alloc (.cells #[.int .i64 g.a, .int .i64 g.f, .int .i64 g.t] 45))) := Lib.hid ((Below.refl _ w).alloc (Nat.le_refl _) _)
  clear hu
  unfold gV
  obtain ⟨a, f, t⟩ := g
  simp only at HB ⊢
  obtain ⟨v1, hv1⟩ : ∃ v, leqZ up f a = v := ⟨_, rfl⟩
  obtain ⟨v2, hv2⟩ : ∃ v, leqZ up t a = v := ⟨_, rfl⟩
  obtain ⟨v3, hv3⟩ : ∃ v, leqZ up f t = v := ⟨_, rfl⟩
  have HE : Hid (fitsG up ⟨a, f, t⟩ = (v1 && v2 && !v3)) := Lib.hid (by simp [fitsG, hv1, hv2, hv3])
  have Q1 := Lib.hid (fun w1 h1 => HL.out w1 h1 f a v1 hv1)
  have Q2 := Lib.hid (fun w1 h1 => HL.out w1 h1 t a v2 hv2)
  have Q3 := Lib.hid (fun w1 h1 => HL.out w1 h1 f t v3 hv3)
  clear hv1 hv2 hv3
  cases v1 <;> cases v2 <;> cases v3
  all_goals
    go_enter Tryz.func72, Tryz.ntmps72
    go_wp2_with (first | (go_at_call 110; (with_reducible refine (Q1.out _ HB.out).mono ?_); rintro e w' ⟨rfl, rfl⟩) | (go_at_call 110; (with_reducible refine (Q2.out _ HB.out).mono ?_); rintro e w' ⟨rfl, rfl⟩) | (go_at_call 110; (with_reducible refine (Q3.out _ HB.out).mono ?_); rintro e w' ⟨rfl, rfl⟩))
    go_ret
    exact ⟨ret_bool HE.out.symm, HB.out⟩

theorem G_ext (x y : G) : x = y ↔ x.a = y.a ∧ x.f = y.f ∧ x.t = y.t := by cases x; cases y; simp
set_option maxRecDepth 100000 in
set_option maxHeartbeats 1000000 in
theorem r4Same_any (A B : Option Addr) (n c n' c' : Nat) (l m : List G) (w : World) (hl : ArgG w A n c l) (hm : ArgG w B n' c' m) (hn : n ≤ 1000000) :
    Calls Tryz.prog 27 #[.slice A n c, .slice B n' c'] w fun e w' => e = .returned (.bool (decide (l = m))) ∧ Below w.heap.size w w' := by
  have HA := Lib.hid hl
  have HB := Lib.hid hm
  have HN := Lib.hid hl.len
  have HM := Lib.hid hm.len
  clear hl hm
  by_cases hnn : n = n'
  · subst hnn
    go_enter Tryz.func27, Tryz.ntmps27
    go_wp2
    go_loopw [5] (fun i wr => ∃ k : Nat, k ≤ n ∧ i = .int .i64 k ∧ l.take k = m.take k ∧ Below w.heap.size w wr) (fun i _ => n - (intOf i).toNat)
    case atStart => exact ⟨0, Nat.zero_le _, rfl, rfl, Below.refl _ _⟩
    case round =>
      obtain ⟨k, hk, rfl, hj, hB⟩ := hrel
      have HJ := Lib.hid hj
      have BW := Lib.hid hB
      clear hj hB
      by_cases hlt : k < n
      · have hkl : k < l.length := by have := HN.out; omega
        have hkm : k < m.length := by have := HM.out; omega
        obtain ⟨g1, o1, rfl, c1, c2, c3⟩ := (HA.out.below BW.out).reads.gat hkl
        obtain ⟨g2, o2, rfl, d1, d2, d3⟩ := (HB.out.below BW.out).reads.gat hkm
        have HT : Hid (l.take (k + 1) = l.take k ++ [l[k]] ∧ m.take (k + 1) = m.take k ++ [m[k]]) := Lib.hid ⟨List.take_succ_eq_append_getElem hkl, List.take_succ_eq_append_getElem hkm⟩
        have HNE : Hid (l[k] ≠ m[k] → l ≠ m) := Lib.hid (fun h e => h (by subst e; rfl))
        generalize l[k] = x at c1 c2 c3 HT HNE
        generalize m[k] = y at d1 d2 d3 HT HNE
        have HE := Lib.hid (G_ext x y)
        clear hkl hkm
        have i0 : (0 : Int) ≤ (k : Int) := by omega
        have i1 : (k : Int) < (n : Int) := by omega
        have hcase : (x.a = y.a ∧ x.f = y.f ∧ x.t = y.t) ∨ ¬ x.a = y.a ∨ (x.a = y.a ∧ ¬ x.f = y.f) ∨ (x.a = y.a ∧ x.f = y.f ∧ ¬ x.t = y.t) := by
          by_cases h1 : x.a = y.a <;> by_cases h2 : x.f = y.f <;> by_cases h3 : x.t = y.t <;> simp [h1, h2, h3]
        rcases hcase with ⟨e1, e2, e3⟩ | e1 | ⟨e1, e2⟩ | ⟨e1, e2, e3⟩
        · have HX := Lib.hid (HE.out.2 ⟨e1, e2, e3⟩)
          go_wp2
          go_region
          all_goals
            go_wp2
            go_roundw
            case rel => exact ⟨k + 1, by omega, by go_num, by rw [HT.out.1, HT.out.2, HJ.out, HX.out], BW.out.drew⟩
            case measure => simp [intOf]; omega
        all_goals
          have HX := Lib.hid (HNE.out (fun e => by
            have := HE.out.1 e
            simp_all))
          go_wp2
          go_region
          all_goals
            go_wp2
            go_ret
            exact ⟨ret_bool (by simp [HX.out]), BW.out.drew⟩
      · obtain rfl : k = n := by omega
        have HE : Hid (l = m) := Lib.hid (by
          have h1 := HJ.out
          rw [List.take_of_length_le (by have := HN.out; omega), List.take_of_length_le (by have := HM.out; omega)] at h1
          exact h1)
        obtain ⟨w3, hw3⟩ : ∃ w3 : World, w3 = wr := ⟨_, rfl⟩
        subst hw3
        go_wp2
        go_ret
        exact ⟨ret_bool (by simp [HE.out]), BW.out⟩
  · have q : ((n : Int) != (n' : Int)) = true := by simp; omega
    have HE : Hid (l ≠ m) := Lib.hid (fun e => hnn (by rw [HN.out, HM.out, e]))
    clear hnn
    go_enter Tryz.func27, Tryz.ntmps27
    go_wp2
    go_ret
    exact ⟨ret_bool (by simp [HE.out]), Below.refl _ _⟩

theorem checkG_no {up : List Nat} {l : List G} {i : Nat} (hi : i < l.length) (h : okG up l i = false) : checkG up l = false := by
  unfold checkG
  rw [Bool.and_eq_false_iff]
  right
  rw [Bool.eq_false_iff]
  intro hall
  rw [List.all_eq_true] at hall
  rw [hall i (by simpa using hi)] at h
  cases h
set_option maxRecDepth 100000 in
set_option maxHeartbeats 1000000 in
theorem r4Check_any (up : List Nat) (A B : Option Addr) (n c m d : Nat) (l : List G) (w : World) (hu : ArgU w A n c up) (hl : ArgG w B m d l) (hn : n ≤ 1000000) (hm : m ≤ 9223372036854775807) :
    Calls Tryz.prog 38 #[.slice A n c, .slice B m d] w fun e w' => e = .returned (.bool (checkG up l)) ∧ Below w.heap.size w w' := by
  have HU := Lib.hid hu
  have HA := Lib.hid hl
  have HN := Lib.hid hl.len
  clear hu hl
  by_cases h64 : 64 < m
  · have e1 : decide (64 < (m : Int)) = true := by simp; omega
    have HE : Hid (checkG up l = false) := Lib.hid (by
      unfold checkG
      have : decide (l.length ≤ 64) = false := by have := HN.out; simp; omega
      rw [this]
      rfl)
    go_enter Tryz.func38, Tryz.ntmps38
    go_wp2
    go_ret
    exact ⟨ret_bool HE.out.symm, Below.refl _ _⟩
  · have e1 : decide (64 < (m : Int)) = false := by simp; omega
    go_enter Tryz.func38, Tryz.ntmps38
    go_wp2
    go_loopw [5] (fun i wr => ∃ k : Nat, k ≤ m ∧ i = .int .i64 k ∧ (∀ j, j < k → okG up l j = true) ∧ Below w.heap.size w wr) (fun i _ => m - (intOf i).toNat)
    case atStart => exact ⟨0, Nat.zero_le _, rfl, fun j h => absurd h (by omega), Below.refl _ _⟩
    case round =>
      obtain ⟨k, hk, rfl, hj, hB⟩ := hrel
      have HJ := Lib.hid hj
      have BW := Lib.hid hB
      clear hj hB
      by_cases hlt : k < m
      · have hkl : k < l.length := by have := HN.out; omega
        have HC := Lib.hid (fun w1 (h1 : Below w.heap.size w w1) => (HA.out.below h1).reads.gat hkl)
        obtain ⟨b, off, rfl, c1, c2, c3⟩ := HC.out wr BW.out
        have HFit := Lib.hid (fun w1 (h1 : Below w.heap.size w w1) (v : Bool) (hv : fitsG up l[k] = v) => show Calls Tryz.prog 72 #[.slice A n c, .agg #[.int .i64 l[k].a, .int .i64 l[k].f, .int .i64 l[k].t]] w1 (fun e w' => e = .returned (.bool v) ∧ Below w1.heap.size w1 w') by
          have := r4Fits_any up A n c l[k] w1 (HU.out.below h1) hn
          rwa [hv] at this)
        have i0 : (0 : Int) ≤ (k : Int) := by omega
        have i1 : (k : Int) < (m : Int) := by omega
        have HOK : Hid (okG up l k = (fitsG up l[k] && (decide (k = 0) || lessG (l.getD (k - 1) g0) l[k]))) := Lib.hid (by unfold okG; rw [getG_at l k hkl])
        have HNo := Lib.hid (fun h => checkG_no (up := up) hkl h)
        have HYes : Hid (okG up l k = true → ∀ j, j < k + 1 → okG up l j = true) := Lib.hid (fun h j hj => by
          by_cases e : j = k
          · subst e; exact h
          · exact HJ.out j (by omega))
        cases hf : fitsG up l[k]
        · have Q1 := Lib.hid (fun w1 h1 => HFit.out w1 h1 false hf)
          have HE := Lib.hid (HNo.out (by rw [HOK.out, hf]; rfl))
          generalize l[k] = x at c1 c2 c3 Q1
          clear hf HC HFit HOK
          go_wp2_with (go_at_call 72; refine (Q1.out _ BW.out).mono ?_; rintro e w1 ⟨rfl, h1⟩; have B1 := Lib.hid (below_step BW.out h1); clear h1)
          go_region
          all_goals
            go_wp2
            go_ret
            exact ⟨ret_bool HE.out.symm, B1.out.drew⟩
        · have Q1 := Lib.hid (fun w1 h1 => HFit.out w1 h1 true hf)
          rcases k with _ | j
          · have HE := Lib.hid (HYes.out (by rw [HOK.out, hf]; rfl))
            generalize l[0] = x at c1 c2 c3 Q1
            clear hf HC HFit HOK
            simp only [Nat.zero_mul, Nat.add_zero] at c1 c2 c3
            go_wp2_with (go_at_call 72; refine (Q1.out _ BW.out).mono ?_; rintro e w1 ⟨rfl, h1⟩; have B1 := Lib.hid (below_step BW.out h1); clear h1)
            all_goals
              (try go_region)
              go_wp2
              go_roundw
              case rel => exact ⟨1, by omega, by go_num, HE.out, B1.out.drew⟩
              case measure => simp [intOf]; omega
          · have hjl : j < l.length := by omega
            have HL := Lib.hid (fun w1 (v : Bool) (hv : lessG l[j] l[j + 1] = v) => show Calls Tryz.prog 73 #[.agg #[.int .i64 l[j].a, .int .i64 l[j].f, .int .i64 l[j].t], .agg #[.int .i64 l[j + 1].a, .int .i64 l[j + 1].f, .int .i64 l[j + 1].t]] w1 (fun e w' => e = .returned (.bool v) ∧ Below w1.heap.size w1 w') by
              have := r4Less_any l[j] l[j + 1] w1
              rwa [hv] at this)
            have hC1 := Lib.hid (fun w1 (h1 : Below w.heap.size w w1) => show (w1.cell? ⟨b, off + (j + 1) * 3, none⟩ = some (.int .i64 l[j + 1].a) ∧ w1.cell? ⟨b, off + (j + 1) * 3 + 1, none⟩ = some (.int .i64 l[j + 1].f) ∧ w1.cell? ⟨b, off + (j + 1) * 3 + 2, none⟩ = some (.int .i64 l[j + 1].t)) ∧
                w1.cell? ⟨b, off + j * 3, none⟩ = some (.int .i64 l[j].a) ∧ w1.cell? ⟨b, off + j * 3 + 1, none⟩ = some (.int .i64 l[j].f) ∧ w1.cell? ⟨b, off + j * 3 + 2, none⟩ = some (.int .i64 l[j].t) by
              obtain ⟨b', off', hA', h⟩ := HC.out w1 h1
              obtain ⟨b2, off2, hA2, h2⟩ := (HA.out.below h1).reads.gat hjl
              injection hA' with hA'
              injection hA' with q5 q6
              subst q5 q6
              injection hA2 with hA2
              injection hA2 with q5 q6
              subst q5 q6
              exact ⟨h, h2⟩)
            have hlj : l.getD j g0 = l[j] := getG_at l j hjl
            have HOK2 : Hid (okG up l (j + 1) = lessG l[j] l[j + 1]) := Lib.hid (by
              rw [HOK.out, hf, Nat.add_sub_cancel, hlj]
              simp)
            obtain ⟨v, hv⟩ : ∃ v, lessG l[j] l[j + 1] = v := ⟨_, rfl⟩
            have Q2 := Lib.hid (fun w1 => HL.out w1 v hv)
            rw [hv] at HOK2
            clear hv hlj HL HC HOK hf HFit
            generalize l[j + 1] = x at c1 c2 c3 Q1 Q2 hC1
            generalize l[j] = y at Q2 hC1
            have i2 : (0 : Int) ≤ (j : Int) := by omega
            have i3 : (j : Int) < (m : Int) := by omega
            have i4 : IntKind.i64.wrap (j : Int) = (j : Int) := by rw [IntKind.wrap_i64]; omega
            have i5 : IntKind.i64.wrap ((j : Int) + 1 - 1) = (j : Int) := by rw [Int.add_sub_cancel]; exact i4
            cases v
            · have HE := Lib.hid (HNo.out HOK2.out)
              go_wp2_with (go_at_call 72; refine (Q1.out _ BW.out).mono ?_; rintro e w1 ⟨rfl, h1⟩; have B1 := Lib.hid (below_step BW.out h1); clear h1)
              have BD := B1.out.drew
              have hS := hC1.out _ BD
              go_region_held (fun w' => (w'.cell? ⟨b, off + (j + 1) * 3, none⟩ = some (.int .i64 x.a) ∧ w'.cell? ⟨b, off + (j + 1) * 3 + 1, none⟩ = some (.int .i64 x.f) ∧ w'.cell? ⟨b, off + (j + 1) * 3 + 2, none⟩ = some (.int .i64 x.t)) ∧ w'.cell? ⟨b, off + j * 3, none⟩ = some (.int .i64 y.a) ∧ w'.cell? ⟨b, off + j * 3 + 1, none⟩ = some (.int .i64 y.f) ∧ w'.cell? ⟨b, off + j * 3 + 2, none⟩ = some (.int .i64 y.t)) (first | exact hS | assumption) (first
                | (go_at_call 73; refine (Q2.out _).mono ?_; rintro e w2 ⟨rfl, h1⟩; have B2 := Lib.hid (below_step BD h1); have hS := hC1.out w2 B2.out; clear h1))
              all_goals
                go_wp2
                go_ret
                exact ⟨ret_bool HE.out.symm, B2.out⟩
            · have HE := Lib.hid (HYes.out HOK2.out)
              go_wp2_with (go_at_call 72; refine (Q1.out _ BW.out).mono ?_; rintro e w1 ⟨rfl, h1⟩; have B1 := Lib.hid (below_step BW.out h1); clear h1)
              have BD := B1.out.drew
              have hS := hC1.out _ BD
              go_region_held (fun w' => (w'.cell? ⟨b, off + (j + 1) * 3, none⟩ = some (.int .i64 x.a) ∧ w'.cell? ⟨b, off + (j + 1) * 3 + 1, none⟩ = some (.int .i64 x.f) ∧ w'.cell? ⟨b, off + (j + 1) * 3 + 2, none⟩ = some (.int .i64 x.t)) ∧ w'.cell? ⟨b, off + j * 3, none⟩ = some (.int .i64 y.a) ∧ w'.cell? ⟨b, off + j * 3 + 1, none⟩ = some (.int .i64 y.f) ∧ w'.cell? ⟨b, off + j * 3 + 2, none⟩ = some (.int .i64 y.t)) (first | exact hS | assumption) (first
                | (go_at_call 73; refine (Q2.out _).mono ?_; rintro e w2 ⟨rfl, h1⟩; have B2 := Lib.hid (below_step BD h1); have hS := hC1.out w2 B2.out; clear h1))
              all_goals
                go_wp2
                go_roundw
                case rel => exact ⟨j + 1 + 1, by omega, by go_num, HE.out, B2.out⟩
                case measure => simp [intOf]; omega
      · obtain rfl : k = m := by omega
        have HE : Hid (checkG up l = true) := Lib.hid (by
          unfold checkG
          rw [Bool.and_eq_true, List.all_eq_true]
          have := HN.out
          refine ⟨by simp; omega, fun j hj => HJ.out j (by simp at hj; omega)⟩)
        obtain ⟨w3, hw3⟩ : ∃ w3 : World, w3 = wr := ⟨_, rfl⟩
        subst hw3
        go_wp2
        go_ret
        exact ⟨ret_bool HE.out.symm, BW.out⟩

end Go.Proofs.YtglkmpglpddfdaaGreatDoor
end

section
namespace Go.Proofs.YtglkmpglpddfdaaGreatDoor
open Go.RowKit
set_option linter.unusedVariables false

def Runs (M : Act → World → Prop) : Exit → Act → World → Prop := Exit.then M (fun _ _ _ => False)
theorem Runs.out (M : Act → World → Prop) : ¬ LetsOut (Runs M) := fun ⟨_, _, h⟩ => h
theorem wpOpsIn_of {l n : Nat} {P : Program} {ops : Array Oper} {M : Act → World → Prop} (hnd : ∀ (i : Nat) (o : Oper), ops[i]? = some o → ∀ c, o.op ≠ .defer c) :
    ∀ (is : List Nat) (a : Act) (w : World), wpOps P ops (Runs M) is a w → wpOpsIn (Fence.wide.inRound l) n P ops (Runs M) is a w := by
  intro is
  induction is with
  | nil => exact fun _ _ h => h
  | cons i rest ih =>
    intro a w h
    simp only [wpOps] at h
    simp only [wpOpsIn]
    cases ho : ops[i]? with
    | none =>
      simp only [ho] at h ⊢
      exact ih a w h
    | some o =>
      simp only [ho] at h ⊢
      by_cases hw : Region.wanted o (yielded ops a.tmps) = true
      · simp only [hw, if_true] at h ⊢
        rcases h with h | ⟨_, hl⟩
        case inr => exact absurd hl (Runs.out M)
        refine ⟨fun _ _ => trivial, ?_⟩
        have hs : o.semAt (Fence.wide.inRound l).round a.eval = execOp a.eval o := Oper.semAt_eq _ _ _ (hnd i o ho)
        rw [hs]
        unfold Oper.wp at h
        generalize (execOp a.eval o).run P w = r at h
        cases r with
        | ok x w' =>
          cases x <;> simp only [Oper.upon] at h <;> simp only [Oper.uponIn]
          case value v => exact ih _ _ h
          case skip => exact ih _ _ h
          case defer d => exact ih _ _ h
          case enter f args =>
            refine ⟨fun hd => (by cases hd), CallsIn.inRound l (callsIn_wide.2 (Calls.mono h fun e w'' he => ?_))⟩
            cases e with
            | returned v => exact ih _ _ he
            | panicked c => exact he
            | outgrown => exact he
          case row row args =>
            refine ⟨fun hd => (by cases hd), fun c cs _ => ?_⟩
            obtain ⟨v, w'', hv, hst⟩ := h c cs
            exact ⟨v, w'', ih _ _ hv, stepsIn_wide.2 hst⟩
        | halt x w' =>
          cases x <;> simp only [Oper.upon] at h <;> simp only [Oper.uponIn] <;> exact h
      · simp only [hw, Bool.false_eq_true, if_false] at h ⊢
        exact ⟨fun _ _ => trivial, ih _ _ h⟩

theorem wpIn_round_held {l n : Nat} {P : Program} {id : Nat} {ops : Array Oper} {K : Act → World → Prop} {Q : Exit → Act → World → Prop} {a : Act} {w : World} (S : World → Prop) (M : Act → World → Prop)
    (hm : P.follows .mixedOrders = true) (hnd : ∀ (i : Nat) (o : Oper), ops[i]? = some o → ∀ c, o.op ≠ .defer c)
    (h : wpAnyH P .any ops (Runs M) S ops.size (Array.replicate ops.size false) a w.drew) (h2 : ∀ a w, M a w → K a w) : (Code.region id ops true).wpIn (Fence.wide.inRound l) n P (Exit.then K Q) a w := by
  refine wpIn_mono (Q := Runs M) (wpIn_region_draw fun t => wpOpsIn_of hnd _ _ _ ?_) (fun e a w h => by cases e <;> first | exact h2 _ _ h | exact False.elim h)
  simp only [Region.schedule, hm, Bool.true_or, if_true]
  exact wpAny_sound ops.size t _ a _ (wpAny_of_held _ _ _ _ h)
theorem noDefer_of {ops : Array Oper} (h : (ops.toList.all fun o => match o.op with | .defer _ => false | _ => true) = true) (i : Nat) (o : Oper) (ho : ops[i]? = some o) (c : Call) : o.op ≠ .defer c := fun e => by
  rw [List.all_eq_true] at h
  have := h o (by rw [← Array.getElem?_toList] at ho; exact List.mem_of_getElem? ho)
  rw [e] at this
  cases this

theorem wp_held {P : Program} {id : Nat} {ops : Array Oper} {K : Act → World → Prop} {Q : Exit → Act → World → Prop} {a : Act} {w : World} (S : World → Prop) (M : Act → World → Prop)
    (hm : P.follows .mixedOrders = true)
    (h : wpAnyH P .any ops (Runs M) S ops.size (Array.replicate ops.size false) a w.drew) (h2 : ∀ a w, M a w → K a w) : (Code.region id ops true).wp P (Exit.then K Q) a w :=
  wp_mono (Q := Runs M) (wp_region_held hm h) (fun e a w h => by cases e <;> first | exact h2 _ _ h | exact False.elim h)
theorem cell_below {w w' : World} {p : Addr} {v : Value} (h : w.cell? p = some v) (hb : Below w.heap.size w w') : w'.cell? p = some v := (hb.cell (World.block_lt_of_cell? w p h)).trans h
theorem wp_cut {c : Code} {P : Program} {K : Act → World → Prop} {Q : Exit → Act → World → Prop} {a : Act} {w : World} (M : Act → World → Prop) (h1 : c.wp P (Exit.then M Q) a w) (h2 : ∀ a w, M a w → K a w) : c.wp P (Exit.then K Q) a w :=
  wp_mono h1 (fun e a w h => by cases e <;> first | exact h2 _ _ h | exact h)
theorem undef_is : undef = Value.tuple #[] := rfl

end Go.Proofs.YtglkmpglpddfdaaGreatDoor
end
