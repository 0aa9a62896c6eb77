/- Package grants: cmp.Compare, cmp.Or, Less, Fits: contracts, no statement. -/
import Derived.Test.YtbgpjboefnacgaaLaka
import Derived.Test.YtbgpjboefnacgaaGrs
import Derived.Test.YtbgpjboefnacgaaGrp
import Derived.Test.YtbgpjboefnacgaaEnds
import Derived.Deep.RegionHeld3
namespace Go.Proofs.Ytbgpjboefnacgaa
open Go.RowKit
set_option linter.unusedVariables false

/-- What the code's tables at package level read as (here: nothing is asked). -/
def Base4 (w : World) : Prop := True
theorem Base4.below {w w' : World} (h : Base4 w) (hb : Below w.heap.size w w') : Base4 w' := trivial

theorem isNaN_any (a : Int) (w : World) : Calls Try.prog 46 #[.int .i64 a] w fun e w' => e = .returned (.bool false) ∧ w = w' := by
  have q : (a != a) = false := by simp
  go_enter Try.func46, Try.ntmps46
  go_wp2
  go_ret
  exact ⟨rfl, rfl⟩
def cmpZ (a b : Int) : Int := if a < b then -1 else if b < a then 1 else 0
theorem compare_any (a b : Int) (w : World) : Calls Try.prog 30 #[.int .i64 a, .int .i64 b] w fun e w' => e = .returned (.int .i64 (cmpZ a b)) ∧ w = w' := by
  have HN := Lib.hid (fun a w1 => isNaN_any a w1)
  by_cases h1 : a < b
  · have HE : Hid (cmpZ a b = -1) := Lib.hid (by simp [cmpZ, h1])
    have e1 : decide (a < b) = true := by simp [h1]
    clear h1
    go_enter Try.func30, Try.ntmps30
    go_wp2_with (go_at_call 46; (with_reducible refine (HN.out _ _).mono ?_); rintro e w' ⟨rfl, rfl⟩)
    go_ret
    exact ⟨ret_i64 HE.out.symm, rfl⟩
  · have e1 : decide (a < b) = false := by simp; omega
    by_cases h2 : b < a
    · have HE : Hid (cmpZ a b = 1) := Lib.hid (by simp [cmpZ, h1, h2])
      have e2 : decide (b < a) = true := by simp [h2]
      clear h1 h2
      go_enter Try.func30, Try.ntmps30
      go_wp2_with (go_at_call 46; (with_reducible refine (HN.out _ _).mono ?_); rintro e w' ⟨rfl, rfl⟩)
      go_ret
      exact ⟨ret_i64 HE.out.symm, rfl⟩
    · have HE : Hid (cmpZ a b = 0) := Lib.hid (by simp [cmpZ, h1, h2])
      have e2 : decide (b < a) = false := by simp; omega
      clear h1 h2
      go_enter Try.func30, Try.ntmps30
      go_wp2_with (go_at_call 46; (with_reducible refine (HN.out _ _).mono ?_); rintro e w' ⟨rfl, rfl⟩)
      go_ret
      exact ⟨ret_i64 HE.out.symm, rfl⟩

def orZ : List Int → Int
  | [] => 0
  | x :: l => if x = 0 then orZ l else x
theorem orZ_at (l : List Int) (k : Nat) (hk : k < l.length) (h0 : ∀ j (h : j < l.length), j < k → l[j] = 0) (h : l[k] ≠ 0) : orZ l = l[k] := by
  induction l generalizing k with
  | nil => simp at hk
  | cons x l ih =>
    cases k with
    | zero => simp only [List.getElem_cons_zero] at h ⊢; simp [orZ, h]
    | succ k =>
      have e : x = 0 := h0 0 (by simp) (by omega)
      have hk' : k < l.length := by simpa using hk
      simp only [List.getElem_cons_succ] at h ⊢
      rw [← ih k hk' (fun j hj hjk => by have := h0 (j + 1) (by simp; omega) (by omega); simpa using this) h]
      simp [orZ, e]
theorem orZ_none (l : List Int) (h0 : ∀ j (h : j < l.length), l[j] = 0) : orZ l = 0 := by
  induction l with
  | nil => rfl
  | cons x l ih =>
    have e : x = 0 := h0 0 (by simp)
    rw [← ih (fun j hj => by have := h0 (j + 1) (by simp; omega); simpa using this)]
    simp [orZ, e]
theorem Reads.zat {w : World} {A : Option Addr} {l : List Int} (h : Reads w A (l.map (Value.int .i64))) {i : Nat} (hi : i < l.length) :
    ∃ g off, A = some ⟨g, off, none⟩ ∧ w.cell? ⟨g, off + i, none⟩ = some (.int .i64 l[i]) := by
  obtain ⟨g, off, hA, hc⟩ := h (by simpa using Nat.lt_of_le_of_lt (Nat.zero_le _) hi)
  exact ⟨g, off, hA, hc _ _ (by simp [hi])⟩
set_option maxHeartbeats 1000000 in
theorem cmpOr_any (l : List Int) (A : Option Addr) (n c : Nat) (w : World) (hn : n = l.length) (h : Reads w A (l.map (Value.int .i64))) (hm : n ≤ 1000) :
    Calls Try.prog 29 #[.slice A n c] w fun e w' => e = .returned (.int .i64 (orZ l)) ∧ w = w' := by
  have HR := Lib.hid h
  have HN := Lib.hid hn
  clear h hn
  go_enter Try.func29, Try.ntmps29
  go_wp2
  go_loopw [8] (fun i wr => ∃ k : Nat, k ≤ n ∧ i = .int .i64 k ∧ (∀ j (h : j < l.length), j < k → l[j] = 0) ∧ w = wr) (fun i _ => n - (intOf i).toNat)
  case atStart => exact ⟨0, Nat.zero_le _, rfl, fun j _ h => absurd h (by omega), rfl⟩
  case round =>
    obtain ⟨k, hk, rfl, hj, rfl⟩ := hrel
    have HJ := Lib.hid hj
    clear hj
    by_cases hlt : k < n
    · have hkl : k < l.length := by have := HN.out; omega
      obtain ⟨b, off, rfl, c1⟩ := HR.out.zat hkl
      have i0 : (0 : Int) ≤ (k : Int) := by omega
      have i1 : (k : Int) < (n : Int) := by omega
      by_cases h0 : l[k] = 0
      · have HX : Hid (∀ j (h : j < l.length), j < k + 1 → l[j] = 0) := Lib.hid (fun j h hj => by
          by_cases e2 : j = k
          · subst e2; exact h0
          · exact HJ.out j h (by omega))
        rw [h0] at c1
        clear h0
        clear hkl
        go_wp2
        go_roundw
        case rel => exact ⟨k + 1, by omega, by go_num, HX.out, by first | rfl | trivial⟩
        case measure => simp [intOf]; omega
      · have HX : Hid (orZ l = l[k]) := Lib.hid (orZ_at l k hkl HJ.out h0)
        have q := int_bne_t h0
        clear h0
        generalize l[k] = x at c1 HX q
        clear hkl
        go_wp2
        go_ret
        exact ⟨ret_i64 HX.out.symm, rfl⟩
    · obtain rfl : k = n := by omega
      have HQ : Hid (orZ l = 0) := Lib.hid (orZ_none l (fun j hj => HJ.out j hj (by have := HN.out; omega)))
      go_wp2
      go_ret
      exact ⟨ret_i64 HQ.out.symm, rfl⟩

theorem less_cmp (g h : G) : decide (orZ [cmpZ g.a h.a, cmpZ g.f h.f, cmpZ g.t h.t] < 0) = lessG g h := by
  unfold lessG orZ cmpZ
  by_cases h1 : g.a < h.a
  · simp [h1]; omega
  · by_cases h2 : h.a < g.a
    · simp [h1, h2]; omega
    · have e : g.a = h.a := by omega
      by_cases h3 : g.f < h.f
      · simp [h3, e, orZ]; omega
      · by_cases h4 : h.f < g.f
        · simp [h3, h4, e, orZ]; omega
        · have e2 : g.f = h.f := by omega
          by_cases h5 : g.t < h.t
          · simp [h5, e, e2, orZ]
          · by_cases h6 : h.t < g.t
            · simp [h5, h6, e, e2, orZ]
            · simp [h5, h6, e, e2, orZ]

theorem reads_made3 (w : World) (x y z : Int) : Reads (w.alloc (.cells #[.int .i64 x, .int .i64 y, .int .i64 z] 3)) (some ⟨w.heap.size, 0, none⟩) ([x, y, z].map (Value.int .i64)) := fun _ => ⟨w.heap.size, 0, rfl, fun j u hj => by
    rw [World.cell?_alloc_mark]
    simpa using hj⟩
theorem two_boxes {W W' : World} {p q : Nat} {g h : G} (h1 : Has W p 29 #[.int .i64 g.a, .int .i64 g.f, .int .i64 g.t]) (h2 : Has W q 29 #[.int .i64 h.a, .int .i64 h.f, .int .i64 h.t]) (hb : Below W.heap.size W W') :
    (W'.cell? ⟨p, 0, none⟩ = some (.int .i64 g.a) ∧ W'.cell? ⟨p, 1, none⟩ = some (.int .i64 g.f) ∧ W'.cell? ⟨p, 2, none⟩ = some (.int .i64 g.t)) ∧
      W'.cell? ⟨q, 0, none⟩ = some (.int .i64 h.a) ∧ W'.cell? ⟨q, 1, none⟩ = some (.int .i64 h.f) ∧ W'.cell? ⟨q, 2, none⟩ = some (.int .i64 h.t) := by
  have k1 := h1.below hb h1.lt
  have k2 := h2.below hb h2.lt
  rw [k1.cell, k1.cell, k1.cell, k2.cell, k2.cell, k2.cell]
  simp
set_option maxRecDepth 100000 in
set_option maxHeartbeats 2000000 in
theorem gLess_any (g h : G) (w : World) (ht : Base4 w) : Calls Try.prog 10 #[gV g, gV h] w (BoolEnd (lessG g h) w) := by
  obtain ⟨W, hW⟩ : ∃ W, ((w.alloc (.cells #[.int .i64 g.a, .int .i64 g.f, .int .i64 g.t] 29)).alloc (.cells #[.int .i64 h.a, .int .i64 h.f, .int .i64 h.t] 29)) = W := ⟨_, rfl⟩
  have hb : Below w.heap.size w W := hW ▸ (((Below.refl _ w).alloc (Nat.le_refl _) _).alloc (by simp) _)
  have h1 : Has W w.heap.size 29 #[.int .i64 g.a, .int .i64 g.f, .int .i64 g.t] := hW ▸ (Has.made w 29 #[.int .i64 g.a, .int .i64 g.f, .int .i64 g.t]).alloc _
  have h2 : Has W (w.heap.size + 1) 29 #[.int .i64 h.a, .int .i64 h.f, .int .i64 h.t] := by
    have := Has.made (w.alloc (.cells #[.int .i64 g.a, .int .i64 g.f, .int .i64 g.t] 29)) 29 #[.int .i64 h.a, .int .i64 h.f, .int .i64 h.t]
    rw [hW] at this
    simpa using this
  have HB := Lib.hid hb
  have HE := Lib.hid (less_cmp g h)
  have HC := Lib.hid (fun W' (h' : Below W.heap.size W W') => two_boxes h1 h2 h')
  clear hb h1 h2
  unfold gV
  obtain ⟨a, f, t⟩ := g
  obtain ⟨a', f', t'⟩ := h
  simp only at HE hW HC ⊢
  have C1 := Lib.hid (fun w1 => compare_any a a' w1)
  have C2 := Lib.hid (fun w1 => compare_any f f' w1)
  have C3 := Lib.hid (fun w1 => compare_any t t' w1)
  generalize cmpZ a a' = x1 at HE C1
  generalize cmpZ f f' = x2 at HE C2
  generalize cmpZ t t' = x3 at HE C3
  have HO := Lib.hid (fun (p : Nat) (w1 : World) (h1 : Reads w1 (some ⟨p, 0, none⟩) ([x1, x2, x3].map (Value.int .i64))) => cmpOr_any [x1, x2, x3] (some ⟨p, 0, none⟩) 3 3 w1 rfl h1 (by omega))
  generalize orZ [x1, x2, x3] = z at HE HO
  generalize lessG ⟨a, f, t⟩ ⟨a', f', t'⟩ = r at HE ⊢
  have BD : Below W.heap.size W W.drew := (Below.refl _ _).drew
  have hS := HC.out _ BD
  go_enter Try.func10, Try.ntmps10
  go_wp2
  try rw [hW]
  go_region_held (fun w' => (w'.cell? ⟨w.heap.size, 0, none⟩ = some (.int .i64 a) ∧ w'.cell? ⟨w.heap.size, 1, none⟩ = some (.int .i64 f) ∧ w'.cell? ⟨w.heap.size, 2, none⟩ = some (.int .i64 t)) ∧
      w'.cell? ⟨w.heap.size + 1, 0, none⟩ = some (.int .i64 a') ∧ w'.cell? ⟨w.heap.size + 1, 1, none⟩ = some (.int .i64 f') ∧ w'.cell? ⟨w.heap.size + 1, 2, none⟩ = some (.int .i64 t')) (first | exact hS | assumption | (refine HC.out _ ?_; (repeat (first | exact BD | exact Below.refl _ _ | refine below_step ?_ (by assumption) | refine below_alloc1 ?_ _ (Nat.le_refl _) | refine Below.drew ?_)))) (first
    | (go_at_call 30; (with_reducible refine (C1.out _).mono ?_); rintro e w1 ⟨rfl, rfl⟩)
    | (go_at_call 30; (with_reducible refine (C2.out _).mono ?_); rintro e w1 ⟨rfl, rfl⟩)
    | (go_at_call 30; (with_reducible refine (C3.out _).mono ?_); rintro e w1 ⟨rfl, rfl⟩)
    | (go_at_call 29; (with_reducible refine (HO.out _ _ ?_).mono ?_); (first | exact reads_made3 _ _ _ _ | exact (reads_made3 _ _ _ _).drew); rintro e w1 ⟨rfl, rfl⟩))
  all_goals
    go_wp2
    go_ret
    exact ⟨ret_bool HE.out, below_step HB.out (by (repeat (first | exact BD | exact Below.refl _ _ | refine below_alloc1 ?_ _ (Nat.le_refl _) | refine Below.drew ?_)))⟩

set_option maxHeartbeats 1000000 in
theorem gFits_any (up : List Nat) (A : Option Addr) (n c : Nat) (g : G) (w : World) (ht : Base4 w) (L : IsLat up) (hu : ArgU w A n c up) :
    Calls Try.prog 12 #[.slice A n c, gV g] w (BoolEnd (fitsG up g) w) := by
  have HL := Lib.hid (fun w1 (h1 : Below w.heap.size w w1) (a b : Int) (v : Bool) (hv : leqZ up a b = v) => show Calls Try.prog 31 #[.slice A n c, .int .i64 a, .int .i64 b] w1 (BoolEnd v w1) by
    have := leq_any up A n c a b w1 (hu.below h1)
    rwa [hv] at this)
  obtain ⟨W, hW⟩ : ∃ W, w.alloc (.cells #[.int .i64 g.a, .int .i64 g.f, .int .i64 g.t] 29) = W := ⟨_, rfl⟩
  have hb : Below w.heap.size w W := hW ▸ (Below.refl _ w).alloc (Nat.le_refl _) _
  have h1 : Has W w.heap.size 29 #[.int .i64 g.a, .int .i64 g.f, .int .i64 g.t] := hW ▸ Has.made w 29 #[.int .i64 g.a, .int .i64 g.f, .int .i64 g.t]
  have HB := Lib.hid hb
  have HC := Lib.hid (fun W' (h' : Below w.heap.size w W') (hh : Below W.heap.size W W') => (two_boxes h1 h1 hh).1)
  clear hu hb
  unfold gV
  obtain ⟨a, f, t⟩ := g
  simp only at HC h1 hW ⊢
  obtain ⟨v1, hv1⟩ : ∃ v, leqZ up f a = v := ⟨_, rfl⟩
  obtain ⟨v2, hv2⟩ : ∃ v, leqZ up t a = v := ⟨_, rfl⟩
  obtain ⟨v3, hv3⟩ : ∃ v, leqZ up f t = v := ⟨_, rfl⟩
  have HE : Hid (fitsG up ⟨a, f, t⟩ = (v1 && v2 && !v3)) := Lib.hid (by simp [fitsG, hv1, hv2, hv3])
  have Q1 := Lib.hid (fun w1 h1 => HL.out w1 h1 f a v1 hv1)
  have Q2 := Lib.hid (fun w1 h1 => HL.out w1 h1 t a v2 hv2)
  have Q3 := Lib.hid (fun w1 h1 => HL.out w1 h1 f t v3 hv3)
  have R0 := Lib.hid (Below.refl W.heap.size W)
  obtain ⟨s1, s2, s3⟩ := HC.out _ HB.out R0.out
  clear hv1 hv2 hv3 h1 HL
  cases v1 <;> cases v2 <;> cases v3
  all_goals
    go_enter Try.func12, Try.ntmps12
    go_wp2_with (first
      | (go_at_call 31; (with_reducible refine (Q1.out _ HB.out).mono ?_); rintro e w1 ⟨rfl, h1⟩; have B1 := Lib.hid (below_step HB.out h1); have R1 := Lib.hid (below_step R0.out h1); clear s1 s2 s3; obtain ⟨s1, s2, s3⟩ := HC.out _ B1.out R1.out; clear h1)
      | (go_at_call 31; (with_reducible refine (Q2.out _ B1.out).mono ?_); rintro e w2 ⟨rfl, h1⟩; have B2 := Lib.hid (below_step B1.out h1); have R2 := Lib.hid (below_step R1.out h1); clear s1 s2 s3; obtain ⟨s1, s2, s3⟩ := HC.out _ B2.out R2.out; clear h1)
      | (go_at_call 31; (with_reducible refine (Q3.out _ B2.out).mono ?_); rintro e w3 ⟨rfl, h1⟩; have B3 := Lib.hid (below_step B2.out h1); clear h1))
    go_ret
    exact ⟨ret_bool HE.out.symm, by first | exact B3.out | exact B2.out | exact B1.out⟩

end Go.Proofs.Ytbgpjboefnacgaa
