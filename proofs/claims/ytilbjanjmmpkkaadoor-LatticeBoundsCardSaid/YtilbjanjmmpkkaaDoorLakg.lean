/- Package lattice: Check: contract, no statement. -/
import Derived.Test.YtilbjanjmmpkkaaDoorLake
import Derived.Test.YtilbjanjmmpkkaaDoorLakf
namespace Go.Proofs.YtilbjanjmmpkkaaDoor
open Go.RowKit
set_option linter.unusedVariables false

theorem fit_iff {x y : Nat} (hx : x < 2 ^ 64) (hy : y < 2 ^ 64) : pairFit x y = true ↔ ∀ d, y.testBit d = true → x.testBit d = true := by
  unfold pairFit
  have e : 18446744073709551615 - x = 2 ^ 64 - (x + 1) := by omega
  have hb : ∀ d, (18446744073709551615 - x).testBit d = (decide (d < 64) && !x.testBit d) := fun d => by rw [e, Nat.testBit_two_pow_sub_succ hx]
  constructor
  · intro h d h1
    have h0 : y &&& (18446744073709551615 - x) = 0 := by simpa using h
    have := congrArg (fun z => z.testBit d) h0
    simp only [Nat.testBit_and, h1, hb, Nat.zero_testBit, Bool.true_and] at this
    have hd : d < 64 := by
      apply Classical.byContradiction
      intro hn
      rw [Nat.testBit_lt_two_pow (Nat.lt_of_lt_of_le hy (Nat.pow_le_pow_right (by omega) (by omega)))] at h1
      cases h1
    simpa [hd] using this
  · intro h
    have h0 : y &&& (18446744073709551615 - x) = 0 := Nat.eq_of_testBit_eq fun d => by
      rw [Nat.testBit_and, hb, Nat.zero_testBit]
      cases h1 : y.testBit d
      · rfl
      · rw [h d h1]
        simp
    simpa using h0
theorem rowFit_iff {n x : Nat} (hn : n ≤ 64) (hx : x < 2 ^ 64) : rowFit n x = true ↔ ∀ d, x.testBit d = true → d < n := by
  have hp : 2 ^ n ≤ 2 ^ 64 := Nat.pow_le_pow_right (by omega) hn
  have hq : 0 < 2 ^ n := Nat.pow_pos (by omega)
  have := fit_iff (x := 2 ^ n - 1) (y := x) (by omega) hx
  simp only [Nat.testBit_two_pow_sub_one, decide_eq_true_eq] at this
  exact this
theorem getD_big {up : List Nat} (h : ∀ x ∈ up, x < 2 ^ 64) (i : Nat) : up.getD i 0 < 2 ^ 64 := by
  by_cases hi : i < up.length
  · rw [getD_at up i hi]
    exact h _ (List.getElem_mem hi)
  · have : up.getD i 0 = 0 := by simp [List.getD, List.getElem?_eq_none (Nat.le_of_not_lt hi)]
    rw [this]
    decide
theorem ubit_lt64 {up : List Nat} (h : ∀ x ∈ up, x < 2 ^ 64) {a b : Nat} (hu : ubit up a b = true) : b < 64 := by
  apply Classical.byContradiction
  intro hn
  unfold ubit at hu
  rw [Nat.testBit_lt_two_pow (Nat.lt_of_lt_of_le (getD_big h a) (Nat.pow_le_pow_right (by omega) (by omega)))] at hu
  cases hu
/-- What the program's Check asks is what the document asks. -/
theorem check_is {up : List Nat} (hbig : ∀ x ∈ up, x < 2 ^ 64) (h1 : 1 ≤ up.length) (h64 : up.length ≤ 64) : (orderB up && boundsB up) = checkB up := by
  rw [Bool.eq_iff_iff, checkB_iff, Bool.and_eq_true, bounds_iff]
  have hord : orderB up = true ↔ (∀ a, a < up.length → ∀ b, ubit up a b = true → b < up.length) ∧ (∀ a, a < up.length → ubit up a a = true) ∧
      (∀ a, a < up.length → ∀ d, ubit up a d = true → (∀ c, ubit up d c = true → ubit up a c = true) ∧ (d = a ∨ leqZ up d a = false)) := by
    unfold orderB rowOK pairOK
    simp only [List.all_eq_true, List.mem_range, Bool.and_eq_true, rowFit_iff h64 (getD_big hbig _), fit_iff (getD_big hbig _) (getD_big hbig _), listN_mem, Bool.or_eq_true, decide_eq_true_eq, Bool.not_eq_true']
    constructor
    · intro h
      refine ⟨fun a ha b hb => (h a ha).1.1 b hb, fun a ha => ?_, fun a ha d hd => ?_⟩
      · have := (h a ha).1.2
        rw [leqZ_nat] at this
        exact (lq_iff.1 this).2.2.2
      · exact (h a ha).2 d ⟨ubit_lt64 hbig hd, hd⟩
    · rintro ⟨k1, k2, k3⟩ a ha
      refine ⟨⟨fun d hd => k1 a ha d hd, ?_⟩, fun d hd => k3 a ha d hd.2⟩
      rw [leqZ_nat]
      exact lq_iff.2 ⟨h64, ha, ha, k2 a ha⟩
  rw [hord]
  constructor
  · rintro ⟨⟨k1, k2, k3⟩, k4⟩
    refine isLat_of up ⟨h1, h64⟩ (fun a ha b _ hb => k1 a ha b hb) k2 (fun a ha b hb hne hab => ?_) (fun a ha b hb hab c hc hbc => (k3 a ha b hab).1 c hbc) (fun a ha b hb => k4 a ha b hb)
    rcases (k3 a ha b hab).2 with e | e
    · exact absurd e (Ne.symm hne)
    · cases hu : ubit up b a
      · rfl
      · rw [leqZ_nat] at e
        rw [lq_iff.2 ⟨h64, hb, ha, hu⟩] at e
        cases e
  · intro h
    refine ⟨⟨fun a ha b hb => h.2.1 a ha b (ubit_lt64 hbig hb) hb, h.2.2.1, fun a ha d hd => ⟨fun c hc => ?_, ?_⟩⟩, fun a ha b hb => h.2.2.2.2.2 a ha b (by omega)⟩
    · have hdn := h.2.1 a ha d (ubit_lt64 hbig hd) hd
      exact h.2.2.2.2.1 a ha d hdn hd c (h.2.1 d hdn c (ubit_lt64 hbig hc) hc) hc
    · have hdn := h.2.1 a ha d (ubit_lt64 hbig hd) hd
      by_cases e : d = a
      · exact .inl e
      · right
        rw [leqZ_nat]
        cases hl : lq up d a
        · rfl
        · have := h.2.2.2.1 a ha d hdn (Ne.symm e) hd
          rw [(lq_iff.1 hl).2.2.2] at this
          cases this

set_option maxHeartbeats 1000000 in
theorem laCheck_any (up : List Nat) (A : Option Addr) (n c : Nat) (w : World) (ht : Base3 w) (h : ArgU w A n c up) (hn : n ≤ 1000000) :
    Calls Tryd.prog 18 #[.slice A n c] w (BoolEnd (checkB up) w) := by
  by_cases h1 : 1 ≤ n
  · by_cases h64 : n ≤ 64
    · have HO := Lib.hid (isOrder_any up A n c w ht h h64)
      have HB := Lib.hid (fun (w1 : World) (hb : Below w.heap.size w w1) => hasBounds_any up A n c w1 (ht.below hb) (h.below hb) h64)
      have HC := Lib.hid (check_is h.big (by have := h.len; omega) (by have := h.len; omega))
      generalize orderB up = o at HO HC
      generalize boundsB up = b at HB HC
      clear ht h
      cases o
      · clear HB
        go_enter Tryd.func18, Tryd.ntmps18
        go_wp2_with (go_at_call 37; (with_reducible refine HO.out.mono ?_); rintro e w1 ⟨rfl, h2⟩; have B1 := Lib.hid h2; clear h2)
        go_ret
        exact ⟨ret_bool HC.out, B1.out⟩
      · go_enter Tryd.func18, Tryd.ntmps18
        go_wp2_with (first
          | (go_at_call 37; (with_reducible refine HO.out.mono ?_); rintro e w1 ⟨rfl, h2⟩; have B1 := Lib.hid h2; clear h2)
          | (go_at_call 38; (with_reducible refine (HB.out _ B1.out).mono ?_); rintro e w2 ⟨rfl, h3⟩; have B2 := Lib.hid (below_step B1.out h3); clear h3))
        go_ret
        exact ⟨ret_bool HC.out, B2.out⟩
    · have HC := Lib.hid (checkB_no (up := up) (fun hh => by have := hh.1.2; have := h.len; omega))
      clear ht h
      go_enter Tryd.func18, Tryd.ntmps18
      go_wp2
      go_ret
      exact ⟨ret_bool HC.out.symm, Below.refl _ _⟩
  · have HC := Lib.hid (checkB_no (up := up) (fun hh => by have := hh.1.1; have := h.len; omega))
    clear ht h
    go_enter Tryd.func18, Tryd.ntmps18
    go_wp2
    go_ret
    exact ⟨ret_bool HC.out.symm, Below.refl _ _⟩

end Go.Proofs.YtilbjanjmmpkkaaDoor
