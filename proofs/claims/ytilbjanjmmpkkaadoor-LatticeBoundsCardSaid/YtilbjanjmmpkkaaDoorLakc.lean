/- Package lattice: Join, Meet: contracts, no statement. -/
import Derived.Test.YtilbjanjmmpkkaaDoorLako
namespace Go.Proofs.YtilbjanjmmpkkaaDoor
open Go.RowKit Go.Shelf
set_option linter.unusedVariables false

/-! The bounds. -/
theorem near_is {S : Int → Nat} (hS : ∀ c, S c < 2 ^ 64) (a b : Int) (c : Nat) : nearP (S a &&& S b) S c = true ↔ (S a).testBit c = true ∧ (S b).testBit c = true ∧ ∀ d : Nat, (S a).testBit d = true → (S b).testBit d = true → (S c).testBit d = true := by
  unfold nearP
  rw [Bool.and_eq_true, Nat.testBit_and, Bool.and_eq_true, and_assoc, and_congr_right_iff]
  intro _
  rw [and_congr_right_iff]
  intro _
  have e : 18446744073709551615 - S c = 2 ^ 64 - (S c + 1) := by omega
  have hb : ∀ d, (18446744073709551615 - S c).testBit d = (decide (d < 64) && !(S c).testBit d) := fun d => by rw [e, Nat.testBit_two_pow_sub_succ (hS c)]
  constructor
  · intro h d h1 h2
    have h0 : (S a &&& S b) &&& (18446744073709551615 - S c) = 0 := by simpa using h
    have := congrArg (fun x => x.testBit d) h0
    simp only [Nat.testBit_and, h1, h2, hb, Nat.zero_testBit, Bool.and_true, Bool.true_and] at this
    have hd : d < 64 := by
      apply Classical.byContradiction
      intro hn
      rw [Nat.testBit_lt_two_pow (Nat.lt_of_lt_of_le (hS a) (Nat.pow_le_pow_right (by omega) (by omega)))] at h1
      cases h1
    simpa [hd] using this
  · intro h
    have h0 : (S a &&& S b) &&& (18446744073709551615 - S c) = 0 := Nat.eq_of_testBit_eq fun d => by
      rw [Nat.testBit_and, Nat.testBit_and, hb, Nat.zero_testBit]
      cases h1 : (S a).testBit d
      · rfl
      · cases h2 : (S b).testBit d
        · rfl
        · rw [h d h1 h2]
          simp
    simpa using h0
theorem firstN_two {p q : Nat → Bool} {n m : Nat} (h : ∀ k, p k = q k) (hn : ∀ k, q k = true → k < n) (hm : ∀ k, q k = true → k < m) : firstN p n = firstN q m := by
  rcases firstN_cases q m with ⟨k, h1, h2, h3, h4⟩ | ⟨h1, h2⟩
  · rw [h4]
    exact firstN_some (hn k h2) (by rw [h]; exact h2) (fun j hj => by rw [h]; exact h3 j hj)
  · rw [h2]
    refine firstN_none fun j _ => ?_
    rw [h]
    cases hq : q j
    · rfl
    · exact absurd (h1 j (hm j hq)) (by rw [hq]; simp)
theorem leqZ_lt {up : List Nat} {a b : Int} (h : leqZ up a b = true) : up.length ≤ 64 ∧ a < up.length ∧ b < up.length := by
  obtain ⟨h1, h2, h3⟩ := leqZ_iff.1 h
  obtain ⟨h4, h5, h6, _⟩ := lq_iff.1 h3
  omega
theorem mask_none {p : Nat → Bool} {n : Nat} (h : ∀ i, p i = false) : mask p n = 0 := by
  symm
  apply bits_eq
  intro i
  simp [h]
theorem aboveN_lt64 (up : List Nat) (a : Int) : aboveN up a < 2 ^ 64 := by
  by_cases h : up.length ≤ 64
  · exact aboveN_lt up a h
  · unfold aboveN
    rw [mask_none fun i => leqZ_out (by omega)]
    decide
theorem downN_lt64 (up : List Nat) (a : Int) : downN up a < 2 ^ 64 := by
  by_cases h : up.length ≤ 64
  · exact downN_lt up a h
  · unfold downN
    rw [mask_none fun i => leqZ_out (by omega)]
    decide
theorem join_near (up : List Nat) (a b : Int) : firstN (nearP (aboveN up a &&& aboveN up b) (aboveN up)) 64 = joinN up a b := by
  unfold joinN
  refine firstN_two (fun k => ?_) (fun k hk => ?_) (fun k hk => ?_)
  · rw [Bool.eq_iff_iff, near_is (aboveN_lt64 up), isJ_iff]
    simp only [aboveN_bit]
  · have := leqZ_lt (isJ_iff.1 hk).1
    omega
  · have := leqZ_lt (isJ_iff.1 hk).1
    omega
theorem meet_near (up : List Nat) (a b : Int) : firstN (nearP (downN up a &&& downN up b) (downN up)) 64 = meetN up a b := by
  unfold meetN
  refine firstN_two (fun k => ?_) (fun k hk => ?_) (fun k hk => ?_)
  · rw [Bool.eq_iff_iff, near_is (downN_lt64 up), isM_iff]
    simp only [downN_bit]
  · have := leqZ_lt (isM_iff.1 hk).1
    omega
  · have := leqZ_lt (isM_iff.1 hk).1
    omega

set_option maxHeartbeats 1000000 in
theorem join1_any (up : List Nat) (A : Option Addr) (n k Bu : Nat) (c : Int) (w : World) (h : ArgU w A n k up) (hc : w.cell? ⟨Bu, 0, none⟩ = some (.slice A n k)) :
    Calls Tryd.prog 34 #[.int .i64 c, .pointer (some ⟨Bu, 0, none⟩)] w (U64End (aboveN up c) w) := by
  have HA := Lib.hid (above_any up A n k c w h)
  clear h
  go_enter Tryd.func34, Tryd.ntmps34
  go_wp2_with (go_at_call 30; refine HA.out.mono ?_; rintro e w1 ⟨rfl, h1⟩; have B1 := Lib.hid h1; clear h1)
  go_ret
  exact ⟨rfl, B1.out⟩
set_option maxHeartbeats 1000000 in
theorem meet1_any (up : List Nat) (A : Option Addr) (n k Bu : Nat) (c : Int) (w : World) (h : ArgU w A n k up) (hn : n ≤ 1000000) (hc : w.cell? ⟨Bu, 0, none⟩ = some (.slice A n k)) :
    Calls Tryd.prog 35 #[.int .i64 c, .pointer (some ⟨Bu, 0, none⟩)] w (U64End (downN up c) w) := by
  have HA := Lib.hid (down_any up A n k c w h hn)
  clear h
  go_enter Tryd.func35, Tryd.ntmps35
  go_wp2_with (go_at_call 12; refine HA.out.mono ?_; rintro e w1 ⟨rfl, h1⟩; have B1 := Lib.hid h1; clear h1)
  go_ret
  exact ⟨rfl, B1.out⟩
set_option maxHeartbeats 1000000 in
theorem laJoin_any (up : List Nat) (A : Option Addr) (n c : Nat) (a b : Int) (w : World) (ht : Base3 w) (h : ArgU w A n c up) (hn : n ≤ 1000000) :
    Calls Tryd.prog 14 #[.slice A n c, .int .i64 a, .int .i64 b] w (IntEnd (joinN up a b) w) := by
  have hB0 : Below w.heap.size w (w.alloc (.cells #[.slice A n c] 22)) := (Below.refl _ w).alloc (Nat.le_refl _) _
  have bU := Boxed.new w 22 (.slice A n c)
  have HN := Lib.hid (nearJ_any (aboveN up) (aboveN_lt64 up) w.heap.size a b _ (ht.below hB0) (fun c' w1 h1 => join1_any up A n c w.heap.size c' w1 (h.below (below_step hB0 h1)) (boxed_below bU h1).cell))
  rw [join_near] at HN
  have HB := Lib.hid hB0
  clear h bU hB0 ht
  go_enter Tryd.func14, Tryd.ntmps14
  go_wp2_with (go_at_call 33; refine HN.out.mono ?_; rintro e w1 ⟨rfl, h1⟩; have B1 := Lib.hid (below_step HB.out h1); clear h1)
  go_ret
  exact ⟨rfl, B1.out⟩
set_option maxHeartbeats 1000000 in
theorem laMeet_any (up : List Nat) (A : Option Addr) (n c : Nat) (a b : Int) (w : World) (ht : Base3 w) (h : ArgU w A n c up) (hn : n ≤ 1000000) :
    Calls Tryd.prog 16 #[.slice A n c, .int .i64 a, .int .i64 b] w (IntEnd (meetN up a b) w) := by
  have hB0 : Below w.heap.size w (w.alloc (.cells #[.slice A n c] 22)) := (Below.refl _ w).alloc (Nat.le_refl _) _
  have bU := Boxed.new w 22 (.slice A n c)
  have HN := Lib.hid (nearM_any (downN up) (downN_lt64 up) w.heap.size a b _ (ht.below hB0) (fun c' w1 h1 => meet1_any up A n c w.heap.size c' w1 (h.below (below_step hB0 h1)) hn (boxed_below bU h1).cell))
  rw [meet_near] at HN
  have HB := Lib.hid hB0
  clear h bU hB0 ht
  go_enter Tryd.func16, Tryd.ntmps16
  go_wp2_with (go_at_call 33; refine HN.out.mono ?_; rintro e w1 ⟨rfl, h1⟩; have B1 := Lib.hid (below_step HB.out h1); clear h1)
  go_ret
  exact ⟨rfl, B1.out⟩

end Go.Proofs.YtilbjanjmmpkkaaDoor
