/- Package lattice: isLabel, labels, above, Leq, Down: contracts, no statement. -/
import Derived.Test.YtbgpjboefnacgaaLate
import Derived.Deep.RegionHeld3
namespace Go.Proofs.Ytbgpjboefnacgaa
open Go.RowKit
set_option linter.unusedVariables false

def isLab (n : Nat) (c : Int) : Bool := decide (0 ≤ c ∧ c < n ∧ n ≤ 64)
theorem isLabel_any (A : Option Addr) (n k : Nat) (c : Int) (w : World) :
    Calls Try.prog 47 #[.slice A n k, .int .i64 c] w fun e w' => e = .returned (.bool (isLab n c)) ∧ w = w' := by
  by_cases h0 : 0 ≤ c
  · by_cases h1 : c < n
    · by_cases h2 : n ≤ 64
      · rw [show isLab n c = true by simp [isLab]; omega]
        go_enter Try.func47, Try.ntmps47
        go_wp2
        go_ret
        exact ⟨ret_bool (by simp; omega), rfl⟩
      · rw [show isLab n c = false by simp [isLab]; omega]
        go_enter Try.func47, Try.ntmps47
        go_wp2
        go_ret
        exact ⟨ret_bool (by simp; omega), rfl⟩
    · rw [show isLab n c = false by simp [isLab]; omega]
      go_enter Try.func47, Try.ntmps47
      go_wp2
      go_ret
      exact ⟨rfl, rfl⟩
  · rw [show isLab n c = false by simp [isLab]; omega]
    go_enter Try.func47, Try.ntmps47
    go_wp2
    go_ret
    exact ⟨rfl, rfl⟩

theorem wrap_of {x : Int} (h0 : 0 ≤ x) (h : x < 18446744073709551616) : IntKind.u64.wrap x = x := by
  rw [IntKind.wrap_u64]
  omega
theorem labels_num (n : Nat) (hn : n ≤ 64) : IntKind.u64.wrap (IntKind.u64.wrap (2 ^ n) - 1) = ((2 ^ n - 1 : Nat) : Int) := by
  by_cases h : n = 64
  · subst h
    rfl
  · have h1 : (2 : Nat) ^ n ≤ 2 ^ 63 := Nat.pow_le_pow_right (by omega) (by omega)
    have h2 : 0 < (2 : Nat) ^ n := Nat.pow_pos (by omega)
    have e : (2 : Int) ^ n = ((2 ^ n : Nat) : Int) := by simp
    rw [e]
    generalize 2 ^ n = y at h1 h2
    have w1 : IntKind.u64.wrap (y : Int) = (y : Int) := wrap_of (by omega) (by omega)
    have w2 : IntKind.u64.wrap ((y : Int) - 1) = (y : Int) - 1 := wrap_of (by omega) (by omega)
    rw [w1, w2]
    omega
theorem labels_any (A : Option Addr) (n k : Nat) (w : World) (hn : n ≤ 64) :
    Calls Try.prog 57 #[.slice A n k] w fun e w' => e = .returned (.int .u64 ((2 ^ n - 1 : Nat) : Int)) ∧ w = w' := by
  go_enter Try.func57, Try.ntmps57
  go_wp2
  go_ret
  exact ⟨ret_u64 (labels_num n hn), rfl⟩

/-! What a label may flow to, as bits. -/
theorem above_in (up : List Nat) (i : Nat) (h : up.length ≤ 64) (hi : i < up.length) (hx : up[i] < 2 ^ 64) : up[i] &&& (2 ^ up.length - 1) = aboveN up (i : Int) := by
  unfold aboveN
  apply bits_eq
  intro j
  rw [Nat.testBit_and, Nat.testBit_two_pow_sub_one]
  by_cases hj : j < up.length
  · rw [leqZ_at h hi hj]
    simp [hj]
  · simp [hj]
theorem above_out (up : List Nat) (a : Int) (h : isLab up.length a = false) : aboveN up a = 0 := by
  unfold aboveN
  symm
  apply bits_eq
  intro j
  rw [leqZ_out (by simp [isLab] at h; omega)]
  simp
theorem aboveN_lt (up : List Nat) (a : Int) (h : up.length ≤ 64) : aboveN up a < 2 ^ 64 := Nat.lt_of_lt_of_le (mask_lt _ _) (Nat.pow_le_pow_right (by omega) h)
theorem aboveN_bit (up : List Nat) (a : Int) (j : Nat) : (aboveN up a).testBit j = leqZ up a j := by
  unfold aboveN
  rw [mask_bit]
  by_cases hj : j < up.length
  · simp [hj]
  · rw [leqZ_out (by omega)]
    simp
theorem mask_none {p : Nat → Bool} {n : Nat} (h : ∀ i, p i = false) : mask p n = 0 := by
  symm
  apply bits_eq
  intro i
  simp [h]
theorem aboveN_lt64 (up : List Nat) (a : Int) : aboveN up a < 2 ^ 64 := by
  by_cases h : up.length ≤ 64
  · exact aboveN_lt up a h
  · unfold aboveN
    rw [mask_none fun i => leqZ_out (by omega)]
    decide
theorem downN_bit (up : List Nat) (a : Int) (j : Nat) : (downN up a).testBit j = leqZ up j a := by
  unfold downN
  rw [mask_bit]
  by_cases hj : j < up.length
  · simp [hj]
  · rw [leqZ_out (by omega)]
    simp
set_option maxHeartbeats 1000000 in
theorem above_any (up : List Nat) (A : Option Addr) (n k : Nat) (a : Int) (w : World) (h : ArgU w A n k up) :
    Calls Try.prog 48 #[.slice A n k, .int .i64 a] w fun e w' => e = .returned (.int .u64 (aboveN up a : Int)) ∧ Below w.heap.size w w' := by
  have HL := Lib.hid (fun w1 => isLabel_any A n k a w1)
  have hlen := h.len
  by_cases hl : isLab n a = true
  · have ha : 0 ≤ a ∧ a < n ∧ n ≤ 64 := by simpa [isLab] using hl
    obtain ⟨i, rfl⟩ : ∃ i : Nat, a = i := ⟨a.toNat, by omega⟩
    have hi : i < up.length := by omega
    obtain ⟨g, off, rfl, hc⟩ := h.reads.at_ hi
    have hx := h.big up[i] (List.getElem_mem hi)
    have HE := Lib.hid (above_in up i (by omega) hi hx)
    have HB := Lib.hid (fun w1 => labels_any (some ⟨g, off, none⟩) n k w1 ha.2.2)
    rw [← hlen] at HE
    rw [hl] at HL
    generalize up[i] = x at hc hx HE
    generalize aboveN up (i : Int) = r at HE
    have HX := Lib.hid hx
    have HY : Hid (2 ^ n - 1 < 2 ^ 64) := Lib.hid (by
      have := Nat.pow_le_pow_right (n := 2) (by omega) ha.2.2
      have := Nat.pow_pos (n := n) (show 0 < 2 by omega)
      omega)
    generalize 2 ^ n - 1 = y at HB HE HY
    have hi0 : (0 : Int) ≤ (i : Int) := by omega
    have hi1 : (i : Int) < (n : Int) := by omega
    clear h hx hlen hi hl ha
    go_enter Try.func48, Try.ntmps48
    go_wp2_with (go_at_call 47; refine (HL.out _).mono ?_; rintro e w' ⟨rfl, rfl⟩)
    have hcd : w.drew.cell? ⟨g, off + i, none⟩ = some (.int .u64 (x : Int)) := hc
    go_region_held3 (fun w' => w'.cell? ⟨g, off + i, none⟩ = some (.int .u64 (x : Int))) (first | go_keep | exact hcd | assumption) (first | (go_at_call 57; refine (HB.out _).mono ?_; rintro e w' ⟨rfl, rfl⟩))
    go_wp2
    go_ret
    exact ⟨ret_u64 (by rw [u64_and_nat x y HX.out HY.out, HE.out]), (Below.refl _ _).drew⟩
  · have hl2 : isLab n a = false := by simpa using hl
    have HE := Lib.hid (above_out up a (by rw [← hlen]; exact hl2))
    rw [hl2] at HL
    clear h hlen hl hl2
    go_enter Try.func48, Try.ntmps48
    go_wp2_with (go_at_call 47; refine (HL.out _).mono ?_; rintro e w' ⟨rfl, rfl⟩)
    go_ret
    exact ⟨ret_u64 (by rw [HE.out]; rfl), Below.refl _ _⟩


theorem shr_bit (x j : Nat) {v : Bool} (hx : x < 2 ^ 64) (hE : Hid (x.testBit j = v)) (hH : Hid ((x / 2 ^ j % 2 == 1) = x.testBit j)) : (bits .and .u64 ((x : Int) / 2 ^ j) 1 == 1) = v := by
  have e : (x : Int) / 2 ^ j = ((x / 2 ^ j : Nat) : Int) := by simp
  have hlt : x / 2 ^ j < 2 ^ 64 := Nat.lt_of_le_of_lt (Nat.div_le_self _ _) hx
  have := u64_and_nat (x / 2 ^ j) 1 hlt (by decide)
  rw [e]
  have e1 : ((1 : Nat) : Int) = 1 := rfl
  rw [e1] at this
  rw [this, Nat.and_one_is_mod, ← hE.out, ← hH.out, Bool.eq_iff_iff]
  simp
  omega
set_option maxHeartbeats 1000000 in
theorem leq_any (up : List Nat) (A : Option Addr) (n k : Nat) (a b : Int) (w : World) (h : ArgU w A n k up) :
    Calls Try.prog 31 #[.slice A n k, .int .i64 a, .int .i64 b] w (BoolEnd (leqZ up a b) w) := by
  have HL := Lib.hid (fun w1 => isLabel_any A n k b w1)
  have hlen := h.len
  by_cases hl : isLab n b = true
  · have hb : 0 ≤ b ∧ b < n ∧ n ≤ 64 := by simpa [isLab] using hl
    obtain ⟨j, rfl⟩ : ∃ j : Nat, b = j := ⟨b.toNat, by omega⟩
    have HA := Lib.hid (above_any up A n k a w h)
    have HE := Lib.hid (aboveN_bit up a j)
    have hx := aboveN_lt up a (by omega)
    rw [hl] at HL
    have HH := Lib.hid (half_bit (aboveN up a) j)
    generalize aboveN up a = x at HA HE HH hx
    clear h hlen hl
    go_enter Try.func31, Try.ntmps31
    go_wp2_with (first | (go_at_call 47; refine (HL.out _).mono ?_; rintro e w' ⟨rfl, rfl⟩) | (go_at_call 48; refine HA.out.mono ?_; rintro e w1 ⟨rfl, h1⟩; have B1 := Lib.hid h1; clear h1))
    go_ret
    exact ⟨ret_bool (shr_bit x j hx HE HH), B1.out⟩
  · have hl2 : isLab n b = false := by simpa using hl
    rw [hl2] at HL
    have HE := Lib.hid (leqZ_out (up := up) (a := a) (b := b) (by simp [isLab] at hl2; omega))
    clear h hlen hl hl2
    go_enter Try.func31, Try.ntmps31
    go_wp2_with (go_at_call 47; refine (HL.out _).mono ?_; rintro e w' ⟨rfl, rfl⟩)
    go_ret
    exact ⟨ret_bool HE.out.symm, Below.refl _ _⟩


theorem shl_num (k : Nat) (hk : k < 64) : IntKind.u64.wrap (2 ^ k) = ((2 ^ k : Nat) : Int) := by
  have h1 : (2 : Nat) ^ k ≤ 2 ^ 63 := Nat.pow_le_pow_right (by omega) (by omega)
  have e : (2 : Int) ^ k = ((2 ^ k : Nat) : Int) := by simp
  rw [e]
  generalize 2 ^ k = y at h1
  exact wrap_of (by omega) (by omega)
theorem or_pow (m k : Nat) (hm : m < 2 ^ k) (hk : k < 64) : bits .or .u64 (m : Int) (IntKind.u64.wrap (2 ^ k)) = ((m + 2 ^ k : Nat) : Int) := by
  have h1 : (2 : Nat) ^ k ≤ 2 ^ 63 := Nat.pow_le_pow_right (by omega) (by omega)
  rw [shl_num k hk, u64_or_nat m (2 ^ k) (by omega) (by omega)]
  have := Nat.two_pow_add_eq_or_of_lt hm 1
  rw [Nat.mul_one] at this
  rw [Nat.or_comm, ← this, Nat.add_comm]
set_option maxHeartbeats 1000000 in
theorem down_any (up : List Nat) (A : Option Addr) (n c : Nat) (a : Int) (w : World) (h : ArgU w A n c up) (hn : n ≤ 1000000) :
    Calls Try.prog 49 #[.slice A n c, .int .i64 a] w (U64End (downN up a) w) := by
  have HL := Lib.hid (fun (i : Int) (w1 : World) (h1 : Below w.heap.size w w1) => leq_any up A n c i a w1 (h.below h1))
  have HN := Lib.hid h.len
  clear h
  go_enter Try.func49, Try.ntmps49
  go_wp2
  go_loopw [5, 9] (fun v i wr => ∃ k : Nat, k ≤ n ∧ i = .int .i64 k ∧ v = .int .u64 (mask (fun i => leqZ up i a) k : Int) ∧ Below w.heap.size w wr) (fun _ i _ => n - (intOf i).toNat)
  case atStart => exact ⟨0, Nat.zero_le _, rfl, rfl, Below.refl _ _⟩
  case round =>
    obtain ⟨k, hk, rfl, rfl, hB⟩ := hrel
    have HB := Lib.hid hB
    clear hB
    by_cases hlt : k < n
    · have HC := Lib.hid (HL.out (k : Int) wr HB.out)
      have HM := Lib.hid (mask_more (fun i => leqZ up i a) k)
      have hml := mask_lt (fun i => leqZ up i a) k
      have ho : leqZ up k a = true → k < 64 := fun hh => by
        obtain ⟨_, _, h3⟩ := leqZ_iff.1 hh
        have := (lq_iff.1 h3).1
        have := HN.out
        omega
      have HOR := Lib.hid (or_pow (mask (fun i => leqZ up i a) k) k hml)
      generalize mask (fun i => leqZ up i a) k = m at HM HOR ⊢
      clear hml
      generalize leqZ up k a = v at HC HM ho
      cases v
      · clear ho HOR
        go_wp2_with (go_at_call 31; refine HC.out.mono ?_; rintro e w1 ⟨rfl, h1⟩; have B1 := Lib.hid (below_step HB.out h1); clear h1)
        go_roundw
        case rel => exact ⟨k + 1, by omega, by go_num, u64_eq' (by rw [HM.out]; simp), B1.out⟩
        case measure => simp [intOf]; omega
      · have hk64 := ho rfl
        have HS := Lib.hid (HOR.out hk64)
        rw [if_pos rfl] at HM
        clear ho HOR
        go_wp2_with (go_at_call 31; refine HC.out.mono ?_; rintro e w1 ⟨rfl, h1⟩; have B1 := Lib.hid (below_step HB.out h1); clear h1)
        go_roundw
        case rel => exact ⟨k + 1, by omega, by go_num, u64_eq' (by rw [HM.out]; exact HS.out), B1.out⟩
        case measure => simp [intOf]; omega
    · obtain rfl : k = n := by omega
      have e : mask (fun i => leqZ up i a) k = downN up a := by unfold downN; rw [HN.out]
      rw [e]
      clear e
      obtain ⟨w5, hw5⟩ : ∃ w5 : World, w5 = wr := ⟨_, rfl⟩
      subst hw5
      go_wp2
      go_ret
      exact ⟨rfl, HB.out⟩

def downs (up : List Nat) (p : Nat) : List Nat := (List.range up.length).map fun i : Nat => if i < p then downN up (i : Int) else 0
theorem downs_len (up : List Nat) (p : Nat) : (downs up p).length = up.length := by simp [downs]
theorem downs_next (up : List Nat) (p : Nat) : downs up (p + 1) = (downs up p).set p (downN up (p : Int)) := by
  apply List.ext_getElem (by simp [downs])
  intro i h1 h2
  rw [List.getElem_set]
  simp only [downs, List.getElem_map, List.getElem_range]
  by_cases e : p = i
  · subst e; simp
  · rw [if_neg e]
    by_cases h : i < p
    · rw [if_pos h, if_pos (by omega)]
    · rw [if_neg h, if_neg (by omega)]
theorem downs_zero (up : List Nat) : downs up 0 = List.replicate up.length 0 := by
  apply List.ext_getElem (by simp [downs])
  intro i h1 h2
  simp [downs]

end Go.Proofs.Ytbgpjboefnacgaa
