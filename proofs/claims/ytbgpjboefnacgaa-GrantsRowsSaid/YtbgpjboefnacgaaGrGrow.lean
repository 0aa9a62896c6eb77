/- The walk of the law GrantsGrow. -/
import Derived.Test.YtbgpjboefnacgaaGrTells
namespace Go.Proofs.Ytbgpjboefnacgaa
open Go.RowKit
set_option linter.unusedVariables false

/-- What may flow to the first k of what is asked. -/
def downsN (up : List Nat) (x k : Nat) : Nat := mask (fun a => (List.range k).any fun i => x.testBit i && lq up a i) up.length
theorem gdowns_zero (up : List Nat) (x : Nat) : downsN up x 0 = 0 := by
  apply Nat.eq_of_testBit_eq
  intro i
  unfold downsN
  rw [mask_bit]
  simp
theorem gdowns_yes (up : List Nat) (x k : Nat) (h : x.testBit k = true) : downsN up x (k + 1) = downsN up x k ||| downN up k := by
  apply Nat.eq_of_testBit_eq
  intro i
  unfold downsN downN
  rw [Nat.testBit_or, mask_bit, mask_bit, mask_bit, List.range_succ, List.any_append, leqZ_nat]
  simp [h]
  cases decide (i < up.length) <;> simp
theorem gdowns_no (up : List Nat) (x k : Nat) (h : x.testBit k = false) : downsN up x (k + 1) = downsN up x k := by
  apply Nat.eq_of_testBit_eq
  intro i
  unfold downsN
  rw [mask_bit, mask_bit, List.range_succ, List.any_append]
  simp [h]
theorem gdowns_lt (up : List Nat) (x k : Nat) : downsN up x k < 2 ^ up.length := mask_lt _ _
theorem gdowns_all (up : List Nat) (x : Nat) (L : IsLat up) : downsN up x up.length = srcN up [] x := by
  apply srcN_is
  intro a
  unfold downsN
  rw [mask_bit]
  simp only [Bool.and_eq_true, decide_eq_true_eq, List.any_eq_true, List.mem_range]
  constructor
  · rintro ⟨_, i, hi, hx, hl⟩
    exact .down (.base hi hx) hl
  · intro h
    refine ⟨h.lt, ?_⟩
    refine src_least (fun a => ∃ i, i < up.length ∧ x.testBit i = true ∧ lq up a i = true) ?_ ?_ ?_ a h
    · intro i hi hx
      exact ⟨i, hi, hx, lq_iff.2 ⟨L.1.2, hi, hi, L.2.2.1 i hi⟩⟩
    · rintro a b ⟨i, hi, hx, hl⟩ hab
      obtain ⟨_, h1, h2, h3⟩ := lq_iff.1 hab
      obtain ⟨_, _, _, h4⟩ := lq_iff.1 hl
      exact ⟨i, hi, hx, lq_iff.2 ⟨L.1.2, h1, hi, L.2.2.2.2.1 a h1 b h2 h3 i hi h4⟩⟩
    · intro g hg
      simp at hg
theorem ArgG.tail {w : World} {b off n c : Nat} {l : List G} (h : ArgG w (some ⟨b, off, none⟩) n c l) (h1 : 1 < n) : ArgG w (some ⟨b, off + 3, none⟩) (n - 1) (c - 1) (l.drop 1) := by
  have hl := h.len
  refine ⟨by rw [List.length_drop]; omega, fun hn => ?_, fun hk' a ha => ?_, by have := h.room; omega, by have := h.most; omega⟩
  · obtain ⟨g, off', hA, hc⟩ := h.reads (by rw [cellsG_len]; omega)
    injection hA with hA
    injection hA with q1 q2
    subst q1 q2
    refine ⟨b, off + 3, rfl, fun j u hj => ?_⟩
    rw [cellsG_drop, List.getElem?_drop] at hj
    have := hc _ _ hj
    rwa [show off + (3 * 1 + j) = off + 3 + j by omega] at this
  · injection ha with ha
    subst ha
    exact h.old (by omega) ⟨b, off, none⟩ rfl

theorem ArgG.tail1 {w : World} {b off n c : Nat} {l : List G} (h : ArgG w (some ⟨b, off, none⟩) n c l) (h0 : 0 < n) : ArgG w (if c = 1 then some ⟨b, off, none⟩ else some ⟨b, off + 3, none⟩) (n - 1) (c - 1) (l.drop 1) := by
  have hl := h.len
  by_cases h1 : 1 < n
  · rw [if_neg (by have := h.room; omega)]
    exact h.tail h1
  · obtain rfl : n = 1 := by omega
    have e : l.drop 1 = [] := List.drop_of_length_le (by omega)
    rw [e]
    exact ⟨rfl, fun h => absurd h (by simp [cellsG]), fun h => absurd h (by omega), Nat.zero_le _, by have := h.most; omega⟩

set_option maxRecDepth 100000 in
set_option maxHeartbeats 2000000 in
theorem walkGrGrow (A B : Option Addr) (n c m d x : Nat) (up : List Nat) (l : List G) (w : World) (ht : Base4 w) (hu : ArgU w A n c up) (hl : ArgG w B m d l) (hx : x < 2 ^ 64) :
    Calls Try.prog 5 #[.slice A n c, .slice B m d, .int .u64 x] w fun e w' => e = .returned (.bool true) ∧ Below w.heap.size w w' := by
  have HT := Lib.hid ht
  have HU := Lib.hid hu
  have HG := Lib.hid hl
  clear ht hu hl
  by_cases hg : 12 < n
  · have e1 : decide (12 < (n : Int)) = true := by simp; omega
    go_enter Try.func5, Try.ntmps5
    go_wp2_with (go_at_call 8; refine (awake04_any _ HT.out).mono ?_; rintro e w0 ⟨rfl, h0⟩; have B0 := Lib.hid h0; clear h0)
    go_ret
    exact ⟨rfl, B0.out⟩
  have e1 : decide (12 < (n : Int)) = false := by simp; omega
  by_cases hg2 : 60 < m
  · have e2 : decide (60 < (m : Int)) = true := by simp; omega
    go_enter Try.func5, Try.ntmps5
    go_wp2_with (go_at_call 8; refine (awake04_any _ HT.out).mono ?_; rintro e w0 ⟨rfl, h0⟩; have B0 := Lib.hid h0; clear h0)
    go_ret
    exact ⟨rfl, B0.out⟩
  have e2 : decide (60 < (m : Int)) = false := by simp; omega
  have HC := Lib.hid (fun w1 (h1 : Below w.heap.size w w1) => r3Check_any up A n c w1 (HU.out.below h1) (by omega))
  by_cases hc : IsLat up
  · rw [checkB_yes hc] at HC
    have HS := Lib.hid (fun w1 (h1 : Below w.heap.size w w1) => gSources_any up A B n c m d x l w1 (HT.out.below h1) hc (HU.out.below h1) (HG.out.below h1) (by omega) hx)
    have HS0 := Lib.hid (fun w1 (h1 : Below w.heap.size w w1) => gSources_any up A none n c 0 0 x [] w1 (HT.out.below h1) hc (HU.out.below h1) (argG_nil _) (by omega) hx)
    have hslt : srcN up l x < 2 ^ 64 := Nat.lt_of_lt_of_le (srcN_lt up l x) (Nat.pow_le_pow_right (by omega) hc.1.2)
    have HSS := Lib.hid (fun w1 (h1 : Below w.heap.size w w1) => gSources_any up A B n c m d (srcN up l x) l w1 (HT.out.below h1) hc (HU.out.below h1) (HG.out.below h1) (by omega) hslt)
    simp only [srcN_again] at HSS
    have hs0 : srcN up [] x < 2 ^ 64 := Nat.lt_of_lt_of_le (srcN_lt up [] x) (Nat.pow_le_pow_right (by omega) hc.1.2)
    by_cases hm : 0 < m
    · obtain ⟨b, off, rfl, -⟩ := HG.out.reads.gat (i := 0) (by have := HG.out.len; omega)
      have HSt := Lib.hid (fun w1 (h1 : Below w.heap.size w w1) A' n' c' (ha : ArgG w1 A' n' c' (l.drop 1)) (hn : n' ≤ 1000000) => gSources_any up A A' n c n' c' x (l.drop 1) w1 (HT.out.below h1) hc (HU.out.below h1) ha hn hx)
      have HVT : Hid (bits .or .u64 (srcN up (l.drop 1) x : Int) (srcN up l x : Int) = (srcN up l x : Int)) := Lib.hid (by
        have hst : srcN up (l.drop 1) x < 2 ^ 64 := Nat.lt_of_lt_of_le (srcN_lt up (l.drop 1) x) (Nat.pow_le_pow_right (by omega) hc.1.2)
        rw [u64_or_nat _ _ hst hslt, Nat.or_comm, srcN_or up (l.drop 1) l x x (fun g hg => List.mem_of_mem_drop hg) (fun i hi hx => .base hi hx)])
      have HTl : Hid (∀ w1, Below w.heap.size w w1 → ArgG w1 (some ⟨b, off, none⟩) m d l) := Lib.hid (fun w1 h1 => HG.out.below h1)
      have HSu := Lib.hid (fun w1 (h1 : Below w.heap.size w w1) A' (hA : (if d = 1 then some ⟨b, off, none⟩ else some ⟨b, off + 3, none⟩) = A') => HSt.out w1 h1 A' (m - 1) (d - 1) (by rw [← hA]; exact (HTl.out w1 h1).tail1 hm) (by omega))
      clear HSt HTl
      generalize srcN up (l.drop 1) x = vt at HSu HVT
      have em : decide (0 < (m : Int)) = true := by simp; omega
      go_enter Try.func5, Try.ntmps5
      go_wp2_with (first
        | (go_at_call 8; refine (awake04_any _ HT.out).mono ?_; rintro e w0 ⟨rfl, h0⟩; have B0 := Lib.hid h0; clear h0)
        | (go_at_call 9; refine (HC.out _ B0.out).mono ?_; rintro e w1 ⟨rfl, h1⟩; have B1 := Lib.hid (below_step B0.out h1); clear h1)
        | (go_at_call 18; (with_reducible refine (HS.out _ B1.out).mono ?_); rintro e w2 ⟨rfl, h1⟩; have B2 := Lib.hid (below_step B1.out h1); clear h1)
        | (go_at_call 18; obtain ⟨A', hA'⟩ : ∃ a : Option Addr, (if d = 1 then some ⟨b, off, none⟩ else some ⟨b, off + 3, none⟩) = a := ⟨_, rfl⟩; rw [hA']; (with_reducible refine (HSu.out _ B2.out A' hA').mono ?_); clear hA'; rintro e w3 ⟨rfl, h1⟩; have B3 := Lib.hid (below_step B2.out h1); clear h1)
        | (go_at_call 18; (with_reducible refine (HS0.out _ B3.out).mono ?_); rintro e w4 ⟨rfl, h1⟩; have B4 := Lib.hid (below_step B3.out h1); clear h1))
      have BL := B4.out
      go_loopw [11, 12] (fun v i wr => ∃ k : Nat, k ≤ n ∧ i = .int .i64 k ∧ v = .int .u64 (downsN up x k : Nat) ∧ Below w.heap.size w wr) (fun _ i _ => n - (intOf i).toNat)
      case atStart => exact ⟨0, Nat.zero_le _, rfl, by rw [gdowns_zero]; rfl, BL⟩
      case round =>
        obtain ⟨k, hk, rfl, rfl, hB⟩ := hrel
        have BW := Lib.hid hB
        clear hB
        by_cases hlt : k < n
        · have HBit := Lib.hid (r3Bit_any x k wr hx (by omega))
          have HD := Lib.hid (r3Down_any up A n c k wr (HU.out.below BW.out) (by omega))
          cases hb : x.testBit k
          · rw [hb] at HBit
            have HV := Lib.hid (gdowns_no up x k hb)
            clear hb
            go_wp2_with (first
              | (go_at_call 25; refine HBit.out.mono ?_; rintro e w' ⟨rfl, rfl⟩))
            go_roundw
            case rel => exact ⟨k + 1, by omega, by go_num, by rw [HV.out], BW.out⟩
            case measure => simp [intOf]; omega
          · rw [hb] at HBit
            have HV := Lib.hid (gdowns_yes up x k hb)
            have hor := u64_or_nat (downsN up x k) (downN up k) (Nat.lt_of_lt_of_le (gdowns_lt up x k) (Nat.pow_le_pow_right (by omega) hc.1.2)) (Nat.lt_of_lt_of_le (mask_lt _ up.length) (Nat.pow_le_pow_right (by omega) hc.1.2))
            clear hb
            go_wp2_with (first
              | (go_at_call 25; refine HBit.out.mono ?_; rintro e w' ⟨rfl, rfl⟩)
              | (go_at_call 26; refine HD.out.mono ?_; rintro e w' ⟨rfl, rfl⟩))
            go_roundw
            case rel => exact ⟨k + 1, by omega, by go_num, by rw [HV.out], BW.out⟩
            case measure => simp [intOf]; omega
        · obtain rfl : k = n := by omega
          have hA : downsN up x k = srcN up [] x := by rw [HU.out.len]; exact gdowns_all up x hc
          have hx1 : ∀ (q : List G), ∀ i, i < up.length → x.testBit i = true → Src up q x i := fun q i hi hx => .base hi hx
          have ho1 : bits .or .u64 (srcN up l x : Int) (srcN up [] x : Int) = (srcN up l x : Int) := by
            rw [u64_or_nat _ _ hslt hs0, srcN_or up [] l x x (fun g hg => by simp at hg) (hx1 l)]
          have ho2 : bits .or .u64 (vt : Int) (srcN up l x : Int) = (srcN up l x : Int) := HVT.out
          clear hx1
          obtain ⟨w9, hw9⟩ : ∃ w9 : World, w9 = wr := ⟨_, rfl⟩
          subst hw9
          go_wp2_with (first
            | (go_at_call 18; (with_reducible refine (HSS.out _ BW.out).mono ?_); rintro e w5 ⟨rfl, h1⟩; have B5 := Lib.hid (below_step BW.out h1); clear h1))
          go_ret
          exact ⟨rfl, B5.out⟩
    · obtain rfl : m = 0 := by omega
      go_enter Try.func5, Try.ntmps5
      go_wp2_with (first
        | (go_at_call 8; refine (awake04_any _ HT.out).mono ?_; rintro e w0 ⟨rfl, h0⟩; have B0 := Lib.hid h0; clear h0)
        | (go_at_call 9; refine (HC.out _ B0.out).mono ?_; rintro e w1 ⟨rfl, h1⟩; have B1 := Lib.hid (below_step B0.out h1); clear h1)
        | (go_at_call 18; (with_reducible refine (HS.out _ B1.out).mono ?_); rintro e w2 ⟨rfl, h1⟩; have B2 := Lib.hid (below_step B1.out h1); clear h1)
        | (go_at_call 18; (with_reducible refine (HS0.out _ B2.out).mono ?_); rintro e w3 ⟨rfl, h1⟩; have B3 := Lib.hid (below_step B2.out h1); clear h1))
      have BL := B3.out
      have HVT : Hid (bits .or .u64 (srcN up l x : Int) (srcN up l x : Int) = (srcN up l x : Int)) := Lib.hid (by rw [u64_or_nat _ _ hslt hslt, Nat.or_self])
      go_loopw [11, 12] (fun v i wr => ∃ k : Nat, k ≤ n ∧ i = .int .i64 k ∧ v = .int .u64 (downsN up x k : Nat) ∧ Below w.heap.size w wr) (fun _ i _ => n - (intOf i).toNat)
      case atStart => exact ⟨0, Nat.zero_le _, rfl, by rw [gdowns_zero]; rfl, BL⟩
      case round =>
        obtain ⟨k, hk, rfl, rfl, hB⟩ := hrel
        have BW := Lib.hid hB
        clear hB
        by_cases hlt : k < n
        · have HBit := Lib.hid (r3Bit_any x k wr hx (by omega))
          have HD := Lib.hid (r3Down_any up A n c k wr (HU.out.below BW.out) (by omega))
          cases hb : x.testBit k
          · rw [hb] at HBit
            have HV := Lib.hid (gdowns_no up x k hb)
            clear hb
            go_wp2_with (first
              | (go_at_call 25; refine HBit.out.mono ?_; rintro e w' ⟨rfl, rfl⟩))
            go_roundw
            case rel => exact ⟨k + 1, by omega, by go_num, by rw [HV.out], BW.out⟩
            case measure => simp [intOf]; omega
          · rw [hb] at HBit
            have HV := Lib.hid (gdowns_yes up x k hb)
            have hor := u64_or_nat (downsN up x k) (downN up k) (Nat.lt_of_lt_of_le (gdowns_lt up x k) (Nat.pow_le_pow_right (by omega) hc.1.2)) (Nat.lt_of_lt_of_le (mask_lt _ up.length) (Nat.pow_le_pow_right (by omega) hc.1.2))
            clear hb
            go_wp2_with (first
              | (go_at_call 25; refine HBit.out.mono ?_; rintro e w' ⟨rfl, rfl⟩)
              | (go_at_call 26; refine HD.out.mono ?_; rintro e w' ⟨rfl, rfl⟩))
            go_roundw
            case rel => exact ⟨k + 1, by omega, by go_num, by rw [HV.out], BW.out⟩
            case measure => simp [intOf]; omega
        · obtain rfl : k = n := by omega
          have hA : downsN up x k = srcN up [] x := by rw [HU.out.len]; exact gdowns_all up x hc
          have hx1 : ∀ (q : List G), ∀ i, i < up.length → x.testBit i = true → Src up q x i := fun q i hi hx => .base hi hx
          have ho1 : bits .or .u64 (srcN up l x : Int) (srcN up [] x : Int) = (srcN up l x : Int) := by
            rw [u64_or_nat _ _ hslt hs0, srcN_or up [] l x x (fun g hg => by simp at hg) (hx1 l)]
          have ho2 : bits .or .u64 (srcN up l x : Int) (srcN up l x : Int) = (srcN up l x : Int) := HVT.out
          clear hx1
          obtain ⟨w9, hw9⟩ : ∃ w9 : World, w9 = wr := ⟨_, rfl⟩
          subst hw9
          go_wp2_with (first
            | (go_at_call 18; (with_reducible refine (HSS.out _ BW.out).mono ?_); rintro e w5 ⟨rfl, h1⟩; have B5 := Lib.hid (below_step BW.out h1); clear h1))
          go_ret
          exact ⟨rfl, B5.out⟩
  · rw [checkB_no hc] at HC
    go_enter Try.func5, Try.ntmps5
    go_wp2_with (first
      | (go_at_call 8; refine (awake04_any _ HT.out).mono ?_; rintro e w0 ⟨rfl, h0⟩; have B0 := Lib.hid h0; clear h0)
      | (go_at_call 9; refine (HC.out _ B0.out).mono ?_; rintro e w1 ⟨rfl, h1⟩; have B1 := Lib.hid (below_step B0.out h1); clear h1))
    go_ret
    exact ⟨rfl, B1.out⟩

end Go.Proofs.Ytbgpjboefnacgaa
