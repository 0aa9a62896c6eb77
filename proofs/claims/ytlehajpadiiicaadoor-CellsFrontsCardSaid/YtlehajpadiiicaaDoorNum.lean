/- octet.Num: contracts, no statement. -/
import Derived.Test.YtlehajpadiiicaaDoorMem
namespace Go.Proofs.YtlehajpadiiicaaDoor
open Go.RowKit
set_option linter.unusedVariables false

theorem isSize_yes (n : Int) (w : World) (h1 : 1 ≤ n) (h8 : n ≤ 8) : Calls Tryd.prog 33 #[.int .i64 n] w fun e w' => e = .returned (.bool true) ∧ w = w' := by
  go_enter Tryd.func33, Tryd.ntmps33
  go_wp2
  go_ret
  exact ⟨rfl, rfl⟩
theorem isSize_no (n : Int) (w : World) (h : n < 1 ∨ 8 < n) : Calls Tryd.prog 33 #[.int .i64 n] w fun e w' => e = .returned (.bool false) ∧ w = w' := by
  rcases h with h | h
  · have hd : decide (1 ≤ n) = false := by simp; omega
    go_enter Tryd.func33, Tryd.ntmps33
    go_wp2
    go_ret
    exact ⟨rfl, rfl⟩
  · have hd : decide (n ≤ 8) = false := by simp; omega
    go_enter Tryd.func33, Tryd.ntmps33
    go_wp2
    go_ret
    exact ⟨rfl, rfl⟩
/-- The document's bytes of a number: size of them, the highest first. -/
def numB (x n : Nat) : List UInt8 := (List.range n).map fun j => UInt8.ofNat (x / 256 ^ (n - 1 - j))
theorem numB_len (x n : Nat) : (numB x n).length = n := by simp [numB]
theorem numB_at (x n j : Nat) (hj : j < n) : (numB x n)[j]? = some (UInt8.ofNat (x / 256 ^ (n - 1 - j))) := by simp [numB, hj]
theorem byteV_ofNat (x k : Nat) : byteV (UInt8.ofNat (x / 256 ^ k)) = .int .u8 ((x : Int) / 2 ^ (8 * k) % 256) := by
  have h : (2 : Nat) ^ (8 * k) = 256 ^ k := by rw [Nat.pow_mul]
  have h2 : ((x : Int) / 2 ^ (8 * k) % 256) = ((x / 256 ^ k % 256 : Nat) : Int) := by
    rw [← h]
    simp
  rw [h2]
  simp [byteV]
theorem Num_no (x : Nat) (size : Int) (w : World) (hs : size < 1 ∨ 8 < size) : Calls Tryd.prog 26 #[.int .u64 x, .int .i64 size] w fun e w' => e = .returned (.slice none 0 0) ∧ w = w' := by
  have HS := Lib.hid hs
  clear hs
  go_enter Tryd.func26, Tryd.ntmps26
  go_wp2_with (first | (go_at_call 33; refine (isSize_no _ _ HS.out).mono ?_; rintro e w' ⟨rfl, rfl⟩))
  go_ret
  exact ⟨rfl, rfl⟩
theorem make_bytes (n : Nat) (hn : n ≤ 1000000) (w : World) : (Instr.makeSlice 25 (.int .i64 n) (.int .i64 n)).run Tryd.prog w = .ok (.slice (some ⟨w.heap.size, 0, none⟩) n n) (w.alloc (.cells (madeCells #[.int .u8 0] n) 5)) := by
  obtain ⟨i0, hi, hz0, hz1, hz2⟩ := info_parts u8info
  have := run_make (P := Tryd.prog) (w := w) 25 5 i0 (.int .u8 0) Tryd.underlying25 hi hz0 .i64 .i64 n n (by omega) (by omega) (by rw [hz2]; omega) (by omega)
  simp only [Int.toNat_natCast, hz1, Nat.mul_one] at this
  exact this
set_option maxHeartbeats 400000 in
theorem Num_yes (x n : Nat) (w : World) (hx : x < 18446744073709551616) (h1 : 1 ≤ n) (h8 : n ≤ 8) :
    Calls Tryd.prog 26 #[.int .u64 x, .int .i64 n] w fun e w' => e = .returned (.slice (some ⟨w.heap.size, 0, none⟩) n n) ∧ w.alloc (.cells ((numB x n).map byteV).toArray 5) = w' := by
  have hmk := make_bytes n (by omega)
  go_enter Tryd.func26, Tryd.ntmps26
  go_wp2_with (first | (go_at_call 33; refine (isSize_yes _ _ (by omega) (by omega)).mono ?_; rintro e w' ⟨rfl, rfl⟩))
  go_loopw [6, 14] (fun _ i wr => ∃ (k : Nat) (C : Array Value), k ≤ n ∧ i = .int .i64 k ∧ C.size = n ∧ (∀ j, n ≤ j + k → j < n → C[j]? = ((numB x n).map byteV)[j]?) ∧ wr = w.alloc (.cells C 5)) (fun _ i _ => n - (intOf i).toNat)
  case atStart => exact ⟨0, _, Nat.zero_le _, rfl, size_madeCells _ _, fun j h h' => absurd h (by omega), rfl⟩
  case round =>
    obtain ⟨k, C, hk, rfl, hC, hj, rfl⟩ := hrel
    by_cases hlt : k < n
    · have HC := Lib.hid hC
      have HJ := Lib.hid hj
      obtain ⟨u, hu⟩ : ∃ u, C[n - 1 - k]? = some u := ⟨_, Array.getElem?_eq_getElem (by omega)⟩
      have hcell : (w.alloc (.cells C 5)).cell? ⟨w.heap.size, n - 1 - k, none⟩ = some u := by rw [(Has.made w 5 C).cell]; exact hu
      clear hC hj hu
      go_wp2
      go_roundw
      case rel =>
        refine ⟨k + 1, _, by omega, by go_num, ?_, ?_, rfl⟩
        · simp [HC.out]
        · intro j h h'
          by_cases he : j = n - 1 - k
          · subst he
            rw [Array.getElem?_setIfInBounds_self_of_lt (by have := HC.out; omega), List.getElem?_map, numB_at x n _ h', Option.map_some]
            have e : n - 1 - (n - 1 - k) = k := by omega
            rw [e, byteV_ofNat]
          · rw [Array.getElem?_setIfInBounds_ne (by omega)]
            exact HJ.out j (by omega) h'
      case measure => simp [intOf]; omega
    · go_wp2
      go_ret
      refine ⟨rfl, ?_⟩
      have hk' : k = n := by omega
      subst hk'
      congr 2
      apply Array.ext_getElem?
      intro j
      by_cases hjn : j < k
      · rw [hj j (by omega) hjn]; simp
      · rw [Array.getElem?_eq_none (by simp [numB_len]; omega), Array.getElem?_eq_none (by omega)]
theorem num_one (m : Nat) (h : m ≤ 255) : numB m 1 = [UInt8.ofNat m] := by
  simp [numB, List.range_succ]
theorem Num_fresh (x n : Nat) (w : World) (hx : x < 18446744073709551616) (h1 : 1 ≤ n) (h8 : n ≤ 8) : Calls Tryd.prog 26 #[.int .u64 x, .int .i64 n] w (Fresh w.heap.size (numB x n) w) :=
  (Num_yes x n w hx h1 h8).mono fun e w' ⟨he, hw⟩ => ⟨some ⟨w.heap.size, 0, none⟩, n, by rw [he, numB_len], by rw [numB_len]; omega, by unfold maxLen; omega, hw ▸ row_made w _, hw ▸ (Below.refl _ w).alloc (Nat.le_refl _) _⟩
/-- The bytes of a number, at whatever size. -/
def numX (x : Nat) (size : Int) : List UInt8 := if size < 1 ∨ 8 < size then [] else numB x size.toNat
theorem Num_x (x : Nat) (size : Int) (w : World) (hx : x < 18446744073709551616) : Calls Tryd.prog 26 #[.int .u64 x, .int .i64 size] w (Fresh w.heap.size (numX x size) w) := by
  unfold numX
  by_cases hs : size < 1 ∨ 8 < size
  · rw [if_pos hs]
    exact (Num_no x size w hs).mono fun e w' ⟨he, hw⟩ => ⟨none, 0, by rw [he]; rfl, Nat.le_refl _, Nat.zero_le _, Row.empty, by rw [hw]; exact Below.refl _ _⟩
  · rw [if_neg hs]
    obtain ⟨n, rfl⟩ : ∃ n : Nat, size = (n : Int) := ⟨size.toNat, by omega⟩
    exact Num_fresh x n w hx (by omega) (by omega)

end Go.Proofs.YtlehajpadiiicaaDoor
