/- The walk of the law OctetPuts. -/
import Derived.Test.YtcobakgiahkeaaaRefa
import Derived.Deep.RegionWith
import Derived.BigQuiet
namespace Go.Proofs.Ytcobakgiahkeaaa
open Go.RowKit
set_option linter.unusedVariables false

/-- The bytes of a number, at whatever size. -/
def numX (x : Nat) (size : Int) : List UInt8 := if size < 1 ∨ 8 < size then [] else numB x size.toNat
theorem Num_x (x : Nat) (size : Int) (w : World) (hx : x < 18446744073709551616) : Calls Try.prog 9 #[.int .u64 x, .int .i64 size] w (Fresh w.heap.size (numX x size) w) := by
  unfold numX
  by_cases hs : size < 1 ∨ 8 < size
  · rw [if_pos hs]
    exact (Num_no x size w hs).mono fun e w' ⟨he, hw⟩ => ⟨none, 0, by rw [he]; rfl, Nat.le_refl _, Nat.zero_le _, Row.empty, by rw [hw]; exact Below.refl _ _⟩
  · rw [if_neg hs]
    obtain ⟨n, rfl⟩ : ∃ n : Nat, size = (n : Int) := ⟨size.toNat, by omega⟩
    exact Num_fresh x n w hx (by omega) (by omega)
theorem rNum_x (x : Nat) (size : Int) (w : World) (hx : x < 18446744073709551616) : Calls Try.prog 10 #[.int .u64 x, .int .i64 size] w fun e w' => e = .returned (.string ⟨(numX x size).toArray⟩) ∧ Below w.heap.size w w' := by
  unfold numX
  by_cases hs : size < 1 ∨ 8 < size
  · rw [if_pos hs]
    exact (rNum_no x size w hs).mono fun e w' ⟨he, hw⟩ => ⟨he, by rw [hw]; exact Below.refl _ _⟩
  · rw [if_neg hs]
    obtain ⟨n, rfl⟩ : ∃ n : Nat, size = (n : Int) := ⟨size.toNat, by omega⟩
    exact rNum_yes x n w hx (by omega) (by omega)

set_option maxHeartbeats 1000000 in
theorem walkPuts (x : Nat) (size : Int) (s : ByteArray) (w : World) (hx : x < 18446744073709551616) (hs : s.size ≤ 9223372036854775807) :
    Calls Try.prog 3 #[.int .u64 x, .int .i64 size, .string s] w fun e w' => e = .returned (.bool true) ∧ Below w.heap.size w w' := by
  by_cases hb : s.size ≤ 3000
  · have hb2 : (s.size : Int) ≤ 3000 := by omega
    go_enter Try.func3, Try.ntmps3
    go_wp2_with (go_at_call 8; refine (awake_any _).mono ?_; rintro e w0 ⟨rfl, b0⟩)
    go_region_with (first
      | (go_at_call 9; refine (Num_x x size _ hx).mono ?_; rintro e wN ⟨AN, cN, rfl, _, _, hN, bN⟩; have hvN := str_row (c := cN) rfl hN)
      | (go_at_call 10; refine (rNum_x x size _ hx).mono ?_; rintro e wR ⟨rfl, bR⟩; try (have hvN2 := str_row (c := cN) rfl (hN.below bR)))
      | (go_at_call 11; refine (Text_any s _ hb).mono ?_; rintro e wT ⟨AT, cT, rfl, _, _, hT, bT⟩; have hvT := str_row (c := cT) rfl hT)
      | (go_at_call 12; refine (rText_any s _ hb).mono ?_; rintro e wU ⟨rfl, bU⟩; try (have hvT2 := str_row (c := cT) rfl (hT.below bU))))
    all_goals
      go_wp2
      go_ret
      refine ⟨rfl, ?_⟩
      have d0 := b0.drew
      iterate 4 (refine below_step ?_ (by assumption))
      exact d0
  · have hb2 : (3000 : Int) < s.size := by omega
    go_enter Try.func3, Try.ntmps3
    go_wp2_with (go_at_call 8; refine (awake_any _).mono ?_; rintro e w0 ⟨rfl, b0⟩)
    go_ret
    exact ⟨rfl, b0⟩

end Go.Proofs.Ytcobakgiahkeaaa
