/- The document's Num: contracts, no statement. -/
import Derived.Test.YtlehajpadiiicaaDoorNum
namespace Go.Proofs.YtlehajpadiiicaaDoor
open Go.RowKit
set_option linter.unusedVariables false

theorem numB_succ (x k : Nat) : numB x (k + 1) = UInt8.ofNat (x / 256 ^ k) :: numB x k := by
  apply List.ext_getElem?
  intro j
  rcases j with _ | j
  · rw [numB_at _ _ _ (by omega)]; simp
  · by_cases hj : j < k
    · rw [numB_at _ _ _ (by omega), List.getElem?_cons_succ, numB_at _ _ _ hj]
      have : k + 1 - 1 - (j + 1) = k - 1 - j := by omega
      rw [this]
    · rw [List.getElem?_eq_none (by rw [numB_len]; omega), List.getElem?_eq_none (by simp [numB_len]; omega)]
theorem rNum_no (x : Nat) (size : Int) (w : World) (hs : size < 1 ∨ 8 < size) : Calls Tryd.prog 20 #[.int .u64 x, .int .i64 size] w fun e w' => e = .returned (.string ⟨#[]⟩) ∧ w = w' := by
  rcases hs with h | h
  · go_enter Tryd.func20, Tryd.ntmps20
    go_wp2
    go_ret
    exact ⟨rfl, rfl⟩
  · have h1 : 1 ≤ size := by omega
    go_enter Tryd.func20, Tryd.ntmps20
    go_wp2
    go_ret
    exact ⟨rfl, rfl⟩
theorem str_one (y : Nat) (W : World) : (convert 25 9 (.slice (some ⟨W.heap.size, 0, none⟩) 1 1)).run Tryd.prog (W.alloc (.cells #[.int .u8 ((y : Int) % 256)] 5)) = .ok (.string ⟨#[UInt8.ofNat y]⟩) (W.alloc (.cells #[.int .u8 ((y : Int) % 256)] 5)) := by
  have h := row_made W [UInt8.ofNat y]
  have e : (([UInt8.ofNat y] : List UInt8).map byteV).toArray = #[.int .u8 ((y : Int) % 256)] := by simp [byteV]
  rw [e] at h
  exact str_row (n := 1) (c := 1) rfl h
set_option maxHeartbeats 400000 in
theorem rNum_yes (x n : Nat) (w : World) (hx : x < 18446744073709551616) (h1 : 1 ≤ n) (h8 : n ≤ 8) :
    Calls Tryd.prog 20 #[.int .u64 x, .int .i64 n] w fun e w' => e = .returned (.string ⟨(numB x n).toArray⟩) ∧ Below w.heap.size w w' := by
  go_enter Tryd.func20, Tryd.ntmps20
  go_wp2
  go_loopw [0, 5, 6] (fun v s i wr => ∃ k : Nat, k ≤ n ∧ v = .int .u64 ((x / 256 ^ k : Nat) : Int) ∧ s = .string ⟨(numB x k).toArray⟩ ∧ i = .int .i64 k ∧ Below w.heap.size w wr) (fun _ _ i _ => n - (intOf i).toNat)
  case atStart => exact ⟨0, Nat.zero_le _, by simp, rfl, rfl, Below.refl _ _⟩
  case round =>
    obtain ⟨k, hk, rfl, rfl, rfl, hb⟩ := hrel
    have HB := Lib.hid hb
    clear hb
    by_cases hlt : k < n
    · obtain ⟨y, hy⟩ : ∃ y, y = x / 256 ^ k := ⟨_, rfl⟩
      have hy2 : y ≤ x := by rw [hy]; exact Nat.div_le_self _ _
      have hs1 := str_one y
      rw [← hy]
      have HY := Lib.hid hy
      clear hy
      have hl : (numB x k).length ≤ 8 := by rw [numB_len]; omega
      go_wp2
      go_roundw
      case rel => exact ⟨k + 1, by omega, u64_eq (by rw [HY.out, Nat.pow_succ, ← Nat.div_div_eq_div_mul]; rfl), str_eq2 (by rw [str_cons, numB_succ, ← HY.out]), by go_num, (HB.out.alloc HB.out.size _)⟩
      case measure => simp [intOf]; omega
    · go_wp2
      go_ret
      have hk' : k = n := by omega
      subst hk'
      exact ⟨rfl, HB.out⟩
theorem rNum_x (x : Nat) (size : Int) (w : World) (hx : x < 18446744073709551616) : Calls Tryd.prog 20 #[.int .u64 x, .int .i64 size] w fun e w' => e = .returned (.string ⟨(numX x size).toArray⟩) ∧ Below w.heap.size w w' := by
  unfold numX
  by_cases hs : size < 1 ∨ 8 < size
  · rw [if_pos hs]
    exact (rNum_no x size w hs).mono fun e w' ⟨he, hw⟩ => ⟨he, by rw [hw]; exact Below.refl _ _⟩
  · rw [if_neg hs]
    obtain ⟨n, rfl⟩ : ∃ n : Nat, size = (n : Int) := ⟨size.toNat, by omega⟩
    exact rNum_yes x n w hx (by omega) (by omega)

end Go.Proofs.YtlehajpadiiicaaDoor
