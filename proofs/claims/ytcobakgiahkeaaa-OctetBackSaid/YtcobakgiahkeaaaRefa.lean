/- The document's answers Num and Text: contracts, no statement. -/
import Derived.Test.YtcobakgiahkeaaaOca
namespace Go.Proofs.Ytcobakgiahkeaaa
open Go.RowKit
set_option linter.unusedVariables false

theorem numB_succ (x k : Nat) : numB x (k + 1) = UInt8.ofNat (x / 256 ^ k) :: numB x k := by
  apply List.ext_getElem?
  intro j
  rcases j with _ | j
  · rw [numB_at _ _ _ (by omega)]; simp
  · by_cases hj : j < k
    · rw [numB_at _ _ _ (by omega), List.getElem?_cons_succ, numB_at _ _ _ hj]
      have : k + 1 - 1 - (j + 1) = k - 1 - j := by omega
      rw [this]
    · rw [List.getElem?_eq_none (by rw [numB_len]; omega), List.getElem?_eq_none (by simp [numB_len]; omega)]
theorem str_cons (c : UInt8) (l : List UInt8) : (⟨#[c]⟩ : ByteArray) ++ ⟨l.toArray⟩ = ⟨(c :: l).toArray⟩ := by
  apply ByteArray.ext
  simp

theorem u64_eq {a b : Int} (h : a = b) : Value.int .u64 a = .int .u64 b := by rw [h]
theorem str_eq2 {a b : ByteArray} (h : a = b) : Value.string a = .string b := by rw [h]

theorem rNum_no (x : Nat) (size : Int) (w : World) (hs : size < 1 ∨ 8 < size) : Calls Try.prog 10 #[.int .u64 x, .int .i64 size] w fun e w' => e = .returned (.string ⟨#[]⟩) ∧ w = w' := by
  rcases hs with h | h
  · go_enter Try.func10, Try.ntmps10
    go_wp2
    go_ret
    exact ⟨rfl, rfl⟩
  · have h1 : 1 ≤ size := by omega
    go_enter Try.func10, Try.ntmps10
    go_wp2
    go_ret
    exact ⟨rfl, rfl⟩

theorem str_one (y : Nat) (W : World) : (convert 24 9 (.slice (some ⟨W.heap.size, 0, none⟩) 1 1)).run Try.prog (W.alloc (.cells #[.int .u8 ((y : Int) % 256)] 5)) = .ok (.string ⟨#[UInt8.ofNat y]⟩) (W.alloc (.cells #[.int .u8 ((y : Int) % 256)] 5)) := by
  have h := row_made W [UInt8.ofNat y]
  have e : (([UInt8.ofNat y] : List UInt8).map byteV).toArray = #[.int .u8 ((y : Int) % 256)] := by simp [byteV]
  rw [e] at h
  exact str_row (n := 1) (c := 1) rfl h

set_option maxHeartbeats 400000 in
theorem rNum_yes (x n : Nat) (w : World) (hx : x < 18446744073709551616) (h1 : 1 ≤ n) (h8 : n ≤ 8) :
    Calls Try.prog 10 #[.int .u64 x, .int .i64 n] w fun e w' => e = .returned (.string ⟨(numB x n).toArray⟩) ∧ Below w.heap.size w w' := by
  go_enter Try.func10, Try.ntmps10
  go_wp2
  go_loopw [0, 5, 6] (fun v s i wr => ∃ k : Nat, k ≤ n ∧ v = .int .u64 ((x / 256 ^ k : Nat) : Int) ∧ s = .string ⟨(numB x k).toArray⟩ ∧ i = .int .i64 k ∧ Below w.heap.size w wr) (fun _ _ i _ => n - (intOf i).toNat)
  case atStart => exact ⟨0, Nat.zero_le _, by simp, rfl, rfl, Below.refl _ _⟩
  case round =>
    obtain ⟨k, hk, rfl, rfl, rfl, hb⟩ := hrel
    have HB := Lib.hid hb
    clear hb
    by_cases hlt : k < n
    · obtain ⟨y, hy⟩ : ∃ y, y = x / 256 ^ k := ⟨_, rfl⟩
      have hy2 : y ≤ x := by rw [hy]; exact Nat.div_le_self _ _
      have hs1 := str_one y
      rw [← hy]
      have HY := Lib.hid hy
      clear hy
      have hl : (numB x k).length ≤ 8 := by rw [numB_len]; omega
      go_wp2
      go_roundw
      case rel => exact ⟨k + 1, by omega, u64_eq (by rw [HY.out, Nat.pow_succ, ← Nat.div_div_eq_div_mul]; rfl), str_eq2 (by rw [str_cons, numB_succ, ← HY.out]), by go_num, (HB.out.alloc HB.out.size _)⟩
      case measure => simp [intOf]; omega
    · go_wp2
      go_ret
      have hk' : k = n := by omega
      subst hk'
      exact ⟨rfl, HB.out⟩

theorem ret_str {a b : ByteArray} (h : a = b) : Ending.returned (.string a) = .returned (.string b) := by rw [h]
theorem str_text (m : Nat) (s : ByteArray) (hm : m = s.data.toList.length) : (⟨([UInt8.ofNat m] : List UInt8).toArray⟩ : ByteArray) ++ s = ⟨(UInt8.ofNat s.data.toList.length :: s.data.toList).toArray⟩ := by
  subst hm
  apply ByteArray.ext
  simp
/-- Text: the same bytes. -/
theorem rText_any (s : ByteArray) (w : World) (hs : s.size ≤ 3000) :
    Calls Try.prog 12 #[.string s] w fun e w' => e = .returned (.string ⟨(textB s.data.toList).toArray⟩) ∧ Below w.heap.size w w' := by
  have hsz : s.size = s.data.toList.length := rfl
  have HZ := Lib.hid hsz
  clear hsz
  by_cases hb : s.size ≤ 255
  · have HT : Hid (textB s.data.toList = UInt8.ofNat s.data.toList.length :: s.data.toList) := by
      unfold textB
      rw [List.take_of_length_le (by have := HZ.out; omega)]
      exact rfl
    have hl : (numB s.size 1).length ≤ 1 := by rw [numB_len]; omega
    go_enter Try.func12, Try.ntmps12
    go_wp2_with (first | (go_at_call 10; refine (rNum_yes s.size 1 _ (by omega) (by omega) (by omega)).mono ?_; rintro e w1 ⟨rfl, h1⟩; have H1 := Lib.hid h1; clear h1))
    go_ret
    refine ⟨ret_str ?_, H1.out⟩
    rw [HT.out, num_one _ hb, str_text]
    exact HZ.out
  · have hE : (s.extract 0 255).data.toList = s.data.toList.take 255 := by simp [ByteArray.data_extract]
    have hE2 : (s.extract 0 255).size = (s.data.toList.take 255).length := by rw [← hE]; rfl
    have hm : min 255 s.size = (s.data.toList.take 255).length := by rw [List.length_take, ← HZ.out]
    have hm2 : min 255 s.size ≤ 255 := Nat.min_le_left _ _
    have h3 : (s.extract 0 255).size ≤ 255 := by rw [hE2]; simp; omega
    have hl : (numB (min 255 s.size) 1).length ≤ 1 := by rw [numB_len]; omega
    have H1 := Lib.hid hE
    have H2 := Lib.hid hE2
    have H3 := Lib.hid hm
    clear hE hE2 hm
    go_enter Try.func12, Try.ntmps12
    go_wp2_with (first | (go_at_call 10; refine (rNum_yes (min 255 s.size) 1 _ (by omega) (by omega) (by omega)).mono ?_; rintro e w1 ⟨rfl, h1⟩; have B1 := Lib.hid h1; clear h1))
    go_ret
    refine ⟨ret_str ?_, B1.out⟩
    unfold textB
    rw [num_one _ hm2, ← H1.out, str_text]
    rw [H3.out, H1.out]

end Go.Proofs.Ytcobakgiahkeaaa
