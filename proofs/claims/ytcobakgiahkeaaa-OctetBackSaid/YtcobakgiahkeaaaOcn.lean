/- Num and Text of package octet: contracts, no statement. -/
import Derived.Test.YtcobakgiahkeaaaOcm
namespace Go.Proofs.Ytcobakgiahkeaaa
open Go.RowKit
set_option linter.unusedVariables false

/-- The document's bytes of a number: size of them, the highest first. -/
def numB (x n : Nat) : List UInt8 := (List.range n).map fun j => UInt8.ofNat (x / 256 ^ (n - 1 - j))
theorem numB_len (x n : Nat) : (numB x n).length = n := by simp [numB]
theorem numB_at (x n j : Nat) (hj : j < n) : (numB x n)[j]? = some (UInt8.ofNat (x / 256 ^ (n - 1 - j))) := by simp [numB, hj]

theorem byteV_ofNat (x k : Nat) : byteV (UInt8.ofNat (x / 256 ^ k)) = .int .u8 ((x : Int) / 2 ^ (8 * k) % 256) := by
  have h : (2 : Nat) ^ (8 * k) = 256 ^ k := by rw [Nat.pow_mul]
  have h2 : ((x : Int) / 2 ^ (8 * k) % 256) = ((x / 256 ^ k % 256 : Nat) : Int) := by
    rw [← h]
    simp
  rw [h2]
  simp [byteV]

theorem Num_no (x : Nat) (size : Int) (w : World) (hs : size < 1 ∨ 8 < size) : Calls Try.prog 9 #[.int .u64 x, .int .i64 size] w fun e w' => e = .returned (.slice none 0 0) ∧ w = w' := by
  have HS := Lib.hid hs
  clear hs
  go_enter Try.func9, Try.ntmps9
  go_wp2_with (first | (go_at_call 23; refine (isSize_no _ _ HS.out).mono ?_; rintro e w' ⟨rfl, rfl⟩))
  go_ret
  exact ⟨rfl, rfl⟩

theorem make_bytes (n : Nat) (hn : n ≤ 1000000) (w : World) : (Instr.makeSlice 24 (.int .i64 n) (.int .i64 n)).run Try.prog w = .ok (.slice (some ⟨w.heap.size, 0, none⟩) n n) (w.alloc (.cells (madeCells #[.int .u8 0] n) 5)) := by
  obtain ⟨i0, hi, hz0, hz1, hz2⟩ := info_parts u8info
  have := run_make (P := Try.prog) (w := w) 24 5 i0 (.int .u8 0) Try.underlying24 hi hz0 .i64 .i64 n n (by omega) (by omega) (by rw [hz2]; omega) (by omega)
  simp only [Int.toNat_natCast, hz1, Nat.mul_one] at this
  exact this

set_option maxHeartbeats 400000 in
theorem Num_yes (x n : Nat) (w : World) (hx : x < 18446744073709551616) (h1 : 1 ≤ n) (h8 : n ≤ 8) :
    Calls Try.prog 9 #[.int .u64 x, .int .i64 n] w fun e w' => e = .returned (.slice (some ⟨w.heap.size, 0, none⟩) n n) ∧ w.alloc (.cells ((numB x n).map byteV).toArray 5) = w' := by
  have hmk := make_bytes n (by omega)
  go_enter Try.func9, Try.ntmps9
  go_wp2_with (first | (go_at_call 23; refine (isSize_yes _ _ (by omega) (by omega)).mono ?_; rintro e w' ⟨rfl, rfl⟩))
  go_loopw [6, 14] (fun _ i wr => ∃ (k : Nat) (C : Array Value), k ≤ n ∧ i = .int .i64 k ∧ C.size = n ∧ (∀ j, n ≤ j + k → j < n → C[j]? = ((numB x n).map byteV)[j]?) ∧ wr = w.alloc (.cells C 5)) (fun _ i _ => n - (intOf i).toNat)
  case atStart => exact ⟨0, _, Nat.zero_le _, rfl, size_madeCells _ _, fun j h h' => absurd h (by omega), rfl⟩
  case round =>
    obtain ⟨k, C, hk, rfl, hC, hj, rfl⟩ := hrel
    by_cases hlt : k < n
    · have HC := Lib.hid hC
      have HJ := Lib.hid hj
      obtain ⟨u, hu⟩ : ∃ u, C[n - 1 - k]? = some u := ⟨_, Array.getElem?_eq_getElem (by omega)⟩
      have hcell : (w.alloc (.cells C 5)).cell? ⟨w.heap.size, n - 1 - k, none⟩ = some u := by rw [(Has.made w 5 C).cell]; exact hu
      clear hC hj hu
      go_wp2
      go_roundw
      case rel =>
        refine ⟨k + 1, _, by omega, by go_num, ?_, ?_, rfl⟩
        · simp [HC.out]
        · intro j h h'
          by_cases he : j = n - 1 - k
          · subst he
            rw [Array.getElem?_setIfInBounds_self_of_lt (by have := HC.out; omega), List.getElem?_map, numB_at x n _ h', Option.map_some]
            have e : n - 1 - (n - 1 - k) = k := by omega
            rw [e, byteV_ofNat]
          · rw [Array.getElem?_setIfInBounds_ne (by omega)]
            exact HJ.out j (by omega) h'
      case measure => simp [intOf]; omega
    · go_wp2
      go_ret
      refine ⟨rfl, ?_⟩
      have hk' : k = n := by omega
      subst hk'
      congr 2
      apply Array.ext_getElem?
      intro j
      by_cases hjn : j < k
      · rw [hj j (by omega) hjn]; simp
      · rw [Array.getElem?_eq_none (by simp [numB_len]; omega), Array.getElem?_eq_none (by omega)]

/-- The document's bytes of a text. -/
def textB (l : List UInt8) : List UInt8 := UInt8.ofNat (l.take 255).length :: l.take 255

theorem num_one (m : Nat) (h : m ≤ 255) : numB m 1 = [UInt8.ofNat m] := by
  simp [numB, List.range_succ]

theorem own_num (w : World) (m : Nat) : (w.alloc (.cells ((numB m 1).map byteV).toArray 5)).ownsRow w.heap.size 5 1 (.slice (some ⟨w.heap.size, 0, none⟩) 1 1) 1 ((numB m 1).map byteV) :=
  ⟨by simp [numB_len], .inr ⟨w.heap.size, 1, _, rfl, Nat.le_refl _, heap_alloc_new w _, Nat.le_refl _, by decide, by simp [numB_len], by rw [List.toList_toArray]; exact List.take_of_length_le (by simp [numB_len])⟩⟩
theorem fresh_text {W : Nat} {w w1 w' : World} {v : Value} {m k : Nat} {t : ByteArray} {l : List UInt8} (hown : w'.ownsRow W 5 1 v (1 + k) ((numB m 1).map byteV ++ Lib.strCells t)) (ht : t.data.toList = l) (hk : k = l.length) (hm : m = l.length) (hm2 : m ≤ 255)
    (hb : Below W w w1) (hg : w1.grownBy w' (some W)) (hW : W ≤ w1.heap.size) : Fresh W (UInt8.ofNat l.length :: l) w (.returned v) w' := by
  subst hm
  have e : (numB l.length 1).map byteV ++ Lib.strCells t = (UInt8.ofNat l.length :: l).map byteV := by
    rw [num_one _ hm2, Lib.strCells, ht]
    rfl
  rw [e, hk, Nat.add_comm] at hown
  exact fresh_of hown hb hg hW

set_option maxHeartbeats 400000 in
theorem Text_any (s : ByteArray) (w : World) (hs : s.size ≤ 3000) :
    Calls Try.prog 11 #[.string s] w (Fresh w.heap.size (textB s.data.toList) w) := by
  obtain ⟨i0, hi, hz0, hz1, hz2⟩ := info_parts u8info
  have hsz : s.size = s.data.toList.length := rfl
  have HZ := Lib.hid hsz
  clear hsz
  by_cases hb : s.size ≤ 255
  · go_enter Try.func11, Try.ntmps11
    go_wp2_with (first | (go_at_call 9; refine (Num_yes s.size 1 _ (by omega) (by omega) (by omega)).mono ?_; rintro e w' ⟨rfl, rfl⟩) | (at_builtin; refine Lib.wpList_append_own_string _ rfl _ _ 24 9 rfl w.heap.size 5 i0 Try.underlying24 Try.underlying9 hi hz0 hz1 hz2 _ _ _ rfl (own_num w s.size) _ rfl (by unfold maxLen; omega) (by omega) (by simp) ?_; intro v' w1 hown hgrow hnil; have HO := Lib.hid hown; have HG := Lib.hid hgrow; clear hown hgrow hnil))
    go_ret
    have HT : textB s.data.toList = UInt8.ofNat s.data.toList.length :: s.data.toList := by
      unfold textB
      rw [List.take_of_length_le (by have := HZ.out; omega)]
    rw [HT]
    exact fresh_text HO.out rfl HZ.out HZ.out hb ((Below.refl _ w).alloc (Nat.le_refl _) _) HG.out (by simp)
  · have hE : (s.extract 0 255).data.toList = s.data.toList.take 255 := by simp [ByteArray.data_extract]
    have hE2 : (s.extract 0 255).size = (s.data.toList.take 255).length := by rw [← hE]; rfl
    have hm : min 255 s.size = (s.data.toList.take 255).length := by rw [List.length_take, ← HZ.out]
    have hm2 : min 255 s.size ≤ 255 := Nat.min_le_left _ _
    have h3 : (s.extract 0 255).size ≤ 255 := by rw [hE2]; simp; omega
    have H1 := Lib.hid hE
    have H2 := Lib.hid hE2
    have H3 := Lib.hid hm
    clear hE hE2 hm
    go_enter Try.func11, Try.ntmps11
    go_wp2_with (first | (go_at_call 9; refine (Num_yes (min 255 s.size) 1 _ (by omega) (by omega) (by omega)).mono ?_; rintro e w' ⟨rfl, rfl⟩) | (at_builtin; refine Lib.wpList_append_own_string _ rfl _ _ 24 9 rfl w.heap.size 5 i0 Try.underlying24 Try.underlying9 hi hz0 hz1 hz2 _ _ _ rfl (own_num w (min 255 s.size)) (s.extract 0 255) rfl (by unfold maxLen; omega) (by omega) (by simp) ?_; intro v' w1 hown hgrow hnil; have HO := Lib.hid hown; have HG := Lib.hid hgrow; clear hown hgrow hnil))
    go_ret
    exact fresh_text HO.out H1.out H2.out H3.out hm2 ((Below.refl _ w).alloc (Nat.le_refl _) _) HG.out (by simp)

end Go.Proofs.Ytcobakgiahkeaaa
