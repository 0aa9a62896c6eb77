/- Package grants: Put: contract, no statement. -/
import Derived.Test.YtbgpjboefnacgaaGkb
import Derived.Test.YtbgpjboefnacgaaOcm
namespace Go.Proofs.Ytbgpjboefnacgaa
open Go.RowKit
set_option linter.unusedVariables false

def BytesEnd (l : List UInt8) (w : World) (e : Ending) (w' : World) : Prop := ∃ A c, e = .returned (.slice A l.length c) ∧ l.length ≤ c ∧ c ≤ maxLen ∧ w'.ownsRow w.heap.size 5 1 (.slice A l.length c) l.length (l.map byteV) ∧ Below w.heap.size w w'
theorem oNum_int (a : Int) (w : World) : Calls Try.prog 43 #[.int .u64 (a % 18446744073709551616), .int .i64 1] w fun e w' => e = .returned (.slice (some ⟨w.heap.size, 0, none⟩) 1 1) ∧ w.alloc (.cells (([byteI a] : List UInt8).map byteV).toArray 5) = w' := by
  have h := Num_yes (a % 18446744073709551616).toNat 1 w (by omega) (by omega) (by omega)
  rw [num_int] at h
  have e : (((a % 18446744073709551616).toNat : Nat) : Int) = a % 18446744073709551616 := by omega
  rw [e] at h
  exact h
theorem oNum_wrap (a : Int) (w : World) : Calls Try.prog 43 #[.int .u64 (IntKind.u64.wrap a), .int .i64 1] w fun e w' => e = .returned (.slice (some ⟨w.heap.size, 0, none⟩) 1 1) ∧ w.alloc (.cells (([byteI a] : List UInt8).map byteV).toArray 5) = w' := by
  have e : IntKind.u64.wrap a = a % 18446744073709551616 := IntKind.wrap_u64 a
  rw [e]
  exact oNum_int a w
/-- The bytes of the grants up to k, and of the next one's labels up to j. -/
def preG (q : Nat) (l : List G) (k j : Nat) : List UInt8 := numB q 1 ++ bytesG (l.take k) ++ ([byteI (l.getD k g0).a, byteI (l.getD k g0).f, byteI (l.getD k g0).t] : List UInt8).take j
theorem preG_next (q : Nat) (l : List G) (k : Nat) (h : k < l.length) : preG q l (k + 1) 0 = preG q l k 3 := by
  unfold preG
  rw [bytesG_more l k h, getG_at l k h]
  simp
theorem preG_more (q : Nat) (l : List G) (k j : Nat) (b : UInt8) (h : ([byteI (l.getD k g0).a, byteI (l.getD k g0).f, byteI (l.getD k g0).t] : List UInt8)[j]? = some b) : preG q l k (j + 1) = preG q l k j ++ [b] := by
  unfold preG
  rw [List.take_add_one, h]
  simp

theorem index3_any (a f t : Int) (j : Nat) (z : Int) (w : World) (h : ([a, f, t] : List Int)[j]? = some z) : (Instr.index 66 (.agg #[.int .i64 a, .int .i64 f, .int .i64 t]) (.int .i64 (j : Int))).run Try.prog w = .ok (.int .i64 z) w := by
  match j with
  | 0 => simp at h; subst h; rfl
  | 1 => simp at h; subst h; rfl
  | 2 => simp at h; subst h; rfl
  | n + 3 => simp at h

set_option maxRecDepth 100000 in
set_option maxHeartbeats 2000000 in
theorem gPut_any (l : List G) (A : Option Addr) (n c : Nat) (w : World) (ht : Base4 w) (hl : ArgG w A n c l) (hn : n ≤ 1000000) :
    Calls Try.prog 22 #[.slice A n c] w (BytesEnd (putG l) w) := by
  have HA := Lib.hid hl
  have HN := Lib.hid hl.len
  have hroom := hl.room
  have hmost := hl.most
  unfold maxLen at hmost
  clear hl
  obtain ⟨q, hq, hq2⟩ : ∃ q, q = (l.take 255).length ∧ q ≤ 255 := ⟨_, rfl, by simp; omega⟩
  have HQ := Lib.hid hq
  have hqn : q = min n 255 := by rw [hq, List.length_take, HN.out]; omega
  clear hq
  have hmin : (if 255 < (n : Int) then (255 : Int) else (n : Int)) = (q : Int) := by split <;> omega
  have hqc : (q : Int) ≤ (c : Int) := by omega
  have HQN : Hid (q ≤ n) := Lib.hid (by omega)
  clear hqn
  obtain ⟨i0, hi, hz0, hz1, hz2⟩ := info_parts u8info
  go_enter Try.func22, Try.ntmps22
  go_wp2_with (first
    | (go_at_call 43; refine (Num_yes q 1 _ (by omega) (by omega) (by omega)).mono ?_; rintro e w' ⟨rfl, rfl⟩; have O1 := Lib.hid (own_num w q 1 (by omega)); have B1 := Lib.hid ((Below.refl w.heap.size w).alloc (Nat.le_refl _) (.cells ((numB q 1).map byteV).toArray 5))))
  have O2 : Hid ((w.alloc (.cells ((numB q 1).map byteV).toArray 5)).ownsRow w.heap.size 5 1 (.slice (some ⟨w.heap.size, 0, none⟩) 1 1) 1 ((preG q l 0 0).map byteV)) := Lib.hid (by
    have e : preG q l 0 0 = numB q 1 := by simp [preG, bytesG]
    rw [e]
    exact O1.out)
  clear hmin
  go_loopw [3, 19] (fun v i wr => ∃ k : Nat, k ≤ q ∧ i = .int .i64 k ∧ wr.ownsRow w.heap.size 5 1 v (1 + 3 * k) ((preG q l k 0).map byteV) ∧ Below w.heap.size w wr) (fun _ i _ => q - (intOf i).toNat)
  case atStart => exact ⟨0, Nat.zero_le _, rfl, O2.out, B1.out⟩
  case round =>
    obtain ⟨k, hk, rfl, hO, hB⟩ := hrel
    have HO := Lib.hid hO
    have HB := Lib.hid hB
    clear hO hB
    by_cases hkq : k < q
    · have hkl : k < l.length := by have := HN.out; have := HQN.out; omega
      obtain ⟨b, off, rfl, c1, c2, c3⟩ := (HA.out.below HB.out).reads.gat hkl
      have HNx := Lib.hid (preG_next q l k hkl)
      have HMr := Lib.hid (preG_more q l k)
      rw [getG_at l k hkl] at HMr
      generalize l[k] = x at c1 c2 c3 HMr
      clear hkl
      have j0 : (0 : Int) ≤ (k : Int) := by omega
      have j1 : (k : Int) < (q : Int) := by omega
      have HB2 := Lib.hid (below_alloc' HB.out (.cells #[.int .i64 x.a, .int .i64 x.f, .int .i64 x.t] 29))
      have HO2 := Lib.hid (HO.out.alloc (.cells #[.int .i64 x.a, .int .i64 x.f, .int .i64 x.t] 29))
      obtain ⟨b1, b2, b3⟩ := (two_boxes (Has.made wr 29 #[.int .i64 x.a, .int .i64 x.f, .int .i64 x.t]) (Has.made wr 29 #[.int .i64 x.a, .int .i64 x.f, .int .i64 x.t]) (Below.refl _ _)).1
      go_wp2
      obtain ⟨W, hW⟩ : ∃ W, wr.alloc (.cells #[.int .i64 x.a, .int .i64 x.f, .int .i64 x.t] 29) = W := ⟨_, rfl⟩
      rw [hW] at HB2 HO2
      try rw [hW]
      clear hW b1 b2 b3 c1 c2 c3
      go_loopw [3, 30] (fun v i wr => ∃ j : Nat, j ≤ 3 ∧ i = .int .i64 j ∧ wr.ownsRow w.heap.size 5 1 v (1 + 3 * k + j) ((preG q l k j).map byteV) ∧ Below w.heap.size w wr) (fun _ i _ => 3 - (intOf i).toNat)
      case atStart => exact ⟨0, by omega, rfl, HO2.out, HB2.out⟩
      case round =>
        obtain ⟨j, hj, rfl, hO, hB⟩ := hrel
        have HO3 := Lib.hid hO
        have HB3 := Lib.hid hB
        clear hO hB
        by_cases hj3 : j < 3
        · obtain ⟨z, hz, HZ⟩ : ∃ z : Int, (∀ w1 : World, (Instr.index 66 (.agg #[.int .i64 x.a, .int .i64 x.f, .int .i64 x.t]) (.int .i64 (j : Int))).run Try.prog w1 = .ok (.int .i64 z) w1) ∧ Hid (([byteI x.a, byteI x.f, byteI x.t] : List UInt8)[j]? = some (byteI z)) := by
            match j, hj3 with
            | 0, _ => exact ⟨x.a, fun w1 => index3_any x.a x.f x.t 0 x.a w1 rfl, Lib.hid rfl⟩
            | 1, _ => exact ⟨x.f, fun w1 => index3_any x.a x.f x.t 1 x.f w1 rfl, Lib.hid rfl⟩
            | 2, _ => exact ⟨x.t, fun w1 => index3_any x.a x.f x.t 2 x.t w1 rfl, Lib.hid rfl⟩
          have HE := Lib.hid (HMr.out j _ HZ.out)
          have i1 : (j : Int) < 3 := by omega
          have i2 : (0 : Int) ≤ (j : Int) := by omega
          go_wp2_with (first
            | (go_at_call 43; (first | refine (oNum_int z _).mono ?_ | refine (oNum_wrap z _).mono ?_); rintro e w' ⟨rfl, rfl⟩)
            | (at_builtin; refine wpList_append_bytes rfl _ _ 35 rfl w.heap.size 5 i0 Try.underlying35 hi hz0 hz1 hz2 _ (1 + 3 * k + j) _ rfl (HO3.out.alloc (.cells (([byteI z] : List UInt8).map byteV).toArray 5)) (some ⟨wr.heap.size, 0, none⟩) 1 1 [byteI z] rfl rfl (fun h => by cases h) (row_made wr [byteI z]).reads (by omega) (by have := HB3.out.size; simp; omega) ?_; intro v3 w3 h7 h8; rw [← List.map_append, ← HE.out] at h7; have O3 := Lib.hid h7; have B3 := Lib.hid (below_own (HB3.out.alloc HB3.out.size (.cells (([byteI z] : List UInt8).map byteV).toArray 5)) h8 (HO3.out.alloc (.cells (([byteI z] : List UInt8).map byteV).toArray 5)) (by have := HB3.out.size; simp; omega)); clear h7 h8))
          go_roundw
          case rel => exact ⟨j + 1, by omega, by go_num, O3.out, B3.out⟩
          case measure => simp [intOf]; omega
        · obtain rfl : j = 3 := by omega
          obtain ⟨w4, hw4⟩ : ∃ w4 : World, w4 = wr := ⟨_, rfl⟩
          subst hw4
          go_wp2
          go_roundw
          case rel => exact ⟨k + 1, by omega, by go_num, by rw [HNx.out]; exact HO3.out, HB3.out⟩
          case measure => simp [intOf]; omega
    · obtain rfl : k = q := by omega
      have hall : preG k l k 0 = putG l := by
        unfold preG putG
        rw [List.take_zero, List.append_nil, ← HQ.out]
        congr 1
        rw [HQ.out, List.length_take]
        by_cases h : 255 ≤ l.length
        · rw [Nat.min_eq_left h]
        · rw [Nat.min_eq_right (by omega), List.take_of_length_le (Nat.le_refl _), List.take_of_length_le (by omega)]
      have hO := HO.out
      rw [hall] at hO
      obtain ⟨A', c', hv, h1, h2⟩ := own_slice hO
      have hlen : 1 + 3 * k = (putG l).length := by
        unfold putG
        rw [List.length_append, numB_len, bytesG_len, ← HQ.out]
      subst hv
      have HR := Lib.hid hO
      have HL := Lib.hid hlen
      obtain ⟨w4, hw4⟩ : ∃ w4 : World, w4 = wr := ⟨_, rfl⟩
      subst hw4
      clear hO hall HO hlen
      go_wp2
      go_ret
      have hr := HR.out
      rw [HL.out] at h1 hr
      rw [HL.out]
      exact ⟨A', c', rfl, h1, h2, hr, HB.out⟩

end Go.Proofs.Ytbgpjboefnacgaa
