import Derived.Test.YtlfmmmgdilencaaJSug
/- Of a claim's texts, joined: Suj. No statement but in the last. -/
namespace Go.Proofs.Ytlfmmmgdilencaa
open Go.RowKit Go.Sort
set_option linter.unusedVariables false

section
variable {lt : Nat → Nat → Bool}
theorem scanSU_more {d : Array Nat} {b i : Nat} (h : i < b) (hv : lt d[i]! d[i - 1]! = false) : scanSorted lt d b i = scanSorted lt d b (i + 1) := by
  rw [scanSorted.eq_def, if_pos (by simp [h, hv])]
theorem scanSU_end {d : Array Nat} {b i : Nat} (h : ¬ i < b ∨ lt d[i]! d[i - 1]! = true) : scanSorted lt d b i = i := by
  rw [scanSorted.eq_def, if_neg (by rcases h with h | h <;> simp [h])]
theorem shiftDownU_more {d : Array Nat} {j : Nat} (h : 1 ≤ j) (hv : lt d[j]! d[j - 1]! = true) : shiftDown lt j d = shiftDown lt (j - 1) (swp d j (j - 1)) := by
  obtain ⟨k, rfl⟩ : ∃ k, j = k + 1 := ⟨j - 1, by omega⟩
  simp only [Nat.add_sub_cancel] at hv ⊢
  rw [shiftDown, if_neg (by simp [hv])]
theorem shiftDownU_end {d : Array Nat} {j : Nat} (h : j = 0 ∨ lt d[j]! d[j - 1]! = false) : shiftDown lt j d = d := by
  cases j with
  | zero => rfl
  | succ k =>
    rcases h with h | h
    · cases h
    · simp only [Nat.add_sub_cancel] at h
      rw [shiftDown, if_pos (by simp [h])]
theorem shiftUpU_more {d : Array Nat} {b j : Nat} (h : j < b) (hv : lt d[j]! d[j - 1]! = true) : shiftUp lt b j d = shiftUp lt b (j + 1) (swp d j (j - 1)) := by
  conv => lhs; rw [shiftUp.eq_def]
  rw [if_pos h, if_neg (by simp [hv])]
theorem shiftUpU_end {d : Array Nat} {b j : Nat} (h : ¬ j < b ∨ lt d[j]! d[j - 1]! = false) : shiftUp lt b j d = d := by
  rw [shiftUp.eq_def]
  rcases h with h | h
  · rw [if_neg h]
  · split
    · rw [if_pos (by simp [h])]
    · rfl
theorem partialInsU_more {a b s i : Nat} {d : Array Nat} : partialIns lt a b (s + 1) i d = if scanSorted lt d b i = b then (d, true) else if b - a < 50 then (d, false) else
    partialIns lt a b s (scanSorted lt d b i) (if b - scanSorted lt d b i ≥ 2 then shiftUp lt b (scanSorted lt d b i + 1) (if scanSorted lt d b i - a ≥ 2 then shiftDown lt (scanSorted lt d b i - 1) (swp d (scanSorted lt d b i) (scanSorted lt d b i - 1)) else swp d (scanSorted lt d b i) (scanSorted lt d b i - 1))
      else if scanSorted lt d b i - a ≥ 2 then shiftDown lt (scanSorted lt d b i - 1) (swp d (scanSorted lt d b i) (scanSorted lt d b i - 1)) else swp d (scanSorted lt d b i) (scanSorted lt d b i - 1)) := rfl
end
set_option maxRecDepth 100000 in
set_option maxHeartbeats 16000000 in
theorem oPartInsU_any {g off n : Nat} (c a b : Nat) (d : Array Nat) (W0 W : World) (h : SU W0 g off n d W) (hab : a < b) (hb : b ≤ n) :
    Calls Try.prog 27 #[.slice (some ⟨g, off, none⟩) n c, .int .i64 (a : Int), .int .i64 (b : Int)] W (fun e w' => e = .returned (.bool (partialInsertionSort ltU d a b).2) ∧ SU W0 g off n (partialInsertionSort ltU d a b).1 w') := by
  have hmx : Try.prog.follows .mixedOrders = true := by kernel_rfl
  have HLS := Lib.hid (fun x y w => lessU_any x y w)
  have hmost := h.most
  have H0 := Lib.hid h
  clear h
  go_enter Try.func27, Try.ntmps27
  go_wp2
  go_loopw [7, 8] (fun vi vj wr => ∃ (i0 s : Nat) (dk : Array Nat), vi = .int .i64 (i0 : Int) ∧ vj = .int .i64 (5 - (s : Int)) ∧ a < i0 ∧ i0 ≤ b ∧ s ≤ 5 ∧ SU W0 g off n dk wr ∧ partialIns ltU a b s i0 dk = partialInsertionSort ltU d a b) (fun _ vj _ => 5 - (intOf vj).toNat)
  case atStart => exact ⟨a + 1, 5, d, by go_num, by go_num, by omega, by omega, by omega, H0.out, rfl⟩
  case round =>
    obtain ⟨i0, s5, dk, rfl, rfl, hai, hib, hs5, h1, h4⟩ := hrel
    have K1 := Lib.hid h1
    have K4 := Lib.hid h4
    clear h1 h4
    by_cases hs0 : s5 = 0
    · subst hs0
      have q1 : ¬ ((5 : Int) - ((0 : Nat) : Int)) < 5 := by omega
      go_wp2
      go_ret
      have hr : partialInsertionSort ltU d a b = (dk, false) := K4.out.symm
      rw [hr]
      exact ⟨rfl, K1.out⟩
    · obtain ⟨s, rfl⟩ : ∃ s, s5 = s + 1 := ⟨s5 - 1, by omega⟩
      have q1 : ((5 : Int) - ((s + 1 : Nat) : Int)) < 5 := by omega
      have q0 : (0 : Int) ≤ ((5 : Int) - ((s + 1 : Nat) : Int)) := by omega
      obtain ⟨zs, hzs⟩ : ∃ z : Int, (5 : Int) - ((s + 1 : Nat) : Int) = z := ⟨_, rfl⟩
      rw [hzs] at q1 q0
      rw [hzs]
      have HZS := Lib.hid hzs
      clear hzs hs0
      go_wp2
      go_loopw [7] (fun vi wr => ∃ i : Nat, vi = .int .i64 (i : Int) ∧ a < i ∧ i ≤ b ∧ SU W0 g off n dk wr ∧ scanSorted ltU dk b i = scanSorted ltU dk b i0) (fun vi _ => b + 1 - (intOf vi).toNat)
      case atStart => exact ⟨i0, rfl, hai, hib, K1.out, rfl⟩
      case round =>
        obtain ⟨ii, rfl, ha1, hb1, h1, h4⟩ := hrel
        have L1 := Lib.hid h1
        have L4 := Lib.hid h4
        clear h1 h4
        by_cases hlt : ii < b
        · obtain ⟨i, rfl⟩ : ∃ i, ii = i + 1 := ⟨ii - 1, by omega⟩
          have l1 : (i : Int) + 1 < (b : Int) := by omega
          have l2 : ((i + 1 : Nat) : Int) < (b : Int) := by omega
          have ca := L1.out.cell (i + 1) (by omega)
          have cb := L1.out.cell i (by omega)
          have hsw := L1.out.swap (i := i + 1) (j := i) (by omega) (by omega)
          have fa := L1.out.free (off + (i + 1))
          have fb := L1.out.free (off + i)
          obtain ⟨x, hx⟩ : ∃ x, dk[i + 1]! = x := ⟨_, rfl⟩
          obtain ⟨y, hy⟩ : ∃ y, dk[i]! = y := ⟨_, rfl⟩
          rw [hx] at ca hsw
          rw [hy] at cb hsw
          obtain ⟨hsw1, u, hsw2⟩ := hsw
          have HSW := Lib.hid hsw1
          clear hsw1
          have j0 : (0 : Int) ≤ (i : Int) := by omega
          have j1 : (i : Int) < (n : Int) := by omega
          have j2 : ¬ ((i : Int) + 1 < 0) := by omega
          have j3 : (i : Int) + 1 < (n : Int) := by omega
          have j4 : (0 : Int) ≤ (i : Int) + 1 := by omega
          have hwj : IntKind.i64.wrap (i : Int) = (i : Int) := by rw [IntKind.wrap_i64]; omega
          have hSd : (fun w' : World => w'.cell? ⟨g, off + (i + 1), none⟩ = some (.int .u64 (x : Int)) ∧ w'.cell? ⟨g, off + i, none⟩ = some (.int .u64 (y : Int))) _ := ⟨ca, cb⟩
          cases hv : ltU dk[i + 1]! dk[i]!
          · have HV := Lib.hid (scanSU_more (lt := ltU) (d := dk) hlt (by simpa using hv))
            have HL : Hid (ltU x y = false) := Lib.hid (by rw [← hx, ← hy]; exact hv)
            clear hv hx hy
            go_wp2
            rename_i K hK
            refine wp_held (fun w' : World => w'.cell? ⟨g, off + (i + 1), none⟩ = some (.int .u64 (x : Int)) ∧ w'.cell? ⟨g, off + i, none⟩ = some (.int .u64 (y : Int))) K hmx ?_ (fun _ _ h => h)
            refine wpAnyH_take (i := 0) (v := .int .i64 ((i + 1 : Nat) : Int)) (lit rfl) (by kernel_rfl) (by kernel_rfl) (by kernel_rfl) (fun _ _ _ h => h) (Or.inl ⟨by rfl, ?_⟩) hSd ?_
            · rintro w6 ⟨k1, k2⟩
              go_simp
            simp only [Act.put, List.setIfInBounds_toArray, List.set_cons_zero, List.set_cons_succ]
            refine wpAnyH_take (i := 1) (v := .int .i64 (b : Int)) (lit rfl) (by kernel_rfl) (by kernel_rfl) (by kernel_rfl) (fun _ _ _ h => h) (Or.inl ⟨by rfl, ?_⟩) hSd ?_
            · rintro w6 ⟨k1, k2⟩
              go_simp
            simp only [Act.put, List.setIfInBounds_toArray, List.set_cons_zero, List.set_cons_succ]
            refine wpAnyH_take (i := 2) (v := .bool true) (lit rfl) (by kernel_rfl) (by kernel_rfl) (by kernel_rfl) (fun _ _ _ h => h) (Or.inl ⟨by rfl, ?_⟩) hSd ?_
            · rintro w6 ⟨k1, k2⟩
              go_simp
            simp only [Act.put, List.setIfInBounds_toArray, List.set_cons_zero, List.set_cons_succ]
            refine wpAnyH_take (i := 3) (v := .bool true) (lit rfl) (by kernel_rfl) (by kernel_rfl) (by kernel_rfl) (fun _ _ _ h => h) (Or.inl ⟨by rfl, ?_⟩) hSd ?_
            · rintro w6 ⟨k1, k2⟩
              go_simp
            simp only [Act.put, List.setIfInBounds_toArray, List.set_cons_zero, List.set_cons_succ]
            refine wpAnyH_take (i := 4) (v := .slice (some ⟨g, off, none⟩) n c) (lit rfl) (by kernel_rfl) (by kernel_rfl) (by kernel_rfl) (fun _ _ _ h => h) (Or.inl ⟨by rfl, ?_⟩) hSd ?_
            · rintro w6 ⟨k1, k2⟩
              go_simp
            simp only [Act.put, List.setIfInBounds_toArray, List.set_cons_zero, List.set_cons_succ]
            refine wpAnyH_take (i := 5) (v := .int .i64 ((i + 1 : Nat) : Int)) (lit rfl) (by kernel_rfl) (by kernel_rfl) (by kernel_rfl) (fun _ _ _ h => h) (Or.inl ⟨by rfl, ?_⟩) hSd ?_
            · rintro w6 ⟨k1, k2⟩
              go_simp
            simp only [Act.put, List.setIfInBounds_toArray, List.set_cons_zero, List.set_cons_succ]
            refine wpAnyH_take (i := 6) (v := .pointer (some ⟨g, off + (i + 1), none⟩)) (lit rfl) (by kernel_rfl) (by kernel_rfl) (by kernel_rfl) (fun _ _ _ h => h) (Or.inl ⟨by rfl, ?_⟩) hSd ?_
            · rintro w6 ⟨k1, k2⟩
              go_simp
            simp only [Act.put, List.setIfInBounds_toArray, List.set_cons_zero, List.set_cons_succ]
            refine wpAnyH_take (i := 7) (v := .int .u64 (x : Int)) (lit rfl) (by kernel_rfl) (by kernel_rfl) (by kernel_rfl) (fun _ _ _ h => h) (Or.inl ⟨by rfl, ?_⟩) hSd ?_
            · rintro w6 ⟨k1, k2⟩
              go_simp
            simp only [Act.put, List.setIfInBounds_toArray, List.set_cons_zero, List.set_cons_succ]
            refine wpAnyH_take (i := 8) (v := .slice (some ⟨g, off, none⟩) n c) (lit rfl) (by kernel_rfl) (by kernel_rfl) (by kernel_rfl) (fun _ _ _ h => h) (Or.inl ⟨by rfl, ?_⟩) hSd ?_
            · rintro w6 ⟨k1, k2⟩
              go_simp
            simp only [Act.put, List.setIfInBounds_toArray, List.set_cons_zero, List.set_cons_succ]
            refine wpAnyH_take (i := 9) (v := .int .i64 ((i + 1 : Nat) : Int)) (lit rfl) (by kernel_rfl) (by kernel_rfl) (by kernel_rfl) (fun _ _ _ h => h) (Or.inl ⟨by rfl, ?_⟩) hSd ?_
            · rintro w6 ⟨k1, k2⟩
              go_simp
            simp only [Act.put, List.setIfInBounds_toArray, List.set_cons_zero, List.set_cons_succ]
            refine wpAnyH_take (i := 10) (v := .int .i64 (i : Int)) (lit rfl) (by kernel_rfl) (by kernel_rfl) (by kernel_rfl) (fun _ _ _ h => h) (Or.inl ⟨by rfl, ?_⟩) hSd ?_
            · rintro w6 ⟨k1, k2⟩
              go_simp
            simp only [Act.put, List.setIfInBounds_toArray, List.set_cons_zero, List.set_cons_succ]
            refine wpAnyH_take (i := 11) (v := .pointer (some ⟨g, off + i, none⟩)) (lit rfl) (by kernel_rfl) (by kernel_rfl) (by kernel_rfl) (fun _ _ _ h => h) (Or.inl ⟨by rfl, ?_⟩) hSd ?_
            · rintro w6 ⟨k1, k2⟩
              go_simp
            simp only [Act.put, List.setIfInBounds_toArray, List.set_cons_zero, List.set_cons_succ]
            refine wpAnyH_take (i := 12) (v := .int .u64 (y : Int)) (lit rfl) (by kernel_rfl) (by kernel_rfl) (by kernel_rfl) (fun _ _ _ h => h) (Or.inl ⟨by rfl, ?_⟩) hSd ?_
            · rintro w6 ⟨k1, k2⟩
              go_simp
            simp only [Act.put, List.setIfInBounds_toArray, List.set_cons_zero, List.set_cons_succ]
            refine wpAnyH_ready (rs := [13]) (by kernel_rfl) (by simp) ?_
            refine AllReadyH.cons (lit rfl) (fun K5 hK5 => ?_) AllReadyH.nil
            go_simp
            go_at_call 28
            (with_reducible refine (HLS.out _ _ _).mono ?_)
            rintro e7 w7 ⟨rfl, rfl⟩
            rw [HL.out]
            refine hK5.out _ _ hSd (fun _ => ?_)
            clear hK5 K5
            refine wpAnyH_take (i := 14) (v := .bool true) (lit rfl) (by kernel_rfl) (by kernel_rfl) (by kernel_rfl) (fun _ _ _ h => h) (Or.inl ⟨by rfl, ?_⟩) hSd ?_
            · rintro w6 ⟨k1, k2⟩
              go_simp
            simp only [Act.put, List.setIfInBounds_toArray, List.set_cons_zero, List.set_cons_succ]
            refine wpAnyH_take (i := 15) (v := .bool true) (lit rfl) (by kernel_rfl) (by kernel_rfl) (by kernel_rfl) (fun _ _ _ h => h) (Or.inl ⟨by rfl, ?_⟩) hSd ?_
            · rintro w6 ⟨k1, k2⟩
              go_simp
            simp only [Act.put, List.setIfInBounds_toArray, List.set_cons_zero, List.set_cons_succ]
            refine wpAnyH_done (by kernel_rfl) ?_ _
            refine hK _ _ ?_
            clear ca cb hSd HL hsw2 fa fb j0 j1 j2 j3 j4 hwj
            go_wp2
            go_roundw
            case rel => exact ⟨i + 1 + 1, by go_num, by omega, by omega, L1.out.drew, by rw [← L4.out, HV.out]⟩
            case measure => simp [intOf]; omega
          · have HSC : Hid (scanSorted ltU dk b i0 = i + 1) := Lib.hid (by rw [← L4.out]; exact scanSU_end (Or.inr (by simpa using hv)))
            have R1 := Lib.hid L1.out.drew
            have n1 : ((i : Int) + 1 == (b : Int)) = false := by simp; omega
            have n2 : ¬ ((i : Int) + 1 = (b : Int)) := by omega
            have HL : Hid (ltU x y = true) := Lib.hid (by rw [← hx, ← hy]; exact hv)
            clear hv hx hy
            by_cases h50 : b - a < 50
            · have g50 : (b : Int) - (a : Int) < 50 := by omega
              have hr : partialInsertionSort ltU d a b = (dk, false) := by rw [← K4.out, partialInsU_more, HSC.out, if_neg (by omega), if_pos h50]
              have HR := Lib.hid hr
              clear hr
              go_wp2
              rename_i K hK
              refine wp_held (fun w' : World => w'.cell? ⟨g, off + (i + 1), none⟩ = some (.int .u64 (x : Int)) ∧ w'.cell? ⟨g, off + i, none⟩ = some (.int .u64 (y : Int))) K hmx ?_ (fun _ _ h => h)
              refine wpAnyH_take (i := 0) (v := .int .i64 ((i + 1 : Nat) : Int)) (lit rfl) (by kernel_rfl) (by kernel_rfl) (by kernel_rfl) (fun _ _ _ h => h) (Or.inl ⟨by rfl, ?_⟩) hSd ?_
              · rintro w6 ⟨k1, k2⟩
                go_simp
              simp only [Act.put, List.setIfInBounds_toArray, List.set_cons_zero, List.set_cons_succ]
              refine wpAnyH_take (i := 1) (v := .int .i64 (b : Int)) (lit rfl) (by kernel_rfl) (by kernel_rfl) (by kernel_rfl) (fun _ _ _ h => h) (Or.inl ⟨by rfl, ?_⟩) hSd ?_
              · rintro w6 ⟨k1, k2⟩
                go_simp
              simp only [Act.put, List.setIfInBounds_toArray, List.set_cons_zero, List.set_cons_succ]
              refine wpAnyH_take (i := 2) (v := .bool true) (lit rfl) (by kernel_rfl) (by kernel_rfl) (by kernel_rfl) (fun _ _ _ h => h) (Or.inl ⟨by rfl, ?_⟩) hSd ?_
              · rintro w6 ⟨k1, k2⟩
                go_simp
              simp only [Act.put, List.setIfInBounds_toArray, List.set_cons_zero, List.set_cons_succ]
              refine wpAnyH_take (i := 3) (v := .bool true) (lit rfl) (by kernel_rfl) (by kernel_rfl) (by kernel_rfl) (fun _ _ _ h => h) (Or.inl ⟨by rfl, ?_⟩) hSd ?_
              · rintro w6 ⟨k1, k2⟩
                go_simp
              simp only [Act.put, List.setIfInBounds_toArray, List.set_cons_zero, List.set_cons_succ]
              refine wpAnyH_take (i := 4) (v := .slice (some ⟨g, off, none⟩) n c) (lit rfl) (by kernel_rfl) (by kernel_rfl) (by kernel_rfl) (fun _ _ _ h => h) (Or.inl ⟨by rfl, ?_⟩) hSd ?_
              · rintro w6 ⟨k1, k2⟩
                go_simp
              simp only [Act.put, List.setIfInBounds_toArray, List.set_cons_zero, List.set_cons_succ]
              refine wpAnyH_take (i := 5) (v := .int .i64 ((i + 1 : Nat) : Int)) (lit rfl) (by kernel_rfl) (by kernel_rfl) (by kernel_rfl) (fun _ _ _ h => h) (Or.inl ⟨by rfl, ?_⟩) hSd ?_
              · rintro w6 ⟨k1, k2⟩
                go_simp
              simp only [Act.put, List.setIfInBounds_toArray, List.set_cons_zero, List.set_cons_succ]
              refine wpAnyH_take (i := 6) (v := .pointer (some ⟨g, off + (i + 1), none⟩)) (lit rfl) (by kernel_rfl) (by kernel_rfl) (by kernel_rfl) (fun _ _ _ h => h) (Or.inl ⟨by rfl, ?_⟩) hSd ?_
              · rintro w6 ⟨k1, k2⟩
                go_simp
              simp only [Act.put, List.setIfInBounds_toArray, List.set_cons_zero, List.set_cons_succ]
              refine wpAnyH_take (i := 7) (v := .int .u64 (x : Int)) (lit rfl) (by kernel_rfl) (by kernel_rfl) (by kernel_rfl) (fun _ _ _ h => h) (Or.inl ⟨by rfl, ?_⟩) hSd ?_
              · rintro w6 ⟨k1, k2⟩
                go_simp
              simp only [Act.put, List.setIfInBounds_toArray, List.set_cons_zero, List.set_cons_succ]
              refine wpAnyH_take (i := 8) (v := .slice (some ⟨g, off, none⟩) n c) (lit rfl) (by kernel_rfl) (by kernel_rfl) (by kernel_rfl) (fun _ _ _ h => h) (Or.inl ⟨by rfl, ?_⟩) hSd ?_
              · rintro w6 ⟨k1, k2⟩
                go_simp
              simp only [Act.put, List.setIfInBounds_toArray, List.set_cons_zero, List.set_cons_succ]
              refine wpAnyH_take (i := 9) (v := .int .i64 ((i + 1 : Nat) : Int)) (lit rfl) (by kernel_rfl) (by kernel_rfl) (by kernel_rfl) (fun _ _ _ h => h) (Or.inl ⟨by rfl, ?_⟩) hSd ?_
              · rintro w6 ⟨k1, k2⟩
                go_simp
              simp only [Act.put, List.setIfInBounds_toArray, List.set_cons_zero, List.set_cons_succ]
              refine wpAnyH_take (i := 10) (v := .int .i64 (i : Int)) (lit rfl) (by kernel_rfl) (by kernel_rfl) (by kernel_rfl) (fun _ _ _ h => h) (Or.inl ⟨by rfl, ?_⟩) hSd ?_
              · rintro w6 ⟨k1, k2⟩
                go_simp
              simp only [Act.put, List.setIfInBounds_toArray, List.set_cons_zero, List.set_cons_succ]
              refine wpAnyH_take (i := 11) (v := .pointer (some ⟨g, off + i, none⟩)) (lit rfl) (by kernel_rfl) (by kernel_rfl) (by kernel_rfl) (fun _ _ _ h => h) (Or.inl ⟨by rfl, ?_⟩) hSd ?_
              · rintro w6 ⟨k1, k2⟩
                go_simp
              simp only [Act.put, List.setIfInBounds_toArray, List.set_cons_zero, List.set_cons_succ]
              refine wpAnyH_take (i := 12) (v := .int .u64 (y : Int)) (lit rfl) (by kernel_rfl) (by kernel_rfl) (by kernel_rfl) (fun _ _ _ h => h) (Or.inl ⟨by rfl, ?_⟩) hSd ?_
              · rintro w6 ⟨k1, k2⟩
                go_simp
              simp only [Act.put, List.setIfInBounds_toArray, List.set_cons_zero, List.set_cons_succ]
              refine wpAnyH_ready (rs := [13]) (by kernel_rfl) (by simp) ?_
              refine AllReadyH.cons (lit rfl) (fun K5 hK5 => ?_) AllReadyH.nil
              go_simp
              go_at_call 28
              (with_reducible refine (HLS.out _ _ _).mono ?_)
              rintro e7 w7 ⟨rfl, rfl⟩
              rw [HL.out]
              refine hK5.out _ _ hSd (fun _ => ?_)
              clear hK5 K5
              refine wpAnyH_take (i := 14) (v := .bool false) (lit rfl) (by kernel_rfl) (by kernel_rfl) (by kernel_rfl) (fun _ _ _ h => h) (Or.inl ⟨by rfl, ?_⟩) hSd ?_
              · rintro w6 ⟨k1, k2⟩
                go_simp
              simp only [Act.put, List.setIfInBounds_toArray, List.set_cons_zero, List.set_cons_succ]
              refine wpAnyH_take (i := 15) (v := .bool false) (lit rfl) (by kernel_rfl) (by kernel_rfl) (by kernel_rfl) (fun _ _ _ h => h) (Or.inl ⟨by rfl, ?_⟩) hSd ?_
              · rintro w6 ⟨k1, k2⟩
                go_simp
              simp only [Act.put, List.setIfInBounds_toArray, List.set_cons_zero, List.set_cons_succ]
              refine wpAnyH_done (by kernel_rfl) ?_ _
              refine hK _ _ ?_
              clear ca cb hSd HL hsw2 fa fb j0 j1 j2 j3 j4 hwj
              go_wp2
              go_ret
              rw [HR.out]
              exact ⟨rfl, R1.out⟩
            · have g50 : ¬ (b : Int) - (a : Int) < 50 := by omega
              have HSW2 := Lib.hid HSW.out.drew.drew
              obtain ⟨d1, hd1⟩ : ∃ d1, swp dk (i + 1) i = d1 := ⟨_, rfl⟩
              rw [hd1] at HSW2
              have HN : Hid (partialIns ltU a b (s + 1) i0 dk = partialIns ltU a b s (i + 1) (if b - (i + 1) ≥ 2 then shiftUp ltU b (i + 1 + 1) (if i + 1 - a ≥ 2 then shiftDown ltU i d1 else d1) else if i + 1 - a ≥ 2 then shiftDown ltU i d1 else d1)) := Lib.hid (by
                rw [partialInsU_more, HSC.out, if_neg (by omega), if_neg h50, Nat.add_sub_cancel, hd1])
              have M1 := HSW2
              clear hd1
              go_wp2
              rename_i K hK
              refine wp_held (fun w' : World => w'.cell? ⟨g, off + (i + 1), none⟩ = some (.int .u64 (x : Int)) ∧ w'.cell? ⟨g, off + i, none⟩ = some (.int .u64 (y : Int))) K hmx ?_ (fun _ _ h => h)
              refine wpAnyH_take (i := 0) (v := .int .i64 ((i + 1 : Nat) : Int)) (lit rfl) (by kernel_rfl) (by kernel_rfl) (by kernel_rfl) (fun _ _ _ h => h) (Or.inl ⟨by rfl, ?_⟩) hSd ?_
              · rintro w6 ⟨k1, k2⟩
                go_simp
              simp only [Act.put, List.setIfInBounds_toArray, List.set_cons_zero, List.set_cons_succ]
              refine wpAnyH_take (i := 1) (v := .int .i64 (b : Int)) (lit rfl) (by kernel_rfl) (by kernel_rfl) (by kernel_rfl) (fun _ _ _ h => h) (Or.inl ⟨by rfl, ?_⟩) hSd ?_
              · rintro w6 ⟨k1, k2⟩
                go_simp
              simp only [Act.put, List.setIfInBounds_toArray, List.set_cons_zero, List.set_cons_succ]
              refine wpAnyH_take (i := 2) (v := .bool true) (lit rfl) (by kernel_rfl) (by kernel_rfl) (by kernel_rfl) (fun _ _ _ h => h) (Or.inl ⟨by rfl, ?_⟩) hSd ?_
              · rintro w6 ⟨k1, k2⟩
                go_simp
              simp only [Act.put, List.setIfInBounds_toArray, List.set_cons_zero, List.set_cons_succ]
              refine wpAnyH_take (i := 3) (v := .bool true) (lit rfl) (by kernel_rfl) (by kernel_rfl) (by kernel_rfl) (fun _ _ _ h => h) (Or.inl ⟨by rfl, ?_⟩) hSd ?_
              · rintro w6 ⟨k1, k2⟩
                go_simp
              simp only [Act.put, List.setIfInBounds_toArray, List.set_cons_zero, List.set_cons_succ]
              refine wpAnyH_take (i := 4) (v := .slice (some ⟨g, off, none⟩) n c) (lit rfl) (by kernel_rfl) (by kernel_rfl) (by kernel_rfl) (fun _ _ _ h => h) (Or.inl ⟨by rfl, ?_⟩) hSd ?_
              · rintro w6 ⟨k1, k2⟩
                go_simp
              simp only [Act.put, List.setIfInBounds_toArray, List.set_cons_zero, List.set_cons_succ]
              refine wpAnyH_take (i := 5) (v := .int .i64 ((i + 1 : Nat) : Int)) (lit rfl) (by kernel_rfl) (by kernel_rfl) (by kernel_rfl) (fun _ _ _ h => h) (Or.inl ⟨by rfl, ?_⟩) hSd ?_
              · rintro w6 ⟨k1, k2⟩
                go_simp
              simp only [Act.put, List.setIfInBounds_toArray, List.set_cons_zero, List.set_cons_succ]
              refine wpAnyH_take (i := 6) (v := .pointer (some ⟨g, off + (i + 1), none⟩)) (lit rfl) (by kernel_rfl) (by kernel_rfl) (by kernel_rfl) (fun _ _ _ h => h) (Or.inl ⟨by rfl, ?_⟩) hSd ?_
              · rintro w6 ⟨k1, k2⟩
                go_simp
              simp only [Act.put, List.setIfInBounds_toArray, List.set_cons_zero, List.set_cons_succ]
              refine wpAnyH_take (i := 7) (v := .int .u64 (x : Int)) (lit rfl) (by kernel_rfl) (by kernel_rfl) (by kernel_rfl) (fun _ _ _ h => h) (Or.inl ⟨by rfl, ?_⟩) hSd ?_
              · rintro w6 ⟨k1, k2⟩
                go_simp
              simp only [Act.put, List.setIfInBounds_toArray, List.set_cons_zero, List.set_cons_succ]
              refine wpAnyH_take (i := 8) (v := .slice (some ⟨g, off, none⟩) n c) (lit rfl) (by kernel_rfl) (by kernel_rfl) (by kernel_rfl) (fun _ _ _ h => h) (Or.inl ⟨by rfl, ?_⟩) hSd ?_
              · rintro w6 ⟨k1, k2⟩
                go_simp
              simp only [Act.put, List.setIfInBounds_toArray, List.set_cons_zero, List.set_cons_succ]
              refine wpAnyH_take (i := 9) (v := .int .i64 ((i + 1 : Nat) : Int)) (lit rfl) (by kernel_rfl) (by kernel_rfl) (by kernel_rfl) (fun _ _ _ h => h) (Or.inl ⟨by rfl, ?_⟩) hSd ?_
              · rintro w6 ⟨k1, k2⟩
                go_simp
              simp only [Act.put, List.setIfInBounds_toArray, List.set_cons_zero, List.set_cons_succ]
              refine wpAnyH_take (i := 10) (v := .int .i64 (i : Int)) (lit rfl) (by kernel_rfl) (by kernel_rfl) (by kernel_rfl) (fun _ _ _ h => h) (Or.inl ⟨by rfl, ?_⟩) hSd ?_
              · rintro w6 ⟨k1, k2⟩
                go_simp
              simp only [Act.put, List.setIfInBounds_toArray, List.set_cons_zero, List.set_cons_succ]
              refine wpAnyH_take (i := 11) (v := .pointer (some ⟨g, off + i, none⟩)) (lit rfl) (by kernel_rfl) (by kernel_rfl) (by kernel_rfl) (fun _ _ _ h => h) (Or.inl ⟨by rfl, ?_⟩) hSd ?_
              · rintro w6 ⟨k1, k2⟩
                go_simp
              simp only [Act.put, List.setIfInBounds_toArray, List.set_cons_zero, List.set_cons_succ]
              refine wpAnyH_take (i := 12) (v := .int .u64 (y : Int)) (lit rfl) (by kernel_rfl) (by kernel_rfl) (by kernel_rfl) (fun _ _ _ h => h) (Or.inl ⟨by rfl, ?_⟩) hSd ?_
              · rintro w6 ⟨k1, k2⟩
                go_simp
              simp only [Act.put, List.setIfInBounds_toArray, List.set_cons_zero, List.set_cons_succ]
              refine wpAnyH_ready (rs := [13]) (by kernel_rfl) (by simp) ?_
              refine AllReadyH.cons (lit rfl) (fun K5 hK5 => ?_) AllReadyH.nil
              go_simp
              go_at_call 28
              (with_reducible refine (HLS.out _ _ _).mono ?_)
              rintro e7 w7 ⟨rfl, rfl⟩
              rw [HL.out]
              refine hK5.out _ _ hSd (fun _ => ?_)
              clear hK5 K5
              refine wpAnyH_take (i := 14) (v := .bool false) (lit rfl) (by kernel_rfl) (by kernel_rfl) (by kernel_rfl) (fun _ _ _ h => h) (Or.inl ⟨by rfl, ?_⟩) hSd ?_
              · rintro w6 ⟨k1, k2⟩
                go_simp
              simp only [Act.put, List.setIfInBounds_toArray, List.set_cons_zero, List.set_cons_succ]
              refine wpAnyH_take (i := 15) (v := .bool false) (lit rfl) (by kernel_rfl) (by kernel_rfl) (by kernel_rfl) (fun _ _ _ h => h) (Or.inl ⟨by rfl, ?_⟩) hSd ?_
              · rintro w6 ⟨k1, k2⟩
                go_simp
              simp only [Act.put, List.setIfInBounds_toArray, List.set_cons_zero, List.set_cons_succ]
              refine wpAnyH_done (by kernel_rfl) ?_ _
              refine hK _ _ ?_
              go_wp2
              rename_i K hK
              refine wp_heldK (fun w' : World => w'.cell? ⟨g, off + (i + 1), none⟩ = some (.int .u64 (x : Int)) ∧ w'.cell? ⟨g, off + i, none⟩ = some (.int .u64 (y : Int))) 15 K hmx ?_ (fun _ _ h => h)
              refine wpAnyK_pure (i := 0) (v := .slice (some ⟨g, off, none⟩) n c) rfl (by kernel_rfl) (by kernel_rfl) (by kernel_rfl) (by decide) (fun _ _ _ h => h) (Or.inl ⟨by rfl, ?_⟩) (.inr hSd) ?_
              · intro w6 _
                go_simp
              simp only [Act.put, List.setIfInBounds_toArray, List.set_cons_zero, List.set_cons_succ, List.getElem_toArray, List.getElem_cons_zero]
              refine wpAnyK_pure (i := 1) (v := .int .i64 ((i + 1 : Nat) : Int)) rfl (by kernel_rfl) (by kernel_rfl) (by kernel_rfl) (by decide) (fun _ _ _ h => h) (Or.inl ⟨by rfl, ?_⟩) (.inr hSd) ?_
              · intro w6 _
                go_simp
              simp only [Act.put, List.setIfInBounds_toArray, List.set_cons_zero, List.set_cons_succ, List.getElem_toArray, List.getElem_cons_zero, List.getElem_cons_succ]
              refine wpAnyK_pure (i := 2) (v := .slice (some ⟨g, off, none⟩) n c) rfl (by kernel_rfl) (by kernel_rfl) (by kernel_rfl) (by decide) (fun _ _ _ h => h) (Or.inl ⟨by rfl, ?_⟩) (.inr hSd) ?_
              · intro w6 _
                go_simp
              simp only [Act.put, List.setIfInBounds_toArray, List.set_cons_zero, List.set_cons_succ, List.getElem_toArray, List.getElem_cons_zero, List.getElem_cons_succ]
              refine wpAnyK_pure (i := 3) (v := .int .i64 ((i + 1 : Nat) : Int)) rfl (by kernel_rfl) (by kernel_rfl) (by kernel_rfl) (by decide) (fun _ _ _ h => h) (Or.inl ⟨by rfl, ?_⟩) (.inr hSd) ?_
              · intro w6 _
                go_simp
              simp only [Act.put, List.setIfInBounds_toArray, List.set_cons_zero, List.set_cons_succ, List.getElem_toArray, List.getElem_cons_zero, List.getElem_cons_succ]
              refine wpAnyK_pure (i := 4) (v := .int .i64 (i : Int)) rfl (by kernel_rfl) (by kernel_rfl) (by kernel_rfl) (by decide) (fun _ _ _ h => h) (Or.inl ⟨by rfl, ?_⟩) (.inr hSd) ?_
              · intro w6 _
                go_simp
              simp only [Act.put, List.setIfInBounds_toArray, List.set_cons_zero, List.set_cons_succ, List.getElem_toArray, List.getElem_cons_zero, List.getElem_cons_succ]
              refine wpAnyK_pure (i := 5) (v := .slice (some ⟨g, off, none⟩) n c) rfl (by kernel_rfl) (by kernel_rfl) (by kernel_rfl) (by decide) (fun _ _ _ h => h) (Or.inl ⟨by rfl, ?_⟩) (.inr hSd) ?_
              · intro w6 _
                go_simp
              simp only [Act.put, List.setIfInBounds_toArray, List.set_cons_zero, List.set_cons_succ, List.getElem_toArray, List.getElem_cons_zero, List.getElem_cons_succ]
              refine wpAnyK_pure (i := 6) (v := .int .i64 ((i + 1 : Nat) : Int)) rfl (by kernel_rfl) (by kernel_rfl) (by kernel_rfl) (by decide) (fun _ _ _ h => h) (Or.inl ⟨by rfl, ?_⟩) (.inr hSd) ?_
              · intro w6 _
                go_simp
              simp only [Act.put, List.setIfInBounds_toArray, List.set_cons_zero, List.set_cons_succ, List.getElem_toArray, List.getElem_cons_zero, List.getElem_cons_succ]
              refine wpAnyK_pure (i := 7) (v := .int .i64 (i : Int)) rfl (by kernel_rfl) (by kernel_rfl) (by kernel_rfl) (by decide) (fun _ _ _ h => h) (Or.inl ⟨by rfl, ?_⟩) (.inr hSd) ?_
              · intro w6 _
                go_simp
              simp only [Act.put, List.setIfInBounds_toArray, List.set_cons_zero, List.set_cons_succ, List.getElem_toArray, List.getElem_cons_zero, List.getElem_cons_succ]
              refine wpAnyK_pure (i := 8) (v := .pointer (some ⟨g, off + i, none⟩)) rfl (by kernel_rfl) (by kernel_rfl) (by kernel_rfl) (by decide) (fun _ _ _ h => h) (Or.inl ⟨by rfl, ?_⟩) (.inr hSd) ?_
              · intro w6 _
                go_simp
              simp only [Act.put, List.setIfInBounds_toArray, List.set_cons_zero, List.set_cons_succ, List.getElem_toArray, List.getElem_cons_zero, List.getElem_cons_succ]
              refine wpAnyK_take (i := 9) (v := .int .u64 (y : Int)) rfl (by kernel_rfl) (by kernel_rfl) (by kernel_rfl) (by kernel_rfl) (by decide) (by kernel_rfl) (fun _ _ _ h => h) (Or.inl ⟨by rfl, ?_⟩) hSd ?_
              · rintro w6 ⟨k1, k2⟩
                go_simp
              simp only [Act.put, List.setIfInBounds_toArray, List.set_cons_zero, List.set_cons_succ, List.getElem_toArray, List.getElem_cons_zero, List.getElem_cons_succ]
              refine wpAnyK_pure (i := 10) (v := .slice (some ⟨g, off, none⟩) n c) rfl (by kernel_rfl) (by kernel_rfl) (by kernel_rfl) (by decide) (fun _ _ _ h => h) (Or.inl ⟨by rfl, ?_⟩) (.inr hSd) ?_
              · intro w6 _
                go_simp
              simp only [Act.put, List.setIfInBounds_toArray, List.set_cons_zero, List.set_cons_succ, List.getElem_toArray, List.getElem_cons_zero, List.getElem_cons_succ]
              refine wpAnyK_pure (i := 11) (v := .int .i64 ((i + 1 : Nat) : Int)) rfl (by kernel_rfl) (by kernel_rfl) (by kernel_rfl) (by decide) (fun _ _ _ h => h) (Or.inl ⟨by rfl, ?_⟩) (.inr hSd) ?_
              · intro w6 _
                go_simp
              simp only [Act.put, List.setIfInBounds_toArray, List.set_cons_zero, List.set_cons_succ, List.getElem_toArray, List.getElem_cons_zero, List.getElem_cons_succ]
              refine wpAnyK_pure (i := 12) (v := .pointer (some ⟨g, off + (i + 1), none⟩)) rfl (by kernel_rfl) (by kernel_rfl) (by kernel_rfl) (by decide) (fun _ _ _ h => h) (Or.inl ⟨by rfl, ?_⟩) (.inr hSd) ?_
              · intro w6 _
                go_simp
              simp only [Act.put, List.setIfInBounds_toArray, List.set_cons_zero, List.set_cons_succ, List.getElem_toArray, List.getElem_cons_zero, List.getElem_cons_succ]
              refine wpAnyK_take (i := 13) (v := .int .u64 (x : Int)) rfl (by kernel_rfl) (by kernel_rfl) (by kernel_rfl) (by kernel_rfl) (by decide) (by kernel_rfl) (fun _ _ _ h => h) (Or.inl ⟨by rfl, ?_⟩) hSd ?_
              · rintro w6 ⟨k1, k2⟩
                go_simp
              simp only [Act.put, List.setIfInBounds_toArray, List.set_cons_zero, List.set_cons_succ, List.getElem_toArray, List.getElem_cons_zero, List.getElem_cons_succ]
              refine wpAnyK_pure (i := 14) (v := .pointer (some ⟨g, off + (i + 1), none⟩)) rfl (by kernel_rfl) (by kernel_rfl) (by kernel_rfl) (by decide) (fun _ _ _ h => h) (Or.inl ⟨by rfl, ?_⟩) (.inr hSd) ?_
              · intro w6 _
                go_simp
              simp only [Act.put, List.setIfInBounds_toArray, List.set_cons_zero, List.set_cons_succ, List.getElem_toArray, List.getElem_cons_zero, List.getElem_cons_succ]
              refine wpAnyK_one (i := 15) (by kernel_rfl) rfl (fun K5 hK5 => ?_)
              go_simp
              refine hK5.out _ _ (.inl (by kernel_rfl)) ?_
              clear hK5 K5
              refine wpAnyK_pure (i := 16) (v := .pointer (some ⟨g, off + i, none⟩)) rfl (by kernel_rfl) (by kernel_rfl) (by kernel_rfl) (by decide) (fun _ _ _ h => h) (Or.inl ⟨by rfl, ?_⟩) (.inl (by kernel_rfl)) ?_
              · intro w6 _
                go_simp
              simp only [Act.put, List.setIfInBounds_toArray, List.set_cons_zero, List.set_cons_succ, List.getElem_toArray, List.getElem_cons_zero, List.getElem_cons_succ]
              refine wpAnyK_one (i := 17) (by kernel_rfl) rfl (fun K5 hK5 => ?_)
              go_simp
              refine hK5.out _ _ (.inl (by kernel_rfl)) ?_
              clear hK5 K5
              refine wpAnyK_done (by kernel_rfl) ?_ _
              refine hK _ _ ?_
              clear ca cb hSd HL hsw2 fa fb j0 j1 j2 j3 j4 hwj
              by_cases h1 : 2 ≤ i + 1 - a
              · have g1 : (2 : Int) ≤ (i : Int) + 1 - (a : Int) := by omega
                have g1' : (2 : Int) ≤ ((i + 1 : Nat) : Int) - (a : Int) := by omega
                have HDS : Hid ((if i + 1 - a ≥ 2 then shiftDown ltU i d1 else d1) = shiftDown ltU i d1) := Lib.hid (if_pos h1)
                go_wp2
                go_loopw [9] (fun vj wr => ∃ (j : Nat) (dd : Array Nat), vj = .int .i64 (j : Int) ∧ j < i + 1 ∧ SU W0 g off n dd wr ∧ shiftDown ltU j dd = shiftDown ltU i d1) (fun vj _ => (intOf vj).toNat)
                case atStart => exact ⟨i, d1, by go_num, by omega, M1.out, rfl⟩
                case round =>
                  obtain ⟨j0', dd, rfl, hji, h1, h4⟩ := hrel
                  have P1 := Lib.hid h1
                  have P4 := Lib.hid h4
                  clear h1 h4
                  by_cases hj0 : 1 ≤ j0'
                  · obtain ⟨j, rfl⟩ : ∃ j, j0' = j + 1 := ⟨j0' - 1, by omega⟩
                    have l0 : (1 : Int) ≤ (j : Int) + 1 := by omega
                    have l2 : (1 : Int) ≤ ((j + 1 : Nat) : Int) := by omega
                    have ca := P1.out.cell (j + 1) (by omega)
                    have cb := P1.out.cell j (by omega)
                    have hsw := P1.out.swap (i := j + 1) (j := j) (by omega) (by omega)
                    have fa := P1.out.free (off + (j + 1))
                    have fb := P1.out.free (off + j)
                    obtain ⟨x, hx⟩ : ∃ x, dd[j + 1]! = x := ⟨_, rfl⟩
                    obtain ⟨y, hy⟩ : ∃ y, dd[j]! = y := ⟨_, rfl⟩
                    rw [hx] at ca hsw
                    rw [hy] at cb hsw
                    obtain ⟨hsw1, u, hsw2⟩ := hsw
                    have HSW := Lib.hid hsw1
                    clear hsw1
                    have j0 : (0 : Int) ≤ (j : Int) := by omega
                    have j1 : (j : Int) < (n : Int) := by omega
                    have j2 : ¬ ((j : Int) + 1 < 0) := by omega
                    have j3 : (j : Int) + 1 < (n : Int) := by omega
                    have j4 : (0 : Int) ≤ (j : Int) + 1 := by omega
                    have hwj : IntKind.i64.wrap (j : Int) = (j : Int) := by rw [IntKind.wrap_i64]; omega
                    have hSd : (fun w' : World => w'.cell? ⟨g, off + (j + 1), none⟩ = some (.int .u64 (x : Int)) ∧ w'.cell? ⟨g, off + j, none⟩ = some (.int .u64 (y : Int))) _ := ⟨ca, cb⟩
                    cases hv : ltU dd[j + 1]! dd[j]!
                    · have HD : Hid ((if i + 1 - a ≥ 2 then shiftDown ltU i d1 else d1) = dd) := Lib.hid (by rw [HDS.out, ← P4.out]; exact shiftDownU_end (Or.inr (by simpa using hv)))
                      have Q1 := Lib.hid P1.out.drew
                      have HL : Hid (ltU x y = false) := Lib.hid (by rw [← hx, ← hy]; exact hv)
                      clear hv hx hy
                      go_wp2
                      rename_i K hK
                      refine wp_held (fun w' : World => w'.cell? ⟨g, off + (j + 1), none⟩ = some (.int .u64 (x : Int)) ∧ w'.cell? ⟨g, off + j, none⟩ = some (.int .u64 (y : Int))) K hmx ?_ (fun _ _ h => h)
                      refine wpAnyH_take (i := 0) (v := .slice (some ⟨g, off, none⟩) n c) (lit rfl) (by kernel_rfl) (by kernel_rfl) (by kernel_rfl) (fun _ _ _ h => h) (Or.inl ⟨by rfl, ?_⟩) hSd ?_
                      · rintro w6 ⟨k1, k2⟩
                        go_simp
                      simp only [Act.put, List.setIfInBounds_toArray, List.set_cons_zero, List.set_cons_succ]
                      refine wpAnyH_take (i := 1) (v := .int .i64 ((j + 1 : Nat) : Int)) (lit rfl) (by kernel_rfl) (by kernel_rfl) (by kernel_rfl) (fun _ _ _ h => h) (Or.inl ⟨by rfl, ?_⟩) hSd ?_
                      · rintro w6 ⟨k1, k2⟩
                        go_simp
                      simp only [Act.put, List.setIfInBounds_toArray, List.set_cons_zero, List.set_cons_succ]
                      refine wpAnyH_take (i := 2) (v := .pointer (some ⟨g, off + (j + 1), none⟩)) (lit rfl) (by kernel_rfl) (by kernel_rfl) (by kernel_rfl) (fun _ _ _ h => h) (Or.inl ⟨by rfl, ?_⟩) hSd ?_
                      · rintro w6 ⟨k1, k2⟩
                        go_simp
                      simp only [Act.put, List.setIfInBounds_toArray, List.set_cons_zero, List.set_cons_succ]
                      refine wpAnyH_take (i := 3) (v := .int .u64 (x : Int)) (lit rfl) (by kernel_rfl) (by kernel_rfl) (by kernel_rfl) (fun _ _ _ h => h) (Or.inl ⟨by rfl, ?_⟩) hSd ?_
                      · rintro w6 ⟨k1, k2⟩
                        go_simp
                      simp only [Act.put, List.setIfInBounds_toArray, List.set_cons_zero, List.set_cons_succ]
                      refine wpAnyH_take (i := 4) (v := .slice (some ⟨g, off, none⟩) n c) (lit rfl) (by kernel_rfl) (by kernel_rfl) (by kernel_rfl) (fun _ _ _ h => h) (Or.inl ⟨by rfl, ?_⟩) hSd ?_
                      · rintro w6 ⟨k1, k2⟩
                        go_simp
                      simp only [Act.put, List.setIfInBounds_toArray, List.set_cons_zero, List.set_cons_succ]
                      refine wpAnyH_take (i := 5) (v := .int .i64 ((j + 1 : Nat) : Int)) (lit rfl) (by kernel_rfl) (by kernel_rfl) (by kernel_rfl) (fun _ _ _ h => h) (Or.inl ⟨by rfl, ?_⟩) hSd ?_
                      · rintro w6 ⟨k1, k2⟩
                        go_simp
                      simp only [Act.put, List.setIfInBounds_toArray, List.set_cons_zero, List.set_cons_succ]
                      refine wpAnyH_take (i := 6) (v := .int .i64 (j : Int)) (lit rfl) (by kernel_rfl) (by kernel_rfl) (by kernel_rfl) (fun _ _ _ h => h) (Or.inl ⟨by rfl, ?_⟩) hSd ?_
                      · rintro w6 ⟨k1, k2⟩
                        go_simp
                      simp only [Act.put, List.setIfInBounds_toArray, List.set_cons_zero, List.set_cons_succ]
                      refine wpAnyH_take (i := 7) (v := .pointer (some ⟨g, off + j, none⟩)) (lit rfl) (by kernel_rfl) (by kernel_rfl) (by kernel_rfl) (fun _ _ _ h => h) (Or.inl ⟨by rfl, ?_⟩) hSd ?_
                      · rintro w6 ⟨k1, k2⟩
                        go_simp
                      simp only [Act.put, List.setIfInBounds_toArray, List.set_cons_zero, List.set_cons_succ]
                      refine wpAnyH_take (i := 8) (v := .int .u64 (y : Int)) (lit rfl) (by kernel_rfl) (by kernel_rfl) (by kernel_rfl) (fun _ _ _ h => h) (Or.inl ⟨by rfl, ?_⟩) hSd ?_
                      · rintro w6 ⟨k1, k2⟩
                        go_simp
                      simp only [Act.put, List.setIfInBounds_toArray, List.set_cons_zero, List.set_cons_succ]
                      refine wpAnyH_ready (rs := [9]) (by kernel_rfl) (by simp) ?_
                      refine AllReadyH.cons (lit rfl) (fun K5 hK5 => ?_) AllReadyH.nil
                      refine step_open rfl ?_
                      go_simp
                      go_at_call 28
                      (with_reducible refine (HLS.out _ _ _).mono ?_)
                      rintro e7 w7 ⟨rfl, rfl⟩
                      rw [HL.out]
                      refine hK5.out _ _ hSd (fun _ => ?_)
                      clear hK5 K5
                      refine wpAnyH_take (i := 10) (v := .bool true) (lit rfl) (by kernel_rfl) (by kernel_rfl) (by kernel_rfl) (fun _ _ _ h => h) (Or.inl ⟨by rfl, ?_⟩) hSd ?_
                      · rintro w6 ⟨k1, k2⟩
                        go_simp
                      simp only [Act.put, List.setIfInBounds_toArray, List.set_cons_zero, List.set_cons_succ]
                      refine wpAnyH_done (by kernel_rfl) ?_ _
                      refine hK _ _ ?_
                      clear ca cb hSd HL hsw2 fa fb j0 j1 j2 j3 j4 hwj
                      by_cases h2 : 2 ≤ b - (i + 1)
                      · have g2 : (2 : Int) ≤ (b : Int) - ((i : Int) + 1) := by omega
                        have g3 : (2 : Int) ≤ (b : Int) - ((i + 1 : Nat) : Int) := by omega
                        have HUS : Hid ((if b - (i + 1) ≥ 2 then shiftUp ltU b (i + 1 + 1) dd else dd) = shiftUp ltU b (i + 1 + 1) dd) := Lib.hid (if_pos h2)
                        go_wp2
                        go_loopw [10] (fun vj wr => ∃ (j : Nat) (du : Array Nat), vj = .int .i64 (j : Int) ∧ i + 1 < j ∧ j ≤ b ∧ SU W0 g off n du wr ∧ shiftUp ltU b j du = shiftUp ltU b (i + 1 + 1) dd) (fun vj _ => b + 1 - (intOf vj).toNat)
                        case atStart => exact ⟨i + 1 + 1, dd, by go_num, by omega, by omega, Q1.out, rfl⟩
                        case round =>
                          obtain ⟨j0', du, rfl, hju, hjb, h1, h4⟩ := hrel
                          have N1 := Lib.hid h1
                          have N4 := Lib.hid h4
                          clear h1 h4
                          by_cases hlt : j0' < b
                          · obtain ⟨j, rfl⟩ : ∃ j, j0' = j + 1 := ⟨j0' - 1, by omega⟩
                            have l1 : (j : Int) + 1 < (b : Int) := by omega
                            have l2 : ((j + 1 : Nat) : Int) < (b : Int) := by omega
                            have ca := N1.out.cell (j + 1) (by omega)
                            have cb := N1.out.cell j (by omega)
                            have hsw := N1.out.swap (i := j + 1) (j := j) (by omega) (by omega)
                            have fa := N1.out.free (off + (j + 1))
                            have fb := N1.out.free (off + j)
                            obtain ⟨x, hx⟩ : ∃ x, du[j + 1]! = x := ⟨_, rfl⟩
                            obtain ⟨y, hy⟩ : ∃ y, du[j]! = y := ⟨_, rfl⟩
                            rw [hx] at ca hsw
                            rw [hy] at cb hsw
                            obtain ⟨hsw1, u, hsw2⟩ := hsw
                            have HSW := Lib.hid hsw1
                            clear hsw1
                            have j0 : (0 : Int) ≤ (j : Int) := by omega
                            have j1 : (j : Int) < (n : Int) := by omega
                            have j2 : ¬ ((j : Int) + 1 < 0) := by omega
                            have j3 : (j : Int) + 1 < (n : Int) := by omega
                            have j4 : (0 : Int) ≤ (j : Int) + 1 := by omega
                            have hwj : IntKind.i64.wrap (j : Int) = (j : Int) := by rw [IntKind.wrap_i64]; omega
                            have hSd : (fun w' : World => w'.cell? ⟨g, off + (j + 1), none⟩ = some (.int .u64 (x : Int)) ∧ w'.cell? ⟨g, off + j, none⟩ = some (.int .u64 (y : Int))) _ := ⟨ca, cb⟩
                            cases hv : ltU du[j + 1]! du[j]!
                            · have HU : Hid ((if b - (i + 1) ≥ 2 then shiftUp ltU b (i + 1 + 1) dd else dd) = du) := Lib.hid (by rw [HUS.out, ← N4.out]; exact shiftUpU_end (Or.inr (by simpa using hv)))
                              have R1 := Lib.hid N1.out.drew
                              have HL : Hid (ltU x y = false) := Lib.hid (by rw [← hx, ← hy]; exact hv)
                              clear hv hx hy
                              go_wp2
                              rename_i K hK
                              refine wp_held (fun w' : World => w'.cell? ⟨g, off + (j + 1), none⟩ = some (.int .u64 (x : Int)) ∧ w'.cell? ⟨g, off + j, none⟩ = some (.int .u64 (y : Int))) K hmx ?_ (fun _ _ h => h)
                              refine wpAnyH_take (i := 0) (v := .slice (some ⟨g, off, none⟩) n c) (lit rfl) (by kernel_rfl) (by kernel_rfl) (by kernel_rfl) (fun _ _ _ h => h) (Or.inl ⟨by rfl, ?_⟩) hSd ?_
                              · rintro w6 ⟨k1, k2⟩
                                go_simp
                              simp only [Act.put, List.setIfInBounds_toArray, List.set_cons_zero, List.set_cons_succ]
                              refine wpAnyH_take (i := 1) (v := .int .i64 ((j + 1 : Nat) : Int)) (lit rfl) (by kernel_rfl) (by kernel_rfl) (by kernel_rfl) (fun _ _ _ h => h) (Or.inl ⟨by rfl, ?_⟩) hSd ?_
                              · rintro w6 ⟨k1, k2⟩
                                go_simp
                              simp only [Act.put, List.setIfInBounds_toArray, List.set_cons_zero, List.set_cons_succ]
                              refine wpAnyH_take (i := 2) (v := .pointer (some ⟨g, off + (j + 1), none⟩)) (lit rfl) (by kernel_rfl) (by kernel_rfl) (by kernel_rfl) (fun _ _ _ h => h) (Or.inl ⟨by rfl, ?_⟩) hSd ?_
                              · rintro w6 ⟨k1, k2⟩
                                go_simp
                              simp only [Act.put, List.setIfInBounds_toArray, List.set_cons_zero, List.set_cons_succ]
                              refine wpAnyH_take (i := 3) (v := .int .u64 (x : Int)) (lit rfl) (by kernel_rfl) (by kernel_rfl) (by kernel_rfl) (fun _ _ _ h => h) (Or.inl ⟨by rfl, ?_⟩) hSd ?_
                              · rintro w6 ⟨k1, k2⟩
                                go_simp
                              simp only [Act.put, List.setIfInBounds_toArray, List.set_cons_zero, List.set_cons_succ]
                              refine wpAnyH_take (i := 4) (v := .slice (some ⟨g, off, none⟩) n c) (lit rfl) (by kernel_rfl) (by kernel_rfl) (by kernel_rfl) (fun _ _ _ h => h) (Or.inl ⟨by rfl, ?_⟩) hSd ?_
                              · rintro w6 ⟨k1, k2⟩
                                go_simp
                              simp only [Act.put, List.setIfInBounds_toArray, List.set_cons_zero, List.set_cons_succ]
                              refine wpAnyH_take (i := 5) (v := .int .i64 ((j + 1 : Nat) : Int)) (lit rfl) (by kernel_rfl) (by kernel_rfl) (by kernel_rfl) (fun _ _ _ h => h) (Or.inl ⟨by rfl, ?_⟩) hSd ?_
                              · rintro w6 ⟨k1, k2⟩
                                go_simp
                              simp only [Act.put, List.setIfInBounds_toArray, List.set_cons_zero, List.set_cons_succ]
                              refine wpAnyH_take (i := 6) (v := .int .i64 (j : Int)) (lit rfl) (by kernel_rfl) (by kernel_rfl) (by kernel_rfl) (fun _ _ _ h => h) (Or.inl ⟨by rfl, ?_⟩) hSd ?_
                              · rintro w6 ⟨k1, k2⟩
                                go_simp
                              simp only [Act.put, List.setIfInBounds_toArray, List.set_cons_zero, List.set_cons_succ]
                              refine wpAnyH_take (i := 7) (v := .pointer (some ⟨g, off + j, none⟩)) (lit rfl) (by kernel_rfl) (by kernel_rfl) (by kernel_rfl) (fun _ _ _ h => h) (Or.inl ⟨by rfl, ?_⟩) hSd ?_
                              · rintro w6 ⟨k1, k2⟩
                                go_simp
                              simp only [Act.put, List.setIfInBounds_toArray, List.set_cons_zero, List.set_cons_succ]
                              refine wpAnyH_take (i := 8) (v := .int .u64 (y : Int)) (lit rfl) (by kernel_rfl) (by kernel_rfl) (by kernel_rfl) (fun _ _ _ h => h) (Or.inl ⟨by rfl, ?_⟩) hSd ?_
                              · rintro w6 ⟨k1, k2⟩
                                go_simp
                              simp only [Act.put, List.setIfInBounds_toArray, List.set_cons_zero, List.set_cons_succ]
                              refine wpAnyH_ready (rs := [9]) (by kernel_rfl) (by simp) ?_
                              refine AllReadyH.cons (lit rfl) (fun K5 hK5 => ?_) AllReadyH.nil
                              refine step_open rfl ?_
                              go_simp
                              go_at_call 28
                              (with_reducible refine (HLS.out _ _ _).mono ?_)
                              rintro e7 w7 ⟨rfl, rfl⟩
                              rw [HL.out]
                              refine hK5.out _ _ hSd (fun _ => ?_)
                              clear hK5 K5
                              refine wpAnyH_take (i := 10) (v := .bool true) (lit rfl) (by kernel_rfl) (by kernel_rfl) (by kernel_rfl) (fun _ _ _ h => h) (Or.inl ⟨by rfl, ?_⟩) hSd ?_
                              · rintro w6 ⟨k1, k2⟩
                                go_simp
                              simp only [Act.put, List.setIfInBounds_toArray, List.set_cons_zero, List.set_cons_succ]
                              refine wpAnyH_done (by kernel_rfl) ?_ _
                              refine hK _ _ ?_
                              clear ca cb hSd HL hsw2 fa fb j0 j1 j2 j3 j4 hwj
                              go_wp2
                              go_roundw
                              case rel => exact ⟨i + 1, s, du, rfl, congrArg (Value.int .i64) (by have := HZS.out; omega), by omega, by omega, by omega, R1.out, by rw [← K4.out, HN.out, HD.out, HU.out]⟩
                              case measure => simp [intOf]; omega
                            · have HV := Lib.hid (shiftUpU_more (lt := ltU) (d := du) hlt (by simpa using hv))
                              rw [Nat.add_sub_cancel] at HV
                              have R2 := Lib.hid HSW.out.drew.drew
                              have HL : Hid (ltU x y = true) := Lib.hid (by rw [← hx, ← hy]; exact hv)
                              clear hv hx hy
                              go_wp2
                              rename_i K hK
                              refine wp_held (fun w' : World => w'.cell? ⟨g, off + (j + 1), none⟩ = some (.int .u64 (x : Int)) ∧ w'.cell? ⟨g, off + j, none⟩ = some (.int .u64 (y : Int))) K hmx ?_ (fun _ _ h => h)
                              refine wpAnyH_take (i := 0) (v := .slice (some ⟨g, off, none⟩) n c) (lit rfl) (by kernel_rfl) (by kernel_rfl) (by kernel_rfl) (fun _ _ _ h => h) (Or.inl ⟨by rfl, ?_⟩) hSd ?_
                              · rintro w6 ⟨k1, k2⟩
                                go_simp
                              simp only [Act.put, List.setIfInBounds_toArray, List.set_cons_zero, List.set_cons_succ]
                              refine wpAnyH_take (i := 1) (v := .int .i64 ((j + 1 : Nat) : Int)) (lit rfl) (by kernel_rfl) (by kernel_rfl) (by kernel_rfl) (fun _ _ _ h => h) (Or.inl ⟨by rfl, ?_⟩) hSd ?_
                              · rintro w6 ⟨k1, k2⟩
                                go_simp
                              simp only [Act.put, List.setIfInBounds_toArray, List.set_cons_zero, List.set_cons_succ]
                              refine wpAnyH_take (i := 2) (v := .pointer (some ⟨g, off + (j + 1), none⟩)) (lit rfl) (by kernel_rfl) (by kernel_rfl) (by kernel_rfl) (fun _ _ _ h => h) (Or.inl ⟨by rfl, ?_⟩) hSd ?_
                              · rintro w6 ⟨k1, k2⟩
                                go_simp
                              simp only [Act.put, List.setIfInBounds_toArray, List.set_cons_zero, List.set_cons_succ]
                              refine wpAnyH_take (i := 3) (v := .int .u64 (x : Int)) (lit rfl) (by kernel_rfl) (by kernel_rfl) (by kernel_rfl) (fun _ _ _ h => h) (Or.inl ⟨by rfl, ?_⟩) hSd ?_
                              · rintro w6 ⟨k1, k2⟩
                                go_simp
                              simp only [Act.put, List.setIfInBounds_toArray, List.set_cons_zero, List.set_cons_succ]
                              refine wpAnyH_take (i := 4) (v := .slice (some ⟨g, off, none⟩) n c) (lit rfl) (by kernel_rfl) (by kernel_rfl) (by kernel_rfl) (fun _ _ _ h => h) (Or.inl ⟨by rfl, ?_⟩) hSd ?_
                              · rintro w6 ⟨k1, k2⟩
                                go_simp
                              simp only [Act.put, List.setIfInBounds_toArray, List.set_cons_zero, List.set_cons_succ]
                              refine wpAnyH_take (i := 5) (v := .int .i64 ((j + 1 : Nat) : Int)) (lit rfl) (by kernel_rfl) (by kernel_rfl) (by kernel_rfl) (fun _ _ _ h => h) (Or.inl ⟨by rfl, ?_⟩) hSd ?_
                              · rintro w6 ⟨k1, k2⟩
                                go_simp
                              simp only [Act.put, List.setIfInBounds_toArray, List.set_cons_zero, List.set_cons_succ]
                              refine wpAnyH_take (i := 6) (v := .int .i64 (j : Int)) (lit rfl) (by kernel_rfl) (by kernel_rfl) (by kernel_rfl) (fun _ _ _ h => h) (Or.inl ⟨by rfl, ?_⟩) hSd ?_
                              · rintro w6 ⟨k1, k2⟩
                                go_simp
                              simp only [Act.put, List.setIfInBounds_toArray, List.set_cons_zero, List.set_cons_succ]
                              refine wpAnyH_take (i := 7) (v := .pointer (some ⟨g, off + j, none⟩)) (lit rfl) (by kernel_rfl) (by kernel_rfl) (by kernel_rfl) (fun _ _ _ h => h) (Or.inl ⟨by rfl, ?_⟩) hSd ?_
                              · rintro w6 ⟨k1, k2⟩
                                go_simp
                              simp only [Act.put, List.setIfInBounds_toArray, List.set_cons_zero, List.set_cons_succ]
                              refine wpAnyH_take (i := 8) (v := .int .u64 (y : Int)) (lit rfl) (by kernel_rfl) (by kernel_rfl) (by kernel_rfl) (fun _ _ _ h => h) (Or.inl ⟨by rfl, ?_⟩) hSd ?_
                              · rintro w6 ⟨k1, k2⟩
                                go_simp
                              simp only [Act.put, List.setIfInBounds_toArray, List.set_cons_zero, List.set_cons_succ]
                              refine wpAnyH_ready (rs := [9]) (by kernel_rfl) (by simp) ?_
                              refine AllReadyH.cons (lit rfl) (fun K5 hK5 => ?_) AllReadyH.nil
                              refine step_open rfl ?_
                              go_simp
                              go_at_call 28
                              (with_reducible refine (HLS.out _ _ _).mono ?_)
                              rintro e7 w7 ⟨rfl, rfl⟩
                              rw [HL.out]
                              refine hK5.out _ _ hSd (fun _ => ?_)
                              clear hK5 K5
                              refine wpAnyH_take (i := 10) (v := .bool false) (lit rfl) (by kernel_rfl) (by kernel_rfl) (by kernel_rfl) (fun _ _ _ h => h) (Or.inl ⟨by rfl, ?_⟩) hSd ?_
                              · rintro w6 ⟨k1, k2⟩
                                go_simp
                              simp only [Act.put, List.setIfInBounds_toArray, List.set_cons_zero, List.set_cons_succ]
                              refine wpAnyH_done (by kernel_rfl) ?_ _
                              refine hK _ _ ?_
                              go_wp2
                              rename_i K9 hK9 K8 HC
                              refine wp_heldQ (fun w' : World => w'.cell? ⟨g, off + (j + 1), none⟩ = some (.int .u64 (x : Int)) ∧ w'.cell? ⟨g, off + j, none⟩ = some (.int .u64 (y : Int))) 15 hmx ?_
                              refine wpAnyK_pure (i := 0) (v := .slice (some ⟨g, off, none⟩) n c) rfl (by kernel_rfl) (by kernel_rfl) (by kernel_rfl) (by decide) (fun _ _ _ h => h) (Or.inl ⟨by rfl, ?_⟩) (.inr hSd) ?_
                              · intro w6 _
                                go_simp
                              simp only [Act.put, List.setIfInBounds_toArray, List.set_cons_zero, List.set_cons_succ, List.getElem_toArray, List.getElem_cons_zero]
                              refine wpAnyK_pure (i := 1) (v := .int .i64 ((j + 1 : Nat) : Int)) rfl (by kernel_rfl) (by kernel_rfl) (by kernel_rfl) (by decide) (fun _ _ _ h => h) (Or.inl ⟨by rfl, ?_⟩) (.inr hSd) ?_
                              · intro w6 _
                                go_simp
                              simp only [Act.put, List.setIfInBounds_toArray, List.set_cons_zero, List.set_cons_succ, List.getElem_toArray, List.getElem_cons_zero, List.getElem_cons_succ]
                              refine wpAnyK_pure (i := 2) (v := .slice (some ⟨g, off, none⟩) n c) rfl (by kernel_rfl) (by kernel_rfl) (by kernel_rfl) (by decide) (fun _ _ _ h => h) (Or.inl ⟨by rfl, ?_⟩) (.inr hSd) ?_
                              · intro w6 _
                                go_simp
                              simp only [Act.put, List.setIfInBounds_toArray, List.set_cons_zero, List.set_cons_succ, List.getElem_toArray, List.getElem_cons_zero, List.getElem_cons_succ]
                              refine wpAnyK_pure (i := 3) (v := .int .i64 ((j + 1 : Nat) : Int)) rfl (by kernel_rfl) (by kernel_rfl) (by kernel_rfl) (by decide) (fun _ _ _ h => h) (Or.inl ⟨by rfl, ?_⟩) (.inr hSd) ?_
                              · intro w6 _
                                go_simp
                              simp only [Act.put, List.setIfInBounds_toArray, List.set_cons_zero, List.set_cons_succ, List.getElem_toArray, List.getElem_cons_zero, List.getElem_cons_succ]
                              refine wpAnyK_pure (i := 4) (v := .int .i64 (j : Int)) rfl (by kernel_rfl) (by kernel_rfl) (by kernel_rfl) (by decide) (fun _ _ _ h => h) (Or.inl ⟨by rfl, ?_⟩) (.inr hSd) ?_
                              · intro w6 _
                                go_simp
                              simp only [Act.put, List.setIfInBounds_toArray, List.set_cons_zero, List.set_cons_succ, List.getElem_toArray, List.getElem_cons_zero, List.getElem_cons_succ]
                              refine wpAnyK_pure (i := 5) (v := .slice (some ⟨g, off, none⟩) n c) rfl (by kernel_rfl) (by kernel_rfl) (by kernel_rfl) (by decide) (fun _ _ _ h => h) (Or.inl ⟨by rfl, ?_⟩) (.inr hSd) ?_
                              · intro w6 _
                                go_simp
                              simp only [Act.put, List.setIfInBounds_toArray, List.set_cons_zero, List.set_cons_succ, List.getElem_toArray, List.getElem_cons_zero, List.getElem_cons_succ]
                              refine wpAnyK_pure (i := 6) (v := .int .i64 ((j + 1 : Nat) : Int)) rfl (by kernel_rfl) (by kernel_rfl) (by kernel_rfl) (by decide) (fun _ _ _ h => h) (Or.inl ⟨by rfl, ?_⟩) (.inr hSd) ?_
                              · intro w6 _
                                go_simp
                              simp only [Act.put, List.setIfInBounds_toArray, List.set_cons_zero, List.set_cons_succ, List.getElem_toArray, List.getElem_cons_zero, List.getElem_cons_succ]
                              refine wpAnyK_pure (i := 7) (v := .int .i64 (j : Int)) rfl (by kernel_rfl) (by kernel_rfl) (by kernel_rfl) (by decide) (fun _ _ _ h => h) (Or.inl ⟨by rfl, ?_⟩) (.inr hSd) ?_
                              · intro w6 _
                                go_simp
                              simp only [Act.put, List.setIfInBounds_toArray, List.set_cons_zero, List.set_cons_succ, List.getElem_toArray, List.getElem_cons_zero, List.getElem_cons_succ]
                              refine wpAnyK_pure (i := 8) (v := .pointer (some ⟨g, off + j, none⟩)) rfl (by kernel_rfl) (by kernel_rfl) (by kernel_rfl) (by decide) (fun _ _ _ h => h) (Or.inl ⟨by rfl, ?_⟩) (.inr hSd) ?_
                              · intro w6 _
                                go_simp
                              simp only [Act.put, List.setIfInBounds_toArray, List.set_cons_zero, List.set_cons_succ, List.getElem_toArray, List.getElem_cons_zero, List.getElem_cons_succ]
                              refine wpAnyK_take (i := 9) (v := .int .u64 (y : Int)) rfl (by kernel_rfl) (by kernel_rfl) (by kernel_rfl) (by kernel_rfl) (by decide) (by kernel_rfl) (fun _ _ _ h => h) (Or.inl ⟨by rfl, ?_⟩) hSd ?_
                              · rintro w6 ⟨k1, k2⟩
                                go_simp
                              simp only [Act.put, List.setIfInBounds_toArray, List.set_cons_zero, List.set_cons_succ, List.getElem_toArray, List.getElem_cons_zero, List.getElem_cons_succ]
                              refine wpAnyK_pure (i := 10) (v := .slice (some ⟨g, off, none⟩) n c) rfl (by kernel_rfl) (by kernel_rfl) (by kernel_rfl) (by decide) (fun _ _ _ h => h) (Or.inl ⟨by rfl, ?_⟩) (.inr hSd) ?_
                              · intro w6 _
                                go_simp
                              simp only [Act.put, List.setIfInBounds_toArray, List.set_cons_zero, List.set_cons_succ, List.getElem_toArray, List.getElem_cons_zero, List.getElem_cons_succ]
                              refine wpAnyK_pure (i := 11) (v := .int .i64 ((j + 1 : Nat) : Int)) rfl (by kernel_rfl) (by kernel_rfl) (by kernel_rfl) (by decide) (fun _ _ _ h => h) (Or.inl ⟨by rfl, ?_⟩) (.inr hSd) ?_
                              · intro w6 _
                                go_simp
                              simp only [Act.put, List.setIfInBounds_toArray, List.set_cons_zero, List.set_cons_succ, List.getElem_toArray, List.getElem_cons_zero, List.getElem_cons_succ]
                              refine wpAnyK_pure (i := 12) (v := .pointer (some ⟨g, off + (j + 1), none⟩)) rfl (by kernel_rfl) (by kernel_rfl) (by kernel_rfl) (by decide) (fun _ _ _ h => h) (Or.inl ⟨by rfl, ?_⟩) (.inr hSd) ?_
                              · intro w6 _
                                go_simp
                              simp only [Act.put, List.setIfInBounds_toArray, List.set_cons_zero, List.set_cons_succ, List.getElem_toArray, List.getElem_cons_zero, List.getElem_cons_succ]
                              refine wpAnyK_take (i := 13) (v := .int .u64 (x : Int)) rfl (by kernel_rfl) (by kernel_rfl) (by kernel_rfl) (by kernel_rfl) (by decide) (by kernel_rfl) (fun _ _ _ h => h) (Or.inl ⟨by rfl, ?_⟩) hSd ?_
                              · rintro w6 ⟨k1, k2⟩
                                go_simp
                              simp only [Act.put, List.setIfInBounds_toArray, List.set_cons_zero, List.set_cons_succ, List.getElem_toArray, List.getElem_cons_zero, List.getElem_cons_succ]
                              refine wpAnyK_pure (i := 14) (v := .pointer (some ⟨g, off + (j + 1), none⟩)) rfl (by kernel_rfl) (by kernel_rfl) (by kernel_rfl) (by decide) (fun _ _ _ h => h) (Or.inl ⟨by rfl, ?_⟩) (.inr hSd) ?_
                              · intro w6 _
                                go_simp
                              simp only [Act.put, List.setIfInBounds_toArray, List.set_cons_zero, List.set_cons_succ, List.getElem_toArray, List.getElem_cons_zero, List.getElem_cons_succ]
                              refine wpAnyK_one (i := 15) (by kernel_rfl) rfl (fun K5 hK5 => ?_)
                              go_simp
                              refine hK5.out _ _ (.inl (by kernel_rfl)) ?_
                              clear hK5 K5
                              refine wpAnyK_pure (i := 16) (v := .pointer (some ⟨g, off + j, none⟩)) rfl (by kernel_rfl) (by kernel_rfl) (by kernel_rfl) (by decide) (fun _ _ _ h => h) (Or.inl ⟨by rfl, ?_⟩) (.inl (by kernel_rfl)) ?_
                              · intro w6 _
                                go_simp
                              simp only [Act.put, List.setIfInBounds_toArray, List.set_cons_zero, List.set_cons_succ, List.getElem_toArray, List.getElem_cons_zero, List.getElem_cons_succ]
                              refine wpAnyK_one (i := 17) (by kernel_rfl) rfl (fun K5 hK5 => ?_)
                              go_simp
                              refine hK5.out _ _ (.inl (by kernel_rfl)) ?_
                              clear hK5 K5
                              refine wpAnyK_done (by kernel_rfl) ?_ _
                              refine hK9 _ _ ?_
                              clear ca cb hSd HL hsw2 fa fb j0 j1 j2 j3 j4 hwj
                              go_wp2
                              go_roundw
                              case rel => exact ⟨j + 1 + 1, _, by go_num, by omega, by omega, R2.out, by rw [← N4.out, HV.out]⟩
                              case measure => simp [intOf]; omega
                          · have l1 : ¬ (j0' : Int) < (b : Int) := by omega
                            have HU : Hid ((if b - (i + 1) ≥ 2 then shiftUp ltU b (i + 1 + 1) dd else dd) = du) := Lib.hid (by rw [HUS.out, ← N4.out]; exact shiftUpU_end (Or.inl hlt))
                            go_wp2
                            go_roundw
                            case rel => exact ⟨i + 1, s, du, rfl, congrArg (Value.int .i64) (by have := HZS.out; omega), by omega, by omega, by omega, N1.out, by rw [← K4.out, HN.out, HD.out, HU.out]⟩
                            case measure => simp [intOf]; omega
                      · have g2 : ¬ (2 : Int) ≤ (b : Int) - ((i : Int) + 1) := by omega
                        have g3 : ¬ (2 : Int) ≤ (b : Int) - ((i + 1 : Nat) : Int) := by omega
                        have HU : Hid ((if b - (i + 1) ≥ 2 then shiftUp ltU b (i + 1 + 1) dd else dd) = dd) := Lib.hid (if_neg h2)
                        go_wp2
                        go_roundw
                        case rel => exact ⟨i + 1, s, dd, rfl, congrArg (Value.int .i64) (by have := HZS.out; omega), by omega, by omega, by omega, Q1.out, by rw [← K4.out, HN.out, HD.out, HU.out]⟩
                        case measure => simp [intOf]; omega
                    · have HV := Lib.hid (shiftDownU_more (lt := ltU) (d := dd) hj0 (by simpa using hv))
                      rw [Nat.add_sub_cancel] at HV
                      have R2 := Lib.hid HSW.out.drew.drew
                      have HL : Hid (ltU x y = true) := Lib.hid (by rw [← hx, ← hy]; exact hv)
                      clear hv hx hy
                      go_wp2
                      rename_i K hK
                      refine wp_held (fun w' : World => w'.cell? ⟨g, off + (j + 1), none⟩ = some (.int .u64 (x : Int)) ∧ w'.cell? ⟨g, off + j, none⟩ = some (.int .u64 (y : Int))) K hmx ?_ (fun _ _ h => h)
                      refine wpAnyH_take (i := 0) (v := .slice (some ⟨g, off, none⟩) n c) (lit rfl) (by kernel_rfl) (by kernel_rfl) (by kernel_rfl) (fun _ _ _ h => h) (Or.inl ⟨by rfl, ?_⟩) hSd ?_
                      · rintro w6 ⟨k1, k2⟩
                        go_simp
                      simp only [Act.put, List.setIfInBounds_toArray, List.set_cons_zero, List.set_cons_succ]
                      refine wpAnyH_take (i := 1) (v := .int .i64 ((j + 1 : Nat) : Int)) (lit rfl) (by kernel_rfl) (by kernel_rfl) (by kernel_rfl) (fun _ _ _ h => h) (Or.inl ⟨by rfl, ?_⟩) hSd ?_
                      · rintro w6 ⟨k1, k2⟩
                        go_simp
                      simp only [Act.put, List.setIfInBounds_toArray, List.set_cons_zero, List.set_cons_succ]
                      refine wpAnyH_take (i := 2) (v := .pointer (some ⟨g, off + (j + 1), none⟩)) (lit rfl) (by kernel_rfl) (by kernel_rfl) (by kernel_rfl) (fun _ _ _ h => h) (Or.inl ⟨by rfl, ?_⟩) hSd ?_
                      · rintro w6 ⟨k1, k2⟩
                        go_simp
                      simp only [Act.put, List.setIfInBounds_toArray, List.set_cons_zero, List.set_cons_succ]
                      refine wpAnyH_take (i := 3) (v := .int .u64 (x : Int)) (lit rfl) (by kernel_rfl) (by kernel_rfl) (by kernel_rfl) (fun _ _ _ h => h) (Or.inl ⟨by rfl, ?_⟩) hSd ?_
                      · rintro w6 ⟨k1, k2⟩
                        go_simp
                      simp only [Act.put, List.setIfInBounds_toArray, List.set_cons_zero, List.set_cons_succ]
                      refine wpAnyH_take (i := 4) (v := .slice (some ⟨g, off, none⟩) n c) (lit rfl) (by kernel_rfl) (by kernel_rfl) (by kernel_rfl) (fun _ _ _ h => h) (Or.inl ⟨by rfl, ?_⟩) hSd ?_
                      · rintro w6 ⟨k1, k2⟩
                        go_simp
                      simp only [Act.put, List.setIfInBounds_toArray, List.set_cons_zero, List.set_cons_succ]
                      refine wpAnyH_take (i := 5) (v := .int .i64 ((j + 1 : Nat) : Int)) (lit rfl) (by kernel_rfl) (by kernel_rfl) (by kernel_rfl) (fun _ _ _ h => h) (Or.inl ⟨by rfl, ?_⟩) hSd ?_
                      · rintro w6 ⟨k1, k2⟩
                        go_simp
                      simp only [Act.put, List.setIfInBounds_toArray, List.set_cons_zero, List.set_cons_succ]
                      refine wpAnyH_take (i := 6) (v := .int .i64 (j : Int)) (lit rfl) (by kernel_rfl) (by kernel_rfl) (by kernel_rfl) (fun _ _ _ h => h) (Or.inl ⟨by rfl, ?_⟩) hSd ?_
                      · rintro w6 ⟨k1, k2⟩
                        go_simp
                      simp only [Act.put, List.setIfInBounds_toArray, List.set_cons_zero, List.set_cons_succ]
                      refine wpAnyH_take (i := 7) (v := .pointer (some ⟨g, off + j, none⟩)) (lit rfl) (by kernel_rfl) (by kernel_rfl) (by kernel_rfl) (fun _ _ _ h => h) (Or.inl ⟨by rfl, ?_⟩) hSd ?_
                      · rintro w6 ⟨k1, k2⟩
                        go_simp
                      simp only [Act.put, List.setIfInBounds_toArray, List.set_cons_zero, List.set_cons_succ]
                      refine wpAnyH_take (i := 8) (v := .int .u64 (y : Int)) (lit rfl) (by kernel_rfl) (by kernel_rfl) (by kernel_rfl) (fun _ _ _ h => h) (Or.inl ⟨by rfl, ?_⟩) hSd ?_
                      · rintro w6 ⟨k1, k2⟩
                        go_simp
                      simp only [Act.put, List.setIfInBounds_toArray, List.set_cons_zero, List.set_cons_succ]
                      refine wpAnyH_ready (rs := [9]) (by kernel_rfl) (by simp) ?_
                      refine AllReadyH.cons (lit rfl) (fun K5 hK5 => ?_) AllReadyH.nil
                      refine step_open rfl ?_
                      go_simp
                      go_at_call 28
                      (with_reducible refine (HLS.out _ _ _).mono ?_)
                      rintro e7 w7 ⟨rfl, rfl⟩
                      rw [HL.out]
                      refine hK5.out _ _ hSd (fun _ => ?_)
                      clear hK5 K5
                      refine wpAnyH_take (i := 10) (v := .bool false) (lit rfl) (by kernel_rfl) (by kernel_rfl) (by kernel_rfl) (fun _ _ _ h => h) (Or.inl ⟨by rfl, ?_⟩) hSd ?_
                      · rintro w6 ⟨k1, k2⟩
                        go_simp
                      simp only [Act.put, List.setIfInBounds_toArray, List.set_cons_zero, List.set_cons_succ]
                      refine wpAnyH_done (by kernel_rfl) ?_ _
                      refine hK _ _ ?_
                      go_wp2
                      rename_i K9 hK9 K8 HC
                      refine wp_heldQ (fun w' : World => w'.cell? ⟨g, off + (j + 1), none⟩ = some (.int .u64 (x : Int)) ∧ w'.cell? ⟨g, off + j, none⟩ = some (.int .u64 (y : Int))) 15 hmx ?_
                      refine wpAnyK_pure (i := 0) (v := .slice (some ⟨g, off, none⟩) n c) rfl (by kernel_rfl) (by kernel_rfl) (by kernel_rfl) (by decide) (fun _ _ _ h => h) (Or.inl ⟨by rfl, ?_⟩) (.inr hSd) ?_
                      · intro w6 _
                        go_simp
                      simp only [Act.put, List.setIfInBounds_toArray, List.set_cons_zero, List.set_cons_succ, List.getElem_toArray, List.getElem_cons_zero]
                      refine wpAnyK_pure (i := 1) (v := .int .i64 ((j + 1 : Nat) : Int)) rfl (by kernel_rfl) (by kernel_rfl) (by kernel_rfl) (by decide) (fun _ _ _ h => h) (Or.inl ⟨by rfl, ?_⟩) (.inr hSd) ?_
                      · intro w6 _
                        go_simp
                      simp only [Act.put, List.setIfInBounds_toArray, List.set_cons_zero, List.set_cons_succ, List.getElem_toArray, List.getElem_cons_zero, List.getElem_cons_succ]
                      refine wpAnyK_pure (i := 2) (v := .slice (some ⟨g, off, none⟩) n c) rfl (by kernel_rfl) (by kernel_rfl) (by kernel_rfl) (by decide) (fun _ _ _ h => h) (Or.inl ⟨by rfl, ?_⟩) (.inr hSd) ?_
                      · intro w6 _
                        go_simp
                      simp only [Act.put, List.setIfInBounds_toArray, List.set_cons_zero, List.set_cons_succ, List.getElem_toArray, List.getElem_cons_zero, List.getElem_cons_succ]
                      refine wpAnyK_pure (i := 3) (v := .int .i64 ((j + 1 : Nat) : Int)) rfl (by kernel_rfl) (by kernel_rfl) (by kernel_rfl) (by decide) (fun _ _ _ h => h) (Or.inl ⟨by rfl, ?_⟩) (.inr hSd) ?_
                      · intro w6 _
                        go_simp
                      simp only [Act.put, List.setIfInBounds_toArray, List.set_cons_zero, List.set_cons_succ, List.getElem_toArray, List.getElem_cons_zero, List.getElem_cons_succ]
                      refine wpAnyK_pure (i := 4) (v := .int .i64 (j : Int)) rfl (by kernel_rfl) (by kernel_rfl) (by kernel_rfl) (by decide) (fun _ _ _ h => h) (Or.inl ⟨by rfl, ?_⟩) (.inr hSd) ?_
                      · intro w6 _
                        go_simp
                      simp only [Act.put, List.setIfInBounds_toArray, List.set_cons_zero, List.set_cons_succ, List.getElem_toArray, List.getElem_cons_zero, List.getElem_cons_succ]
                      refine wpAnyK_pure (i := 5) (v := .slice (some ⟨g, off, none⟩) n c) rfl (by kernel_rfl) (by kernel_rfl) (by kernel_rfl) (by decide) (fun _ _ _ h => h) (Or.inl ⟨by rfl, ?_⟩) (.inr hSd) ?_
                      · intro w6 _
                        go_simp
                      simp only [Act.put, List.setIfInBounds_toArray, List.set_cons_zero, List.set_cons_succ, List.getElem_toArray, List.getElem_cons_zero, List.getElem_cons_succ]
                      refine wpAnyK_pure (i := 6) (v := .int .i64 ((j + 1 : Nat) : Int)) rfl (by kernel_rfl) (by kernel_rfl) (by kernel_rfl) (by decide) (fun _ _ _ h => h) (Or.inl ⟨by rfl, ?_⟩) (.inr hSd) ?_
                      · intro w6 _
                        go_simp
                      simp only [Act.put, List.setIfInBounds_toArray, List.set_cons_zero, List.set_cons_succ, List.getElem_toArray, List.getElem_cons_zero, List.getElem_cons_succ]
                      refine wpAnyK_pure (i := 7) (v := .int .i64 (j : Int)) rfl (by kernel_rfl) (by kernel_rfl) (by kernel_rfl) (by decide) (fun _ _ _ h => h) (Or.inl ⟨by rfl, ?_⟩) (.inr hSd) ?_
                      · intro w6 _
                        go_simp
                      simp only [Act.put, List.setIfInBounds_toArray, List.set_cons_zero, List.set_cons_succ, List.getElem_toArray, List.getElem_cons_zero, List.getElem_cons_succ]
                      refine wpAnyK_pure (i := 8) (v := .pointer (some ⟨g, off + j, none⟩)) rfl (by kernel_rfl) (by kernel_rfl) (by kernel_rfl) (by decide) (fun _ _ _ h => h) (Or.inl ⟨by rfl, ?_⟩) (.inr hSd) ?_
                      · intro w6 _
                        go_simp
                      simp only [Act.put, List.setIfInBounds_toArray, List.set_cons_zero, List.set_cons_succ, List.getElem_toArray, List.getElem_cons_zero, List.getElem_cons_succ]
                      refine wpAnyK_take (i := 9) (v := .int .u64 (y : Int)) rfl (by kernel_rfl) (by kernel_rfl) (by kernel_rfl) (by kernel_rfl) (by decide) (by kernel_rfl) (fun _ _ _ h => h) (Or.inl ⟨by rfl, ?_⟩) hSd ?_
                      · rintro w6 ⟨k1, k2⟩
                        go_simp
                      simp only [Act.put, List.setIfInBounds_toArray, List.set_cons_zero, List.set_cons_succ, List.getElem_toArray, List.getElem_cons_zero, List.getElem_cons_succ]
                      refine wpAnyK_pure (i := 10) (v := .slice (some ⟨g, off, none⟩) n c) rfl (by kernel_rfl) (by kernel_rfl) (by kernel_rfl) (by decide) (fun _ _ _ h => h) (Or.inl ⟨by rfl, ?_⟩) (.inr hSd) ?_
                      · intro w6 _
                        go_simp
                      simp only [Act.put, List.setIfInBounds_toArray, List.set_cons_zero, List.set_cons_succ, List.getElem_toArray, List.getElem_cons_zero, List.getElem_cons_succ]
                      refine wpAnyK_pure (i := 11) (v := .int .i64 ((j + 1 : Nat) : Int)) rfl (by kernel_rfl) (by kernel_rfl) (by kernel_rfl) (by decide) (fun _ _ _ h => h) (Or.inl ⟨by rfl, ?_⟩) (.inr hSd) ?_
                      · intro w6 _
                        go_simp
                      simp only [Act.put, List.setIfInBounds_toArray, List.set_cons_zero, List.set_cons_succ, List.getElem_toArray, List.getElem_cons_zero, List.getElem_cons_succ]
                      refine wpAnyK_pure (i := 12) (v := .pointer (some ⟨g, off + (j + 1), none⟩)) rfl (by kernel_rfl) (by kernel_rfl) (by kernel_rfl) (by decide) (fun _ _ _ h => h) (Or.inl ⟨by rfl, ?_⟩) (.inr hSd) ?_
                      · intro w6 _
                        go_simp
                      simp only [Act.put, List.setIfInBounds_toArray, List.set_cons_zero, List.set_cons_succ, List.getElem_toArray, List.getElem_cons_zero, List.getElem_cons_succ]
                      refine wpAnyK_take (i := 13) (v := .int .u64 (x : Int)) rfl (by kernel_rfl) (by kernel_rfl) (by kernel_rfl) (by kernel_rfl) (by decide) (by kernel_rfl) (fun _ _ _ h => h) (Or.inl ⟨by rfl, ?_⟩) hSd ?_
                      · rintro w6 ⟨k1, k2⟩
                        go_simp
                      simp only [Act.put, List.setIfInBounds_toArray, List.set_cons_zero, List.set_cons_succ, List.getElem_toArray, List.getElem_cons_zero, List.getElem_cons_succ]
                      refine wpAnyK_pure (i := 14) (v := .pointer (some ⟨g, off + (j + 1), none⟩)) rfl (by kernel_rfl) (by kernel_rfl) (by kernel_rfl) (by decide) (fun _ _ _ h => h) (Or.inl ⟨by rfl, ?_⟩) (.inr hSd) ?_
                      · intro w6 _
                        go_simp
                      simp only [Act.put, List.setIfInBounds_toArray, List.set_cons_zero, List.set_cons_succ, List.getElem_toArray, List.getElem_cons_zero, List.getElem_cons_succ]
                      refine wpAnyK_one (i := 15) (by kernel_rfl) rfl (fun K5 hK5 => ?_)
                      go_simp
                      refine hK5.out _ _ (.inl (by kernel_rfl)) ?_
                      clear hK5 K5
                      refine wpAnyK_pure (i := 16) (v := .pointer (some ⟨g, off + j, none⟩)) rfl (by kernel_rfl) (by kernel_rfl) (by kernel_rfl) (by decide) (fun _ _ _ h => h) (Or.inl ⟨by rfl, ?_⟩) (.inl (by kernel_rfl)) ?_
                      · intro w6 _
                        go_simp
                      simp only [Act.put, List.setIfInBounds_toArray, List.set_cons_zero, List.set_cons_succ, List.getElem_toArray, List.getElem_cons_zero, List.getElem_cons_succ]
                      refine wpAnyK_one (i := 17) (by kernel_rfl) rfl (fun K5 hK5 => ?_)
                      go_simp
                      refine hK5.out _ _ (.inl (by kernel_rfl)) ?_
                      clear hK5 K5
                      refine wpAnyK_done (by kernel_rfl) ?_ _
                      refine hK9 _ _ ?_
                      clear ca cb hSd HL hsw2 fa fb j0 j1 j2 j3 j4 hwj
                      go_wp2
                      go_roundw
                      case rel => exact ⟨j, _, by go_num, by omega, R2.out, by rw [← P4.out, HV.out]⟩
                      case measure => simp [intOf]
                  · have l0 : ¬ (1 : Int) ≤ (j0' : Int) := by omega
                    have HD : Hid ((if i + 1 - a ≥ 2 then shiftDown ltU i d1 else d1) = dd) := Lib.hid (by rw [HDS.out, ← P4.out]; exact shiftDownU_end (Or.inl (by omega)))
                    by_cases h2 : 2 ≤ b - (i + 1)
                    · have g2 : (2 : Int) ≤ (b : Int) - ((i : Int) + 1) := by omega
                      have g3 : (2 : Int) ≤ (b : Int) - ((i + 1 : Nat) : Int) := by omega
                      have HUS : Hid ((if b - (i + 1) ≥ 2 then shiftUp ltU b (i + 1 + 1) dd else dd) = shiftUp ltU b (i + 1 + 1) dd) := Lib.hid (if_pos h2)
                      go_wp2
                      go_loopw [10] (fun vj wr => ∃ (j : Nat) (du : Array Nat), vj = .int .i64 (j : Int) ∧ i + 1 < j ∧ j ≤ b ∧ SU W0 g off n du wr ∧ shiftUp ltU b j du = shiftUp ltU b (i + 1 + 1) dd) (fun vj _ => b + 1 - (intOf vj).toNat)
                      case atStart => exact ⟨i + 1 + 1, dd, by go_num, by omega, by omega, P1.out, rfl⟩
                      case round =>
                        obtain ⟨j0', du, rfl, hju, hjb, h1, h4⟩ := hrel
                        have N1 := Lib.hid h1
                        have N4 := Lib.hid h4
                        clear h1 h4
                        by_cases hlt : j0' < b
                        · obtain ⟨j, rfl⟩ : ∃ j, j0' = j + 1 := ⟨j0' - 1, by omega⟩
                          have l1 : (j : Int) + 1 < (b : Int) := by omega
                          have l2 : ((j + 1 : Nat) : Int) < (b : Int) := by omega
                          have ca := N1.out.cell (j + 1) (by omega)
                          have cb := N1.out.cell j (by omega)
                          have hsw := N1.out.swap (i := j + 1) (j := j) (by omega) (by omega)
                          have fa := N1.out.free (off + (j + 1))
                          have fb := N1.out.free (off + j)
                          obtain ⟨x, hx⟩ : ∃ x, du[j + 1]! = x := ⟨_, rfl⟩
                          obtain ⟨y, hy⟩ : ∃ y, du[j]! = y := ⟨_, rfl⟩
                          rw [hx] at ca hsw
                          rw [hy] at cb hsw
                          obtain ⟨hsw1, u, hsw2⟩ := hsw
                          have HSW := Lib.hid hsw1
                          clear hsw1
                          have j0 : (0 : Int) ≤ (j : Int) := by omega
                          have j1 : (j : Int) < (n : Int) := by omega
                          have j2 : ¬ ((j : Int) + 1 < 0) := by omega
                          have j3 : (j : Int) + 1 < (n : Int) := by omega
                          have j4 : (0 : Int) ≤ (j : Int) + 1 := by omega
                          have hwj : IntKind.i64.wrap (j : Int) = (j : Int) := by rw [IntKind.wrap_i64]; omega
                          have hSd : (fun w' : World => w'.cell? ⟨g, off + (j + 1), none⟩ = some (.int .u64 (x : Int)) ∧ w'.cell? ⟨g, off + j, none⟩ = some (.int .u64 (y : Int))) _ := ⟨ca, cb⟩
                          cases hv : ltU du[j + 1]! du[j]!
                          · have HU : Hid ((if b - (i + 1) ≥ 2 then shiftUp ltU b (i + 1 + 1) dd else dd) = du) := Lib.hid (by rw [HUS.out, ← N4.out]; exact shiftUpU_end (Or.inr (by simpa using hv)))
                            have R1 := Lib.hid N1.out.drew
                            have HL : Hid (ltU x y = false) := Lib.hid (by rw [← hx, ← hy]; exact hv)
                            clear hv hx hy
                            go_wp2
                            rename_i K hK
                            refine wp_held (fun w' : World => w'.cell? ⟨g, off + (j + 1), none⟩ = some (.int .u64 (x : Int)) ∧ w'.cell? ⟨g, off + j, none⟩ = some (.int .u64 (y : Int))) K hmx ?_ (fun _ _ h => h)
                            refine wpAnyH_take (i := 0) (v := .slice (some ⟨g, off, none⟩) n c) (lit rfl) (by kernel_rfl) (by kernel_rfl) (by kernel_rfl) (fun _ _ _ h => h) (Or.inl ⟨by rfl, ?_⟩) hSd ?_
                            · rintro w6 ⟨k1, k2⟩
                              go_simp
                            simp only [Act.put, List.setIfInBounds_toArray, List.set_cons_zero, List.set_cons_succ]
                            refine wpAnyH_take (i := 1) (v := .int .i64 ((j + 1 : Nat) : Int)) (lit rfl) (by kernel_rfl) (by kernel_rfl) (by kernel_rfl) (fun _ _ _ h => h) (Or.inl ⟨by rfl, ?_⟩) hSd ?_
                            · rintro w6 ⟨k1, k2⟩
                              go_simp
                            simp only [Act.put, List.setIfInBounds_toArray, List.set_cons_zero, List.set_cons_succ]
                            refine wpAnyH_take (i := 2) (v := .pointer (some ⟨g, off + (j + 1), none⟩)) (lit rfl) (by kernel_rfl) (by kernel_rfl) (by kernel_rfl) (fun _ _ _ h => h) (Or.inl ⟨by rfl, ?_⟩) hSd ?_
                            · rintro w6 ⟨k1, k2⟩
                              go_simp
                            simp only [Act.put, List.setIfInBounds_toArray, List.set_cons_zero, List.set_cons_succ]
                            refine wpAnyH_take (i := 3) (v := .int .u64 (x : Int)) (lit rfl) (by kernel_rfl) (by kernel_rfl) (by kernel_rfl) (fun _ _ _ h => h) (Or.inl ⟨by rfl, ?_⟩) hSd ?_
                            · rintro w6 ⟨k1, k2⟩
                              go_simp
                            simp only [Act.put, List.setIfInBounds_toArray, List.set_cons_zero, List.set_cons_succ]
                            refine wpAnyH_take (i := 4) (v := .slice (some ⟨g, off, none⟩) n c) (lit rfl) (by kernel_rfl) (by kernel_rfl) (by kernel_rfl) (fun _ _ _ h => h) (Or.inl ⟨by rfl, ?_⟩) hSd ?_
                            · rintro w6 ⟨k1, k2⟩
                              go_simp
                            simp only [Act.put, List.setIfInBounds_toArray, List.set_cons_zero, List.set_cons_succ]
                            refine wpAnyH_take (i := 5) (v := .int .i64 ((j + 1 : Nat) : Int)) (lit rfl) (by kernel_rfl) (by kernel_rfl) (by kernel_rfl) (fun _ _ _ h => h) (Or.inl ⟨by rfl, ?_⟩) hSd ?_
                            · rintro w6 ⟨k1, k2⟩
                              go_simp
                            simp only [Act.put, List.setIfInBounds_toArray, List.set_cons_zero, List.set_cons_succ]
                            refine wpAnyH_take (i := 6) (v := .int .i64 (j : Int)) (lit rfl) (by kernel_rfl) (by kernel_rfl) (by kernel_rfl) (fun _ _ _ h => h) (Or.inl ⟨by rfl, ?_⟩) hSd ?_
                            · rintro w6 ⟨k1, k2⟩
                              go_simp
                            simp only [Act.put, List.setIfInBounds_toArray, List.set_cons_zero, List.set_cons_succ]
                            refine wpAnyH_take (i := 7) (v := .pointer (some ⟨g, off + j, none⟩)) (lit rfl) (by kernel_rfl) (by kernel_rfl) (by kernel_rfl) (fun _ _ _ h => h) (Or.inl ⟨by rfl, ?_⟩) hSd ?_
                            · rintro w6 ⟨k1, k2⟩
                              go_simp
                            simp only [Act.put, List.setIfInBounds_toArray, List.set_cons_zero, List.set_cons_succ]
                            refine wpAnyH_take (i := 8) (v := .int .u64 (y : Int)) (lit rfl) (by kernel_rfl) (by kernel_rfl) (by kernel_rfl) (fun _ _ _ h => h) (Or.inl ⟨by rfl, ?_⟩) hSd ?_
                            · rintro w6 ⟨k1, k2⟩
                              go_simp
                            simp only [Act.put, List.setIfInBounds_toArray, List.set_cons_zero, List.set_cons_succ]
                            refine wpAnyH_ready (rs := [9]) (by kernel_rfl) (by simp) ?_
                            refine AllReadyH.cons (lit rfl) (fun K5 hK5 => ?_) AllReadyH.nil
                            refine step_open rfl ?_
                            go_simp
                            go_at_call 28
                            (with_reducible refine (HLS.out _ _ _).mono ?_)
                            rintro e7 w7 ⟨rfl, rfl⟩
                            rw [HL.out]
                            refine hK5.out _ _ hSd (fun _ => ?_)
                            clear hK5 K5
                            refine wpAnyH_take (i := 10) (v := .bool true) (lit rfl) (by kernel_rfl) (by kernel_rfl) (by kernel_rfl) (fun _ _ _ h => h) (Or.inl ⟨by rfl, ?_⟩) hSd ?_
                            · rintro w6 ⟨k1, k2⟩
                              go_simp
                            simp only [Act.put, List.setIfInBounds_toArray, List.set_cons_zero, List.set_cons_succ]
                            refine wpAnyH_done (by kernel_rfl) ?_ _
                            refine hK _ _ ?_
                            clear ca cb hSd HL hsw2 fa fb j0 j1 j2 j3 j4 hwj
                            go_wp2
                            go_roundw
                            case rel => exact ⟨i + 1, s, du, rfl, congrArg (Value.int .i64) (by have := HZS.out; omega), by omega, by omega, by omega, R1.out, by rw [← K4.out, HN.out, HD.out, HU.out]⟩
                            case measure => simp [intOf]; omega
                          · have HV := Lib.hid (shiftUpU_more (lt := ltU) (d := du) hlt (by simpa using hv))
                            rw [Nat.add_sub_cancel] at HV
                            have R2 := Lib.hid HSW.out.drew.drew
                            have HL : Hid (ltU x y = true) := Lib.hid (by rw [← hx, ← hy]; exact hv)
                            clear hv hx hy
                            go_wp2
                            rename_i K hK
                            refine wp_held (fun w' : World => w'.cell? ⟨g, off + (j + 1), none⟩ = some (.int .u64 (x : Int)) ∧ w'.cell? ⟨g, off + j, none⟩ = some (.int .u64 (y : Int))) K hmx ?_ (fun _ _ h => h)
                            refine wpAnyH_take (i := 0) (v := .slice (some ⟨g, off, none⟩) n c) (lit rfl) (by kernel_rfl) (by kernel_rfl) (by kernel_rfl) (fun _ _ _ h => h) (Or.inl ⟨by rfl, ?_⟩) hSd ?_
                            · rintro w6 ⟨k1, k2⟩
                              go_simp
                            simp only [Act.put, List.setIfInBounds_toArray, List.set_cons_zero, List.set_cons_succ]
                            refine wpAnyH_take (i := 1) (v := .int .i64 ((j + 1 : Nat) : Int)) (lit rfl) (by kernel_rfl) (by kernel_rfl) (by kernel_rfl) (fun _ _ _ h => h) (Or.inl ⟨by rfl, ?_⟩) hSd ?_
                            · rintro w6 ⟨k1, k2⟩
                              go_simp
                            simp only [Act.put, List.setIfInBounds_toArray, List.set_cons_zero, List.set_cons_succ]
                            refine wpAnyH_take (i := 2) (v := .pointer (some ⟨g, off + (j + 1), none⟩)) (lit rfl) (by kernel_rfl) (by kernel_rfl) (by kernel_rfl) (fun _ _ _ h => h) (Or.inl ⟨by rfl, ?_⟩) hSd ?_
                            · rintro w6 ⟨k1, k2⟩
                              go_simp
                            simp only [Act.put, List.setIfInBounds_toArray, List.set_cons_zero, List.set_cons_succ]
                            refine wpAnyH_take (i := 3) (v := .int .u64 (x : Int)) (lit rfl) (by kernel_rfl) (by kernel_rfl) (by kernel_rfl) (fun _ _ _ h => h) (Or.inl ⟨by rfl, ?_⟩) hSd ?_
                            · rintro w6 ⟨k1, k2⟩
                              go_simp
                            simp only [Act.put, List.setIfInBounds_toArray, List.set_cons_zero, List.set_cons_succ]
                            refine wpAnyH_take (i := 4) (v := .slice (some ⟨g, off, none⟩) n c) (lit rfl) (by kernel_rfl) (by kernel_rfl) (by kernel_rfl) (fun _ _ _ h => h) (Or.inl ⟨by rfl, ?_⟩) hSd ?_
                            · rintro w6 ⟨k1, k2⟩
                              go_simp
                            simp only [Act.put, List.setIfInBounds_toArray, List.set_cons_zero, List.set_cons_succ]
                            refine wpAnyH_take (i := 5) (v := .int .i64 ((j + 1 : Nat) : Int)) (lit rfl) (by kernel_rfl) (by kernel_rfl) (by kernel_rfl) (fun _ _ _ h => h) (Or.inl ⟨by rfl, ?_⟩) hSd ?_
                            · rintro w6 ⟨k1, k2⟩
                              go_simp
                            simp only [Act.put, List.setIfInBounds_toArray, List.set_cons_zero, List.set_cons_succ]
                            refine wpAnyH_take (i := 6) (v := .int .i64 (j : Int)) (lit rfl) (by kernel_rfl) (by kernel_rfl) (by kernel_rfl) (fun _ _ _ h => h) (Or.inl ⟨by rfl, ?_⟩) hSd ?_
                            · rintro w6 ⟨k1, k2⟩
                              go_simp
                            simp only [Act.put, List.setIfInBounds_toArray, List.set_cons_zero, List.set_cons_succ]
                            refine wpAnyH_take (i := 7) (v := .pointer (some ⟨g, off + j, none⟩)) (lit rfl) (by kernel_rfl) (by kernel_rfl) (by kernel_rfl) (fun _ _ _ h => h) (Or.inl ⟨by rfl, ?_⟩) hSd ?_
                            · rintro w6 ⟨k1, k2⟩
                              go_simp
                            simp only [Act.put, List.setIfInBounds_toArray, List.set_cons_zero, List.set_cons_succ]
                            refine wpAnyH_take (i := 8) (v := .int .u64 (y : Int)) (lit rfl) (by kernel_rfl) (by kernel_rfl) (by kernel_rfl) (fun _ _ _ h => h) (Or.inl ⟨by rfl, ?_⟩) hSd ?_
                            · rintro w6 ⟨k1, k2⟩
                              go_simp
                            simp only [Act.put, List.setIfInBounds_toArray, List.set_cons_zero, List.set_cons_succ]
                            refine wpAnyH_ready (rs := [9]) (by kernel_rfl) (by simp) ?_
                            refine AllReadyH.cons (lit rfl) (fun K5 hK5 => ?_) AllReadyH.nil
                            refine step_open rfl ?_
                            go_simp
                            go_at_call 28
                            (with_reducible refine (HLS.out _ _ _).mono ?_)
                            rintro e7 w7 ⟨rfl, rfl⟩
                            rw [HL.out]
                            refine hK5.out _ _ hSd (fun _ => ?_)
                            clear hK5 K5
                            refine wpAnyH_take (i := 10) (v := .bool false) (lit rfl) (by kernel_rfl) (by kernel_rfl) (by kernel_rfl) (fun _ _ _ h => h) (Or.inl ⟨by rfl, ?_⟩) hSd ?_
                            · rintro w6 ⟨k1, k2⟩
                              go_simp
                            simp only [Act.put, List.setIfInBounds_toArray, List.set_cons_zero, List.set_cons_succ]
                            refine wpAnyH_done (by kernel_rfl) ?_ _
                            refine hK _ _ ?_
                            go_wp2
                            rename_i K9 hK9 K8 HC
                            refine wp_heldQ (fun w' : World => w'.cell? ⟨g, off + (j + 1), none⟩ = some (.int .u64 (x : Int)) ∧ w'.cell? ⟨g, off + j, none⟩ = some (.int .u64 (y : Int))) 15 hmx ?_
                            refine wpAnyK_pure (i := 0) (v := .slice (some ⟨g, off, none⟩) n c) rfl (by kernel_rfl) (by kernel_rfl) (by kernel_rfl) (by decide) (fun _ _ _ h => h) (Or.inl ⟨by rfl, ?_⟩) (.inr hSd) ?_
                            · intro w6 _
                              go_simp
                            simp only [Act.put, List.setIfInBounds_toArray, List.set_cons_zero, List.set_cons_succ, List.getElem_toArray, List.getElem_cons_zero]
                            refine wpAnyK_pure (i := 1) (v := .int .i64 ((j + 1 : Nat) : Int)) rfl (by kernel_rfl) (by kernel_rfl) (by kernel_rfl) (by decide) (fun _ _ _ h => h) (Or.inl ⟨by rfl, ?_⟩) (.inr hSd) ?_
                            · intro w6 _
                              go_simp
                            simp only [Act.put, List.setIfInBounds_toArray, List.set_cons_zero, List.set_cons_succ, List.getElem_toArray, List.getElem_cons_zero, List.getElem_cons_succ]
                            refine wpAnyK_pure (i := 2) (v := .slice (some ⟨g, off, none⟩) n c) rfl (by kernel_rfl) (by kernel_rfl) (by kernel_rfl) (by decide) (fun _ _ _ h => h) (Or.inl ⟨by rfl, ?_⟩) (.inr hSd) ?_
                            · intro w6 _
                              go_simp
                            simp only [Act.put, List.setIfInBounds_toArray, List.set_cons_zero, List.set_cons_succ, List.getElem_toArray, List.getElem_cons_zero, List.getElem_cons_succ]
                            refine wpAnyK_pure (i := 3) (v := .int .i64 ((j + 1 : Nat) : Int)) rfl (by kernel_rfl) (by kernel_rfl) (by kernel_rfl) (by decide) (fun _ _ _ h => h) (Or.inl ⟨by rfl, ?_⟩) (.inr hSd) ?_
                            · intro w6 _
                              go_simp
                            simp only [Act.put, List.setIfInBounds_toArray, List.set_cons_zero, List.set_cons_succ, List.getElem_toArray, List.getElem_cons_zero, List.getElem_cons_succ]
                            refine wpAnyK_pure (i := 4) (v := .int .i64 (j : Int)) rfl (by kernel_rfl) (by kernel_rfl) (by kernel_rfl) (by decide) (fun _ _ _ h => h) (Or.inl ⟨by rfl, ?_⟩) (.inr hSd) ?_
                            · intro w6 _
                              go_simp
                            simp only [Act.put, List.setIfInBounds_toArray, List.set_cons_zero, List.set_cons_succ, List.getElem_toArray, List.getElem_cons_zero, List.getElem_cons_succ]
                            refine wpAnyK_pure (i := 5) (v := .slice (some ⟨g, off, none⟩) n c) rfl (by kernel_rfl) (by kernel_rfl) (by kernel_rfl) (by decide) (fun _ _ _ h => h) (Or.inl ⟨by rfl, ?_⟩) (.inr hSd) ?_
                            · intro w6 _
                              go_simp
                            simp only [Act.put, List.setIfInBounds_toArray, List.set_cons_zero, List.set_cons_succ, List.getElem_toArray, List.getElem_cons_zero, List.getElem_cons_succ]
                            refine wpAnyK_pure (i := 6) (v := .int .i64 ((j + 1 : Nat) : Int)) rfl (by kernel_rfl) (by kernel_rfl) (by kernel_rfl) (by decide) (fun _ _ _ h => h) (Or.inl ⟨by rfl, ?_⟩) (.inr hSd) ?_
                            · intro w6 _
                              go_simp
                            simp only [Act.put, List.setIfInBounds_toArray, List.set_cons_zero, List.set_cons_succ, List.getElem_toArray, List.getElem_cons_zero, List.getElem_cons_succ]
                            refine wpAnyK_pure (i := 7) (v := .int .i64 (j : Int)) rfl (by kernel_rfl) (by kernel_rfl) (by kernel_rfl) (by decide) (fun _ _ _ h => h) (Or.inl ⟨by rfl, ?_⟩) (.inr hSd) ?_
                            · intro w6 _
                              go_simp
                            simp only [Act.put, List.setIfInBounds_toArray, List.set_cons_zero, List.set_cons_succ, List.getElem_toArray, List.getElem_cons_zero, List.getElem_cons_succ]
                            refine wpAnyK_pure (i := 8) (v := .pointer (some ⟨g, off + j, none⟩)) rfl (by kernel_rfl) (by kernel_rfl) (by kernel_rfl) (by decide) (fun _ _ _ h => h) (Or.inl ⟨by rfl, ?_⟩) (.inr hSd) ?_
                            · intro w6 _
                              go_simp
                            simp only [Act.put, List.setIfInBounds_toArray, List.set_cons_zero, List.set_cons_succ, List.getElem_toArray, List.getElem_cons_zero, List.getElem_cons_succ]
                            refine wpAnyK_take (i := 9) (v := .int .u64 (y : Int)) rfl (by kernel_rfl) (by kernel_rfl) (by kernel_rfl) (by kernel_rfl) (by decide) (by kernel_rfl) (fun _ _ _ h => h) (Or.inl ⟨by rfl, ?_⟩) hSd ?_
                            · rintro w6 ⟨k1, k2⟩
                              go_simp
                            simp only [Act.put, List.setIfInBounds_toArray, List.set_cons_zero, List.set_cons_succ, List.getElem_toArray, List.getElem_cons_zero, List.getElem_cons_succ]
                            refine wpAnyK_pure (i := 10) (v := .slice (some ⟨g, off, none⟩) n c) rfl (by kernel_rfl) (by kernel_rfl) (by kernel_rfl) (by decide) (fun _ _ _ h => h) (Or.inl ⟨by rfl, ?_⟩) (.inr hSd) ?_
                            · intro w6 _
                              go_simp
                            simp only [Act.put, List.setIfInBounds_toArray, List.set_cons_zero, List.set_cons_succ, List.getElem_toArray, List.getElem_cons_zero, List.getElem_cons_succ]
                            refine wpAnyK_pure (i := 11) (v := .int .i64 ((j + 1 : Nat) : Int)) rfl (by kernel_rfl) (by kernel_rfl) (by kernel_rfl) (by decide) (fun _ _ _ h => h) (Or.inl ⟨by rfl, ?_⟩) (.inr hSd) ?_
                            · intro w6 _
                              go_simp
                            simp only [Act.put, List.setIfInBounds_toArray, List.set_cons_zero, List.set_cons_succ, List.getElem_toArray, List.getElem_cons_zero, List.getElem_cons_succ]
                            refine wpAnyK_pure (i := 12) (v := .pointer (some ⟨g, off + (j + 1), none⟩)) rfl (by kernel_rfl) (by kernel_rfl) (by kernel_rfl) (by decide) (fun _ _ _ h => h) (Or.inl ⟨by rfl, ?_⟩) (.inr hSd) ?_
                            · intro w6 _
                              go_simp
                            simp only [Act.put, List.setIfInBounds_toArray, List.set_cons_zero, List.set_cons_succ, List.getElem_toArray, List.getElem_cons_zero, List.getElem_cons_succ]
                            refine wpAnyK_take (i := 13) (v := .int .u64 (x : Int)) rfl (by kernel_rfl) (by kernel_rfl) (by kernel_rfl) (by kernel_rfl) (by decide) (by kernel_rfl) (fun _ _ _ h => h) (Or.inl ⟨by rfl, ?_⟩) hSd ?_
                            · rintro w6 ⟨k1, k2⟩
                              go_simp
                            simp only [Act.put, List.setIfInBounds_toArray, List.set_cons_zero, List.set_cons_succ, List.getElem_toArray, List.getElem_cons_zero, List.getElem_cons_succ]
                            refine wpAnyK_pure (i := 14) (v := .pointer (some ⟨g, off + (j + 1), none⟩)) rfl (by kernel_rfl) (by kernel_rfl) (by kernel_rfl) (by decide) (fun _ _ _ h => h) (Or.inl ⟨by rfl, ?_⟩) (.inr hSd) ?_
                            · intro w6 _
                              go_simp
                            simp only [Act.put, List.setIfInBounds_toArray, List.set_cons_zero, List.set_cons_succ, List.getElem_toArray, List.getElem_cons_zero, List.getElem_cons_succ]
                            refine wpAnyK_one (i := 15) (by kernel_rfl) rfl (fun K5 hK5 => ?_)
                            go_simp
                            refine hK5.out _ _ (.inl (by kernel_rfl)) ?_
                            clear hK5 K5
                            refine wpAnyK_pure (i := 16) (v := .pointer (some ⟨g, off + j, none⟩)) rfl (by kernel_rfl) (by kernel_rfl) (by kernel_rfl) (by decide) (fun _ _ _ h => h) (Or.inl ⟨by rfl, ?_⟩) (.inl (by kernel_rfl)) ?_
                            · intro w6 _
                              go_simp
                            simp only [Act.put, List.setIfInBounds_toArray, List.set_cons_zero, List.set_cons_succ, List.getElem_toArray, List.getElem_cons_zero, List.getElem_cons_succ]
                            refine wpAnyK_one (i := 17) (by kernel_rfl) rfl (fun K5 hK5 => ?_)
                            go_simp
                            refine hK5.out _ _ (.inl (by kernel_rfl)) ?_
                            clear hK5 K5
                            refine wpAnyK_done (by kernel_rfl) ?_ _
                            refine hK9 _ _ ?_
                            clear ca cb hSd HL hsw2 fa fb j0 j1 j2 j3 j4 hwj
                            go_wp2
                            go_roundw
                            case rel => exact ⟨j + 1 + 1, _, by go_num, by omega, by omega, R2.out, by rw [← N4.out, HV.out]⟩
                            case measure => simp [intOf]; omega
                        · have l1 : ¬ (j0' : Int) < (b : Int) := by omega
                          have HU : Hid ((if b - (i + 1) ≥ 2 then shiftUp ltU b (i + 1 + 1) dd else dd) = du) := Lib.hid (by rw [HUS.out, ← N4.out]; exact shiftUpU_end (Or.inl hlt))
                          go_wp2
                          go_roundw
                          case rel => exact ⟨i + 1, s, du, rfl, congrArg (Value.int .i64) (by have := HZS.out; omega), by omega, by omega, by omega, N1.out, by rw [← K4.out, HN.out, HD.out, HU.out]⟩
                          case measure => simp [intOf]; omega
                    · have g2 : ¬ (2 : Int) ≤ (b : Int) - ((i : Int) + 1) := by omega
                      have g3 : ¬ (2 : Int) ≤ (b : Int) - ((i + 1 : Nat) : Int) := by omega
                      have HU : Hid ((if b - (i + 1) ≥ 2 then shiftUp ltU b (i + 1 + 1) dd else dd) = dd) := Lib.hid (if_neg h2)
                      go_wp2
                      go_roundw
                      case rel => exact ⟨i + 1, s, dd, rfl, congrArg (Value.int .i64) (by have := HZS.out; omega), by omega, by omega, by omega, P1.out, by rw [← K4.out, HN.out, HD.out, HU.out]⟩
                      case measure => simp [intOf]; omega
              · have g1 : ¬ (2 : Int) ≤ (i : Int) + 1 - (a : Int) := by omega
                have g1' : ¬ (2 : Int) ≤ ((i + 1 : Nat) : Int) - (a : Int) := by omega
                have HD : Hid ((if i + 1 - a ≥ 2 then shiftDown ltU i d1 else d1) = d1) := Lib.hid (if_neg h1)
                by_cases h2 : 2 ≤ b - (i + 1)
                · have g2 : (2 : Int) ≤ (b : Int) - ((i : Int) + 1) := by omega
                  have g3 : (2 : Int) ≤ (b : Int) - ((i + 1 : Nat) : Int) := by omega
                  have HUS : Hid ((if b - (i + 1) ≥ 2 then shiftUp ltU b (i + 1 + 1) d1 else d1) = shiftUp ltU b (i + 1 + 1) d1) := Lib.hid (if_pos h2)
                  go_wp2
                  go_loopw [10] (fun vj wr => ∃ (j : Nat) (du : Array Nat), vj = .int .i64 (j : Int) ∧ i + 1 < j ∧ j ≤ b ∧ SU W0 g off n du wr ∧ shiftUp ltU b j du = shiftUp ltU b (i + 1 + 1) d1) (fun vj _ => b + 1 - (intOf vj).toNat)
                  case atStart => exact ⟨i + 1 + 1, d1, by go_num, by omega, by omega, M1.out, rfl⟩
                  case round =>
                    obtain ⟨j0', du, rfl, hju, hjb, h1, h4⟩ := hrel
                    have N1 := Lib.hid h1
                    have N4 := Lib.hid h4
                    clear h1 h4
                    by_cases hlt : j0' < b
                    · obtain ⟨j, rfl⟩ : ∃ j, j0' = j + 1 := ⟨j0' - 1, by omega⟩
                      have l1 : (j : Int) + 1 < (b : Int) := by omega
                      have l2 : ((j + 1 : Nat) : Int) < (b : Int) := by omega
                      have ca := N1.out.cell (j + 1) (by omega)
                      have cb := N1.out.cell j (by omega)
                      have hsw := N1.out.swap (i := j + 1) (j := j) (by omega) (by omega)
                      have fa := N1.out.free (off + (j + 1))
                      have fb := N1.out.free (off + j)
                      obtain ⟨x, hx⟩ : ∃ x, du[j + 1]! = x := ⟨_, rfl⟩
                      obtain ⟨y, hy⟩ : ∃ y, du[j]! = y := ⟨_, rfl⟩
                      rw [hx] at ca hsw
                      rw [hy] at cb hsw
                      obtain ⟨hsw1, u, hsw2⟩ := hsw
                      have HSW := Lib.hid hsw1
                      clear hsw1
                      have j0 : (0 : Int) ≤ (j : Int) := by omega
                      have j1 : (j : Int) < (n : Int) := by omega
                      have j2 : ¬ ((j : Int) + 1 < 0) := by omega
                      have j3 : (j : Int) + 1 < (n : Int) := by omega
                      have j4 : (0 : Int) ≤ (j : Int) + 1 := by omega
                      have hwj : IntKind.i64.wrap (j : Int) = (j : Int) := by rw [IntKind.wrap_i64]; omega
                      have hSd : (fun w' : World => w'.cell? ⟨g, off + (j + 1), none⟩ = some (.int .u64 (x : Int)) ∧ w'.cell? ⟨g, off + j, none⟩ = some (.int .u64 (y : Int))) _ := ⟨ca, cb⟩
                      cases hv : ltU du[j + 1]! du[j]!
                      · have HU : Hid ((if b - (i + 1) ≥ 2 then shiftUp ltU b (i + 1 + 1) d1 else d1) = du) := Lib.hid (by rw [HUS.out, ← N4.out]; exact shiftUpU_end (Or.inr (by simpa using hv)))
                        have R1 := Lib.hid N1.out.drew
                        have HL : Hid (ltU x y = false) := Lib.hid (by rw [← hx, ← hy]; exact hv)
                        clear hv hx hy
                        go_wp2
                        rename_i K hK
                        refine wp_held (fun w' : World => w'.cell? ⟨g, off + (j + 1), none⟩ = some (.int .u64 (x : Int)) ∧ w'.cell? ⟨g, off + j, none⟩ = some (.int .u64 (y : Int))) K hmx ?_ (fun _ _ h => h)
                        refine wpAnyH_take (i := 0) (v := .slice (some ⟨g, off, none⟩) n c) (lit rfl) (by kernel_rfl) (by kernel_rfl) (by kernel_rfl) (fun _ _ _ h => h) (Or.inl ⟨by rfl, ?_⟩) hSd ?_
                        · rintro w6 ⟨k1, k2⟩
                          go_simp
                        simp only [Act.put, List.setIfInBounds_toArray, List.set_cons_zero, List.set_cons_succ]
                        refine wpAnyH_take (i := 1) (v := .int .i64 ((j + 1 : Nat) : Int)) (lit rfl) (by kernel_rfl) (by kernel_rfl) (by kernel_rfl) (fun _ _ _ h => h) (Or.inl ⟨by rfl, ?_⟩) hSd ?_
                        · rintro w6 ⟨k1, k2⟩
                          go_simp
                        simp only [Act.put, List.setIfInBounds_toArray, List.set_cons_zero, List.set_cons_succ]
                        refine wpAnyH_take (i := 2) (v := .pointer (some ⟨g, off + (j + 1), none⟩)) (lit rfl) (by kernel_rfl) (by kernel_rfl) (by kernel_rfl) (fun _ _ _ h => h) (Or.inl ⟨by rfl, ?_⟩) hSd ?_
                        · rintro w6 ⟨k1, k2⟩
                          go_simp
                        simp only [Act.put, List.setIfInBounds_toArray, List.set_cons_zero, List.set_cons_succ]
                        refine wpAnyH_take (i := 3) (v := .int .u64 (x : Int)) (lit rfl) (by kernel_rfl) (by kernel_rfl) (by kernel_rfl) (fun _ _ _ h => h) (Or.inl ⟨by rfl, ?_⟩) hSd ?_
                        · rintro w6 ⟨k1, k2⟩
                          go_simp
                        simp only [Act.put, List.setIfInBounds_toArray, List.set_cons_zero, List.set_cons_succ]
                        refine wpAnyH_take (i := 4) (v := .slice (some ⟨g, off, none⟩) n c) (lit rfl) (by kernel_rfl) (by kernel_rfl) (by kernel_rfl) (fun _ _ _ h => h) (Or.inl ⟨by rfl, ?_⟩) hSd ?_
                        · rintro w6 ⟨k1, k2⟩
                          go_simp
                        simp only [Act.put, List.setIfInBounds_toArray, List.set_cons_zero, List.set_cons_succ]
                        refine wpAnyH_take (i := 5) (v := .int .i64 ((j + 1 : Nat) : Int)) (lit rfl) (by kernel_rfl) (by kernel_rfl) (by kernel_rfl) (fun _ _ _ h => h) (Or.inl ⟨by rfl, ?_⟩) hSd ?_
                        · rintro w6 ⟨k1, k2⟩
                          go_simp
                        simp only [Act.put, List.setIfInBounds_toArray, List.set_cons_zero, List.set_cons_succ]
                        refine wpAnyH_take (i := 6) (v := .int .i64 (j : Int)) (lit rfl) (by kernel_rfl) (by kernel_rfl) (by kernel_rfl) (fun _ _ _ h => h) (Or.inl ⟨by rfl, ?_⟩) hSd ?_
                        · rintro w6 ⟨k1, k2⟩
                          go_simp
                        simp only [Act.put, List.setIfInBounds_toArray, List.set_cons_zero, List.set_cons_succ]
                        refine wpAnyH_take (i := 7) (v := .pointer (some ⟨g, off + j, none⟩)) (lit rfl) (by kernel_rfl) (by kernel_rfl) (by kernel_rfl) (fun _ _ _ h => h) (Or.inl ⟨by rfl, ?_⟩) hSd ?_
                        · rintro w6 ⟨k1, k2⟩
                          go_simp
                        simp only [Act.put, List.setIfInBounds_toArray, List.set_cons_zero, List.set_cons_succ]
                        refine wpAnyH_take (i := 8) (v := .int .u64 (y : Int)) (lit rfl) (by kernel_rfl) (by kernel_rfl) (by kernel_rfl) (fun _ _ _ h => h) (Or.inl ⟨by rfl, ?_⟩) hSd ?_
                        · rintro w6 ⟨k1, k2⟩
                          go_simp
                        simp only [Act.put, List.setIfInBounds_toArray, List.set_cons_zero, List.set_cons_succ]
                        refine wpAnyH_ready (rs := [9]) (by kernel_rfl) (by simp) ?_
                        refine AllReadyH.cons (lit rfl) (fun K5 hK5 => ?_) AllReadyH.nil
                        refine step_open rfl ?_
                        go_simp
                        go_at_call 28
                        (with_reducible refine (HLS.out _ _ _).mono ?_)
                        rintro e7 w7 ⟨rfl, rfl⟩
                        rw [HL.out]
                        refine hK5.out _ _ hSd (fun _ => ?_)
                        clear hK5 K5
                        refine wpAnyH_take (i := 10) (v := .bool true) (lit rfl) (by kernel_rfl) (by kernel_rfl) (by kernel_rfl) (fun _ _ _ h => h) (Or.inl ⟨by rfl, ?_⟩) hSd ?_
                        · rintro w6 ⟨k1, k2⟩
                          go_simp
                        simp only [Act.put, List.setIfInBounds_toArray, List.set_cons_zero, List.set_cons_succ]
                        refine wpAnyH_done (by kernel_rfl) ?_ _
                        refine hK _ _ ?_
                        clear ca cb hSd HL hsw2 fa fb j0 j1 j2 j3 j4 hwj
                        go_wp2
                        go_roundw
                        case rel => exact ⟨i + 1, s, du, rfl, congrArg (Value.int .i64) (by have := HZS.out; omega), by omega, by omega, by omega, R1.out, by rw [← K4.out, HN.out, HD.out, HU.out]⟩
                        case measure => simp [intOf]; omega
                      · have HV := Lib.hid (shiftUpU_more (lt := ltU) (d := du) hlt (by simpa using hv))
                        rw [Nat.add_sub_cancel] at HV
                        have R2 := Lib.hid HSW.out.drew.drew
                        have HL : Hid (ltU x y = true) := Lib.hid (by rw [← hx, ← hy]; exact hv)
                        clear hv hx hy
                        go_wp2
                        rename_i K hK
                        refine wp_held (fun w' : World => w'.cell? ⟨g, off + (j + 1), none⟩ = some (.int .u64 (x : Int)) ∧ w'.cell? ⟨g, off + j, none⟩ = some (.int .u64 (y : Int))) K hmx ?_ (fun _ _ h => h)
                        refine wpAnyH_take (i := 0) (v := .slice (some ⟨g, off, none⟩) n c) (lit rfl) (by kernel_rfl) (by kernel_rfl) (by kernel_rfl) (fun _ _ _ h => h) (Or.inl ⟨by rfl, ?_⟩) hSd ?_
                        · rintro w6 ⟨k1, k2⟩
                          go_simp
                        simp only [Act.put, List.setIfInBounds_toArray, List.set_cons_zero, List.set_cons_succ]
                        refine wpAnyH_take (i := 1) (v := .int .i64 ((j + 1 : Nat) : Int)) (lit rfl) (by kernel_rfl) (by kernel_rfl) (by kernel_rfl) (fun _ _ _ h => h) (Or.inl ⟨by rfl, ?_⟩) hSd ?_
                        · rintro w6 ⟨k1, k2⟩
                          go_simp
                        simp only [Act.put, List.setIfInBounds_toArray, List.set_cons_zero, List.set_cons_succ]
                        refine wpAnyH_take (i := 2) (v := .pointer (some ⟨g, off + (j + 1), none⟩)) (lit rfl) (by kernel_rfl) (by kernel_rfl) (by kernel_rfl) (fun _ _ _ h => h) (Or.inl ⟨by rfl, ?_⟩) hSd ?_
                        · rintro w6 ⟨k1, k2⟩
                          go_simp
                        simp only [Act.put, List.setIfInBounds_toArray, List.set_cons_zero, List.set_cons_succ]
                        refine wpAnyH_take (i := 3) (v := .int .u64 (x : Int)) (lit rfl) (by kernel_rfl) (by kernel_rfl) (by kernel_rfl) (fun _ _ _ h => h) (Or.inl ⟨by rfl, ?_⟩) hSd ?_
                        · rintro w6 ⟨k1, k2⟩
                          go_simp
                        simp only [Act.put, List.setIfInBounds_toArray, List.set_cons_zero, List.set_cons_succ]
                        refine wpAnyH_take (i := 4) (v := .slice (some ⟨g, off, none⟩) n c) (lit rfl) (by kernel_rfl) (by kernel_rfl) (by kernel_rfl) (fun _ _ _ h => h) (Or.inl ⟨by rfl, ?_⟩) hSd ?_
                        · rintro w6 ⟨k1, k2⟩
                          go_simp
                        simp only [Act.put, List.setIfInBounds_toArray, List.set_cons_zero, List.set_cons_succ]
                        refine wpAnyH_take (i := 5) (v := .int .i64 ((j + 1 : Nat) : Int)) (lit rfl) (by kernel_rfl) (by kernel_rfl) (by kernel_rfl) (fun _ _ _ h => h) (Or.inl ⟨by rfl, ?_⟩) hSd ?_
                        · rintro w6 ⟨k1, k2⟩
                          go_simp
                        simp only [Act.put, List.setIfInBounds_toArray, List.set_cons_zero, List.set_cons_succ]
                        refine wpAnyH_take (i := 6) (v := .int .i64 (j : Int)) (lit rfl) (by kernel_rfl) (by kernel_rfl) (by kernel_rfl) (fun _ _ _ h => h) (Or.inl ⟨by rfl, ?_⟩) hSd ?_
                        · rintro w6 ⟨k1, k2⟩
                          go_simp
                        simp only [Act.put, List.setIfInBounds_toArray, List.set_cons_zero, List.set_cons_succ]
                        refine wpAnyH_take (i := 7) (v := .pointer (some ⟨g, off + j, none⟩)) (lit rfl) (by kernel_rfl) (by kernel_rfl) (by kernel_rfl) (fun _ _ _ h => h) (Or.inl ⟨by rfl, ?_⟩) hSd ?_
                        · rintro w6 ⟨k1, k2⟩
                          go_simp
                        simp only [Act.put, List.setIfInBounds_toArray, List.set_cons_zero, List.set_cons_succ]
                        refine wpAnyH_take (i := 8) (v := .int .u64 (y : Int)) (lit rfl) (by kernel_rfl) (by kernel_rfl) (by kernel_rfl) (fun _ _ _ h => h) (Or.inl ⟨by rfl, ?_⟩) hSd ?_
                        · rintro w6 ⟨k1, k2⟩
                          go_simp
                        simp only [Act.put, List.setIfInBounds_toArray, List.set_cons_zero, List.set_cons_succ]
                        refine wpAnyH_ready (rs := [9]) (by kernel_rfl) (by simp) ?_
                        refine AllReadyH.cons (lit rfl) (fun K5 hK5 => ?_) AllReadyH.nil
                        refine step_open rfl ?_
                        go_simp
                        go_at_call 28
                        (with_reducible refine (HLS.out _ _ _).mono ?_)
                        rintro e7 w7 ⟨rfl, rfl⟩
                        rw [HL.out]
                        refine hK5.out _ _ hSd (fun _ => ?_)
                        clear hK5 K5
                        refine wpAnyH_take (i := 10) (v := .bool false) (lit rfl) (by kernel_rfl) (by kernel_rfl) (by kernel_rfl) (fun _ _ _ h => h) (Or.inl ⟨by rfl, ?_⟩) hSd ?_
                        · rintro w6 ⟨k1, k2⟩
                          go_simp
                        simp only [Act.put, List.setIfInBounds_toArray, List.set_cons_zero, List.set_cons_succ]
                        refine wpAnyH_done (by kernel_rfl) ?_ _
                        refine hK _ _ ?_
                        go_wp2
                        rename_i K9 hK9 K8 HC
                        refine wp_heldQ (fun w' : World => w'.cell? ⟨g, off + (j + 1), none⟩ = some (.int .u64 (x : Int)) ∧ w'.cell? ⟨g, off + j, none⟩ = some (.int .u64 (y : Int))) 15 hmx ?_
                        refine wpAnyK_pure (i := 0) (v := .slice (some ⟨g, off, none⟩) n c) rfl (by kernel_rfl) (by kernel_rfl) (by kernel_rfl) (by decide) (fun _ _ _ h => h) (Or.inl ⟨by rfl, ?_⟩) (.inr hSd) ?_
                        · intro w6 _
                          go_simp
                        simp only [Act.put, List.setIfInBounds_toArray, List.set_cons_zero, List.set_cons_succ, List.getElem_toArray, List.getElem_cons_zero]
                        refine wpAnyK_pure (i := 1) (v := .int .i64 ((j + 1 : Nat) : Int)) rfl (by kernel_rfl) (by kernel_rfl) (by kernel_rfl) (by decide) (fun _ _ _ h => h) (Or.inl ⟨by rfl, ?_⟩) (.inr hSd) ?_
                        · intro w6 _
                          go_simp
                        simp only [Act.put, List.setIfInBounds_toArray, List.set_cons_zero, List.set_cons_succ, List.getElem_toArray, List.getElem_cons_zero, List.getElem_cons_succ]
                        refine wpAnyK_pure (i := 2) (v := .slice (some ⟨g, off, none⟩) n c) rfl (by kernel_rfl) (by kernel_rfl) (by kernel_rfl) (by decide) (fun _ _ _ h => h) (Or.inl ⟨by rfl, ?_⟩) (.inr hSd) ?_
                        · intro w6 _
                          go_simp
                        simp only [Act.put, List.setIfInBounds_toArray, List.set_cons_zero, List.set_cons_succ, List.getElem_toArray, List.getElem_cons_zero, List.getElem_cons_succ]
                        refine wpAnyK_pure (i := 3) (v := .int .i64 ((j + 1 : Nat) : Int)) rfl (by kernel_rfl) (by kernel_rfl) (by kernel_rfl) (by decide) (fun _ _ _ h => h) (Or.inl ⟨by rfl, ?_⟩) (.inr hSd) ?_
                        · intro w6 _
                          go_simp
                        simp only [Act.put, List.setIfInBounds_toArray, List.set_cons_zero, List.set_cons_succ, List.getElem_toArray, List.getElem_cons_zero, List.getElem_cons_succ]
                        refine wpAnyK_pure (i := 4) (v := .int .i64 (j : Int)) rfl (by kernel_rfl) (by kernel_rfl) (by kernel_rfl) (by decide) (fun _ _ _ h => h) (Or.inl ⟨by rfl, ?_⟩) (.inr hSd) ?_
                        · intro w6 _
                          go_simp
                        simp only [Act.put, List.setIfInBounds_toArray, List.set_cons_zero, List.set_cons_succ, List.getElem_toArray, List.getElem_cons_zero, List.getElem_cons_succ]
                        refine wpAnyK_pure (i := 5) (v := .slice (some ⟨g, off, none⟩) n c) rfl (by kernel_rfl) (by kernel_rfl) (by kernel_rfl) (by decide) (fun _ _ _ h => h) (Or.inl ⟨by rfl, ?_⟩) (.inr hSd) ?_
                        · intro w6 _
                          go_simp
                        simp only [Act.put, List.setIfInBounds_toArray, List.set_cons_zero, List.set_cons_succ, List.getElem_toArray, List.getElem_cons_zero, List.getElem_cons_succ]
                        refine wpAnyK_pure (i := 6) (v := .int .i64 ((j + 1 : Nat) : Int)) rfl (by kernel_rfl) (by kernel_rfl) (by kernel_rfl) (by decide) (fun _ _ _ h => h) (Or.inl ⟨by rfl, ?_⟩) (.inr hSd) ?_
                        · intro w6 _
                          go_simp
                        simp only [Act.put, List.setIfInBounds_toArray, List.set_cons_zero, List.set_cons_succ, List.getElem_toArray, List.getElem_cons_zero, List.getElem_cons_succ]
                        refine wpAnyK_pure (i := 7) (v := .int .i64 (j : Int)) rfl (by kernel_rfl) (by kernel_rfl) (by kernel_rfl) (by decide) (fun _ _ _ h => h) (Or.inl ⟨by rfl, ?_⟩) (.inr hSd) ?_
                        · intro w6 _
                          go_simp
                        simp only [Act.put, List.setIfInBounds_toArray, List.set_cons_zero, List.set_cons_succ, List.getElem_toArray, List.getElem_cons_zero, List.getElem_cons_succ]
                        refine wpAnyK_pure (i := 8) (v := .pointer (some ⟨g, off + j, none⟩)) rfl (by kernel_rfl) (by kernel_rfl) (by kernel_rfl) (by decide) (fun _ _ _ h => h) (Or.inl ⟨by rfl, ?_⟩) (.inr hSd) ?_
                        · intro w6 _
                          go_simp
                        simp only [Act.put, List.setIfInBounds_toArray, List.set_cons_zero, List.set_cons_succ, List.getElem_toArray, List.getElem_cons_zero, List.getElem_cons_succ]
                        refine wpAnyK_take (i := 9) (v := .int .u64 (y : Int)) rfl (by kernel_rfl) (by kernel_rfl) (by kernel_rfl) (by kernel_rfl) (by decide) (by kernel_rfl) (fun _ _ _ h => h) (Or.inl ⟨by rfl, ?_⟩) hSd ?_
                        · rintro w6 ⟨k1, k2⟩
                          go_simp
                        simp only [Act.put, List.setIfInBounds_toArray, List.set_cons_zero, List.set_cons_succ, List.getElem_toArray, List.getElem_cons_zero, List.getElem_cons_succ]
                        refine wpAnyK_pure (i := 10) (v := .slice (some ⟨g, off, none⟩) n c) rfl (by kernel_rfl) (by kernel_rfl) (by kernel_rfl) (by decide) (fun _ _ _ h => h) (Or.inl ⟨by rfl, ?_⟩) (.inr hSd) ?_
                        · intro w6 _
                          go_simp
                        simp only [Act.put, List.setIfInBounds_toArray, List.set_cons_zero, List.set_cons_succ, List.getElem_toArray, List.getElem_cons_zero, List.getElem_cons_succ]
                        refine wpAnyK_pure (i := 11) (v := .int .i64 ((j + 1 : Nat) : Int)) rfl (by kernel_rfl) (by kernel_rfl) (by kernel_rfl) (by decide) (fun _ _ _ h => h) (Or.inl ⟨by rfl, ?_⟩) (.inr hSd) ?_
                        · intro w6 _
                          go_simp
                        simp only [Act.put, List.setIfInBounds_toArray, List.set_cons_zero, List.set_cons_succ, List.getElem_toArray, List.getElem_cons_zero, List.getElem_cons_succ]
                        refine wpAnyK_pure (i := 12) (v := .pointer (some ⟨g, off + (j + 1), none⟩)) rfl (by kernel_rfl) (by kernel_rfl) (by kernel_rfl) (by decide) (fun _ _ _ h => h) (Or.inl ⟨by rfl, ?_⟩) (.inr hSd) ?_
                        · intro w6 _
                          go_simp
                        simp only [Act.put, List.setIfInBounds_toArray, List.set_cons_zero, List.set_cons_succ, List.getElem_toArray, List.getElem_cons_zero, List.getElem_cons_succ]
                        refine wpAnyK_take (i := 13) (v := .int .u64 (x : Int)) rfl (by kernel_rfl) (by kernel_rfl) (by kernel_rfl) (by kernel_rfl) (by decide) (by kernel_rfl) (fun _ _ _ h => h) (Or.inl ⟨by rfl, ?_⟩) hSd ?_
                        · rintro w6 ⟨k1, k2⟩
                          go_simp
                        simp only [Act.put, List.setIfInBounds_toArray, List.set_cons_zero, List.set_cons_succ, List.getElem_toArray, List.getElem_cons_zero, List.getElem_cons_succ]
                        refine wpAnyK_pure (i := 14) (v := .pointer (some ⟨g, off + (j + 1), none⟩)) rfl (by kernel_rfl) (by kernel_rfl) (by kernel_rfl) (by decide) (fun _ _ _ h => h) (Or.inl ⟨by rfl, ?_⟩) (.inr hSd) ?_
                        · intro w6 _
                          go_simp
                        simp only [Act.put, List.setIfInBounds_toArray, List.set_cons_zero, List.set_cons_succ, List.getElem_toArray, List.getElem_cons_zero, List.getElem_cons_succ]
                        refine wpAnyK_one (i := 15) (by kernel_rfl) rfl (fun K5 hK5 => ?_)
                        go_simp
                        refine hK5.out _ _ (.inl (by kernel_rfl)) ?_
                        clear hK5 K5
                        refine wpAnyK_pure (i := 16) (v := .pointer (some ⟨g, off + j, none⟩)) rfl (by kernel_rfl) (by kernel_rfl) (by kernel_rfl) (by decide) (fun _ _ _ h => h) (Or.inl ⟨by rfl, ?_⟩) (.inl (by kernel_rfl)) ?_
                        · intro w6 _
                          go_simp
                        simp only [Act.put, List.setIfInBounds_toArray, List.set_cons_zero, List.set_cons_succ, List.getElem_toArray, List.getElem_cons_zero, List.getElem_cons_succ]
                        refine wpAnyK_one (i := 17) (by kernel_rfl) rfl (fun K5 hK5 => ?_)
                        go_simp
                        refine hK5.out _ _ (.inl (by kernel_rfl)) ?_
                        clear hK5 K5
                        refine wpAnyK_done (by kernel_rfl) ?_ _
                        refine hK9 _ _ ?_
                        clear ca cb hSd HL hsw2 fa fb j0 j1 j2 j3 j4 hwj
                        go_wp2
                        go_roundw
                        case rel => exact ⟨j + 1 + 1, _, by go_num, by omega, by omega, R2.out, by rw [← N4.out, HV.out]⟩
                        case measure => simp [intOf]; omega
                    · have l1 : ¬ (j0' : Int) < (b : Int) := by omega
                      have HU : Hid ((if b - (i + 1) ≥ 2 then shiftUp ltU b (i + 1 + 1) d1 else d1) = du) := Lib.hid (by rw [HUS.out, ← N4.out]; exact shiftUpU_end (Or.inl hlt))
                      go_wp2
                      go_roundw
                      case rel => exact ⟨i + 1, s, du, rfl, congrArg (Value.int .i64) (by have := HZS.out; omega), by omega, by omega, by omega, N1.out, by rw [← K4.out, HN.out, HD.out, HU.out]⟩
                      case measure => simp [intOf]; omega
                · have g2 : ¬ (2 : Int) ≤ (b : Int) - ((i : Int) + 1) := by omega
                  have g3 : ¬ (2 : Int) ≤ (b : Int) - ((i + 1 : Nat) : Int) := by omega
                  have HU : Hid ((if b - (i + 1) ≥ 2 then shiftUp ltU b (i + 1 + 1) d1 else d1) = d1) := Lib.hid (if_neg h2)
                  go_wp2
                  go_roundw
                  case rel => exact ⟨i + 1, s, d1, rfl, congrArg (Value.int .i64) (by have := HZS.out; omega), by omega, by omega, by omega, M1.out, by rw [← K4.out, HN.out, HD.out, HU.out]⟩
                  case measure => simp [intOf]; omega
        · obtain rfl : ii = b := by omega
          have l1 : ¬ (ii : Int) < (ii : Int) := by omega
          have HSC : Hid (scanSorted ltU dk ii i0 = ii) := Lib.hid (by rw [← L4.out]; exact scanSU_end (Or.inl hlt))
          have hr : partialInsertionSort ltU d a ii = (dk, true) := by rw [← K4.out, partialInsU_more, HSC.out, if_pos rfl]
          have HR := Lib.hid hr
          clear hr
          go_wp2
          rename_i K hK
          refine wp_held (fun _ : World => True) K hmx ?_ (fun _ _ h => h)
          refine wpAnyH_take (i := 0) (v := .int .i64 (ii : Int)) (lit rfl) (by kernel_rfl) (by kernel_rfl) (by kernel_rfl) (fun _ _ _ h => h) (Or.inl ⟨by rfl, ?_⟩) trivial ?_
          · rintro w6 k1
            go_simp
          simp only [Act.put, List.setIfInBounds_toArray, List.set_cons_zero, List.set_cons_succ]
          refine wpAnyH_take (i := 1) (v := .int .i64 (ii : Int)) (lit rfl) (by kernel_rfl) (by kernel_rfl) (by kernel_rfl) (fun _ _ _ h => h) (Or.inl ⟨by rfl, ?_⟩) trivial ?_
          · rintro w6 k1
            go_simp
          simp only [Act.put, List.setIfInBounds_toArray, List.set_cons_zero, List.set_cons_succ]
          refine wpAnyH_take (i := 2) (v := .bool false) (lit rfl) (by kernel_rfl) (by kernel_rfl) (by kernel_rfl) (fun _ _ _ h => h) (Or.inl ⟨by rfl, ?_⟩) trivial ?_
          · rintro w6 k1
            go_simp
          simp only [Act.put, List.setIfInBounds_toArray, List.set_cons_zero, List.set_cons_succ]
          refine wpAnyH_take (i := 3) (v := .bool false) (lit rfl) (by kernel_rfl) (by kernel_rfl) (by kernel_rfl) (fun _ _ _ h => h) (Or.inl ⟨by rfl, ?_⟩) trivial ?_
          · rintro w6 k1
            go_simp
          simp only [Act.put, List.setIfInBounds_toArray, List.set_cons_zero, List.set_cons_succ]
          refine wpAnyH_take (i := 4) (v := undef) (lit rfl) (by kernel_rfl) (by kernel_rfl) (by kernel_rfl) (fun _ _ _ h => h) (Or.inr ⟨by rfl, rfl⟩) trivial ?_
          simp only [Act.put, List.setIfInBounds_toArray, List.set_cons_zero, List.set_cons_succ]
          refine wpAnyH_take (i := 5) (v := undef) (lit rfl) (by kernel_rfl) (by kernel_rfl) (by kernel_rfl) (fun _ _ _ h => h) (Or.inr ⟨by rfl, rfl⟩) trivial ?_
          simp only [Act.put, List.setIfInBounds_toArray, List.set_cons_zero, List.set_cons_succ]
          refine wpAnyH_take (i := 6) (v := undef) (lit rfl) (by kernel_rfl) (by kernel_rfl) (by kernel_rfl) (fun _ _ _ h => h) (Or.inr ⟨by rfl, rfl⟩) trivial ?_
          simp only [Act.put, List.setIfInBounds_toArray, List.set_cons_zero, List.set_cons_succ]
          refine wpAnyH_take (i := 7) (v := undef) (lit rfl) (by kernel_rfl) (by kernel_rfl) (by kernel_rfl) (fun _ _ _ h => h) (Or.inr ⟨by rfl, rfl⟩) trivial ?_
          simp only [Act.put, List.setIfInBounds_toArray, List.set_cons_zero, List.set_cons_succ]
          refine wpAnyH_take (i := 8) (v := undef) (lit rfl) (by kernel_rfl) (by kernel_rfl) (by kernel_rfl) (fun _ _ _ h => h) (Or.inr ⟨by rfl, rfl⟩) trivial ?_
          simp only [Act.put, List.setIfInBounds_toArray, List.set_cons_zero, List.set_cons_succ]
          refine wpAnyH_take (i := 9) (v := undef) (lit rfl) (by kernel_rfl) (by kernel_rfl) (by kernel_rfl) (fun _ _ _ h => h) (Or.inr ⟨by rfl, rfl⟩) trivial ?_
          simp only [Act.put, List.setIfInBounds_toArray, List.set_cons_zero, List.set_cons_succ]
          refine wpAnyH_take (i := 10) (v := undef) (lit rfl) (by kernel_rfl) (by kernel_rfl) (by kernel_rfl) (fun _ _ _ h => h) (Or.inr ⟨by rfl, rfl⟩) trivial ?_
          simp only [Act.put, List.setIfInBounds_toArray, List.set_cons_zero, List.set_cons_succ]
          refine wpAnyH_take (i := 11) (v := undef) (lit rfl) (by kernel_rfl) (by kernel_rfl) (by kernel_rfl) (fun _ _ _ h => h) (Or.inr ⟨by rfl, rfl⟩) trivial ?_
          simp only [Act.put, List.setIfInBounds_toArray, List.set_cons_zero, List.set_cons_succ]
          refine wpAnyH_take (i := 12) (v := undef) (lit rfl) (by kernel_rfl) (by kernel_rfl) (by kernel_rfl) (fun _ _ _ h => h) (Or.inr ⟨by rfl, rfl⟩) trivial ?_
          simp only [Act.put, List.setIfInBounds_toArray, List.set_cons_zero, List.set_cons_succ]
          refine wpAnyH_take (i := 13) (v := undef) (lit rfl) (by kernel_rfl) (by kernel_rfl) (by kernel_rfl) (fun _ _ _ h => h) (Or.inr ⟨by rfl, rfl⟩) trivial ?_
          simp only [Act.put, List.setIfInBounds_toArray, List.set_cons_zero, List.set_cons_succ]
          refine wpAnyH_take (i := 14) (v := undef) (lit rfl) (by kernel_rfl) (by kernel_rfl) (by kernel_rfl) (fun _ _ _ h => h) (Or.inr ⟨by rfl, rfl⟩) trivial ?_
          simp only [Act.put, List.setIfInBounds_toArray, List.set_cons_zero, List.set_cons_succ]
          refine wpAnyH_take (i := 15) (v := .bool false) (lit rfl) (by kernel_rfl) (by kernel_rfl) (by kernel_rfl) (fun _ _ _ h => h) (Or.inl ⟨by rfl, ?_⟩) trivial ?_
          · rintro w6 k1
            go_simp
          simp only [Act.put, List.setIfInBounds_toArray, List.set_cons_zero, List.set_cons_succ]
          refine wpAnyH_done (by kernel_rfl) ?_ _
          refine hK _ _ ?_
          go_wp2
          go_ret
          rw [HR.out]
          exact ⟨rfl, L1.out.drew⟩

end Go.Proofs.Ytlfmmmgdilencaa
