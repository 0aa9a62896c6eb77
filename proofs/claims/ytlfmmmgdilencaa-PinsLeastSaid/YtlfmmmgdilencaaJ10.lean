import Derived.Test.YtlfmmmgdilencaaJSuc
/- Of a claim's texts, joined: Sud Sue Suf. No statement but in the last. -/
section
namespace Go.Proofs.Ytlfmmmgdilencaa
open Go.RowKit Go.Sort
set_option linter.unusedVariables false

theorem SU.trans {W w w' : World} {g off n : Nat} {d d' : Array Nat} (h : SU W g off n d w) (k : SU w g off n d' w') : SU W g off n d' w' := ⟨k.size, k.cell, h.gr.trans k.gr, k.most, k.free⟩
theorem SU.here {W w : World} {g off n : Nat} {d : Array Nat} (h : SU W g off n d w) : SU w g off n d w := ⟨h.size, h.cell, World.grownBy.refl _ _, h.most, h.free⟩
theorem heapBuildU_more {hi first k : Nat} {d : Array Nat} : heapBuild ltU hi first (k + 1) d = heapBuild ltU hi first k (siftDown ltU hi first k d) := rfl
theorem heapPopU_more {first k : Nat} {d : Array Nat} : heapPop ltU first (k + 1) d = heapPop ltU first k (siftDown ltU k first 0 (swp d first (first + k))) := rfl
set_option maxRecDepth 100000 in
set_option maxHeartbeats 8000000 in
theorem oHeapU_any {g off n : Nat} (c a b : Nat) (d : Array Nat) (W : World) (h : SU W g off n d W) (hab : a < b) (hb : b ≤ n) :
    Calls Try.prog 23 #[.slice (some ⟨g, off, none⟩) n c, .int .i64 (a : Int), .int .i64 (b : Int)] W (SUEnd W g off n (heapSort ltU d a b)) := by
  have hmx : Try.prog.follows .mixedOrders = true := by kernel_rfl
  have hmost := h.most
  have H0 := Lib.hid h
  clear h
  obtain ⟨m, hm⟩ : ∃ m, b - a = m := ⟨_, rfl⟩
  have hm1 : (b : Int) - (a : Int) = (m : Int) := by omega
  have hm2 : ((m : Int) - 1).tdiv 2 = (((m - 1) / 2 : Nat) : Int) := by rw [Int.tdiv_eq_ediv_of_nonneg (by omega)]; omega
  have hm0 : 1 ≤ m := by omega
  have ham : a + m ≤ n := by omega
  have HH : Hid (heapSort ltU d a b = heapPop ltU a m (heapBuild ltU m a ((m - 1) / 2 + 1) d)) := Lib.hid (by unfold heapSort; rw [hm])
  have HSI := Lib.hid (fun w lo hi dk (h : SU w g off n dk w) (h1 : lo ≤ n) (h2 : a + hi ≤ n) => oSiftU_any c lo hi a dk w h h1 h2)
  clear hm
  go_enter Try.func23, Try.ntmps23
  go_wp2
  go_loopw [9] (fun vi wr => ∃ (z : Int) (k : Nat) (dk : Array Nat), vi = .int .i64 z ∧ z + 1 = (k : Int) ∧ k ≤ m ∧ SU W g off n dk wr ∧ heapBuild ltU m a k dk = heapBuild ltU m a ((m - 1) / 2 + 1) d) (fun vi _ => (intOf vi + 1).toNat)
  case atStart => exact ⟨_, (m - 1) / 2 + 1, d, rfl, by omega, by omega, H0.out, rfl⟩
  case round =>
    obtain ⟨z, k, dk, rfl, hz, hk, h1, h4⟩ := hrel
    have K1 := Lib.hid h1
    have K4 := Lib.hid h4
    clear h1 h4
    by_cases hz0 : z < 0
    · obtain rfl : k = 0 := by omega
      have K5 : Hid (dk = heapBuild ltU m a ((m - 1) / 2 + 1) d) := Lib.hid K4.out
      obtain ⟨wo, hwo⟩ : ∃ wo : World, wo = wr := ⟨_, rfl⟩
      subst hwo
      go_wp2
      go_loopw [10] (fun vi wr => ∃ (z : Int) (k : Nat) (dj : Array Nat), vi = .int .i64 z ∧ z + 1 = (k : Int) ∧ k ≤ m ∧ SU W g off n dj wr ∧ heapPop ltU a k dj = heapPop ltU a m dk) (fun vi _ => (intOf vi + 1).toNat)
      case atStart => exact ⟨_, m, dk, rfl, by omega, Nat.le_refl _, K1.out, rfl⟩
      case round =>
        obtain ⟨y0, j, dj, rfl, hy, hj, h1, h4⟩ := hrel
        have M1 := Lib.hid h1
        have M4 := Lib.hid h4
        clear h1 h4
        by_cases hy0 : y0 < 0
        · obtain rfl : j = 0 := by omega
          have HE : Hid (dj = heapSort ltU d a b) := Lib.hid (by rw [HH.out, ← K5.out]; exact M4.out)
          go_wp2
          go_end0
          exact ⟨rfl, by rw [← HE.out]; exact M1.out⟩
        · obtain ⟨q, rfl⟩ : ∃ q : Nat, y0 = (q : Int) := ⟨y0.toNat, by omega⟩
          obtain rfl : j = q + 1 := by omega
          have q0 : (0 : Int) ≤ (q : Int) := by omega
          have ca := M1.out.cell a (by omega)
          have cb := M1.out.cell (a + q) (by omega)
          have hsw := M1.out.swap (i := a) (j := a + q) (by omega) (by omega)
          have fa := M1.out.free (off + a)
          have fb := M1.out.free (off + (a + q))
          obtain ⟨x, hx⟩ : ∃ x, dj[a]! = x := ⟨_, rfl⟩
          obtain ⟨y, hy2⟩ : ∃ y, dj[a + q]! = y := ⟨_, rfl⟩
          rw [hx] at ca hsw
          rw [hy2] at cb hsw
          obtain ⟨hsw1, u, hsw2⟩ := hsw
          have HSW := Lib.hid hsw1.drew
          clear hsw1 hx hy2
          have r0 : (0 : Int) ≤ (a : Int) := by omega
          have r1 : (a : Int) < (n : Int) := by omega
          have r2 : (0 : Int) ≤ (a : Int) + (q : Int) := by omega
          have r3 : (a : Int) + (q : Int) < (n : Int) := by omega
          have r4 : ((a : Int) + (q : Int)).toNat = a + q := by omega
          have r5 : IntKind.i64.wrap ((a : Int) + (q : Int)) = (a : Int) + (q : Int) := by rw [IntKind.wrap_i64]; omega
          have hSd : (fun w' : World => w'.cell? ⟨g, off + a, none⟩ = some (.int .u64 (x : Int)) ∧ w'.cell? ⟨g, off + (a + q), none⟩ = some (.int .u64 (y : Int))) wr.drew := ⟨ca, cb⟩
          go_wp2
          rename_i K hK
          refine wp_heldK (fun w' : World => w'.cell? ⟨g, off + a, none⟩ = some (.int .u64 (x : Int)) ∧ w'.cell? ⟨g, off + (a + q), none⟩ = some (.int .u64 (y : Int))) 17 K hmx ?_ (fun _ _ h => h)
          refine wpAnyK_pure (i := 0) (v := .slice (some ⟨g, off, none⟩) n c) rfl (by kernel_rfl) (by kernel_rfl) (by kernel_rfl) (by decide) (fun _ _ _ h => h) (Or.inl ⟨by rfl, ?_⟩) (.inr hSd) ?_
          · intro w6 _
            go_simp
          simp only [Act.put, List.setIfInBounds_toArray, List.set_cons_zero, List.set_cons_succ, List.getElem_toArray, List.getElem_cons_zero]
          refine wpAnyK_pure (i := 1) (v := .int .i64 (a : Int)) rfl (by kernel_rfl) (by kernel_rfl) (by kernel_rfl) (by decide) (fun _ _ _ h => h) (Or.inl ⟨by rfl, ?_⟩) (.inr hSd) ?_
          · intro w6 _
            go_simp
          simp only [Act.put, List.setIfInBounds_toArray, List.set_cons_zero, List.set_cons_succ, List.getElem_toArray, List.getElem_cons_zero, List.getElem_cons_succ]
          refine wpAnyK_pure (i := 2) (v := .slice (some ⟨g, off, none⟩) n c) rfl (by kernel_rfl) (by kernel_rfl) (by kernel_rfl) (by decide) (fun _ _ _ h => h) (Or.inl ⟨by rfl, ?_⟩) (.inr hSd) ?_
          · intro w6 _
            go_simp
          simp only [Act.put, List.setIfInBounds_toArray, List.set_cons_zero, List.set_cons_succ, List.getElem_toArray, List.getElem_cons_zero, List.getElem_cons_succ]
          refine wpAnyK_pure (i := 3) (v := .int .i64 (a : Int)) rfl (by kernel_rfl) (by kernel_rfl) (by kernel_rfl) (by decide) (fun _ _ _ h => h) (Or.inl ⟨by rfl, ?_⟩) (.inr hSd) ?_
          · intro w6 _
            go_simp
          simp only [Act.put, List.setIfInBounds_toArray, List.set_cons_zero, List.set_cons_succ, List.getElem_toArray, List.getElem_cons_zero, List.getElem_cons_succ]
          refine wpAnyK_pure (i := 4) (v := .int .i64 (q : Int)) rfl (by kernel_rfl) (by kernel_rfl) (by kernel_rfl) (by decide) (fun _ _ _ h => h) (Or.inl ⟨by rfl, ?_⟩) (.inr hSd) ?_
          · intro w6 _
            go_simp
          simp only [Act.put, List.setIfInBounds_toArray, List.set_cons_zero, List.set_cons_succ, List.getElem_toArray, List.getElem_cons_zero, List.getElem_cons_succ]
          refine wpAnyK_pure (i := 5) (v := .int .i64 ((a : Int) + (q : Int))) rfl (by kernel_rfl) (by kernel_rfl) (by kernel_rfl) (by decide) (fun _ _ _ h => h) (Or.inl ⟨by rfl, ?_⟩) (.inr hSd) ?_
          · intro w6 _
            go_simp
          simp only [Act.put, List.setIfInBounds_toArray, List.set_cons_zero, List.set_cons_succ, List.getElem_toArray, List.getElem_cons_zero, List.getElem_cons_succ]
          refine wpAnyK_pure (i := 6) (v := .slice (some ⟨g, off, none⟩) n c) rfl (by kernel_rfl) (by kernel_rfl) (by kernel_rfl) (by decide) (fun _ _ _ h => h) (Or.inl ⟨by rfl, ?_⟩) (.inr hSd) ?_
          · intro w6 _
            go_simp
          simp only [Act.put, List.setIfInBounds_toArray, List.set_cons_zero, List.set_cons_succ, List.getElem_toArray, List.getElem_cons_zero, List.getElem_cons_succ]
          refine wpAnyK_pure (i := 7) (v := .int .i64 (a : Int)) rfl (by kernel_rfl) (by kernel_rfl) (by kernel_rfl) (by decide) (fun _ _ _ h => h) (Or.inl ⟨by rfl, ?_⟩) (.inr hSd) ?_
          · intro w6 _
            go_simp
          simp only [Act.put, List.setIfInBounds_toArray, List.set_cons_zero, List.set_cons_succ, List.getElem_toArray, List.getElem_cons_zero, List.getElem_cons_succ]
          refine wpAnyK_pure (i := 8) (v := .int .i64 (q : Int)) rfl (by kernel_rfl) (by kernel_rfl) (by kernel_rfl) (by decide) (fun _ _ _ h => h) (Or.inl ⟨by rfl, ?_⟩) (.inr hSd) ?_
          · intro w6 _
            go_simp
          simp only [Act.put, List.setIfInBounds_toArray, List.set_cons_zero, List.set_cons_succ, List.getElem_toArray, List.getElem_cons_zero, List.getElem_cons_succ]
          refine wpAnyK_pure (i := 9) (v := .int .i64 ((a : Int) + (q : Int))) rfl (by kernel_rfl) (by kernel_rfl) (by kernel_rfl) (by decide) (fun _ _ _ h => h) (Or.inl ⟨by rfl, ?_⟩) (.inr hSd) ?_
          · intro w6 _
            go_simp
          simp only [Act.put, List.setIfInBounds_toArray, List.set_cons_zero, List.set_cons_succ, List.getElem_toArray, List.getElem_cons_zero, List.getElem_cons_succ]
          refine wpAnyK_pure (i := 10) (v := .pointer (some ⟨g, off + (a + q), none⟩)) rfl (by kernel_rfl) (by kernel_rfl) (by kernel_rfl) (by decide) (fun _ _ _ h => h) (Or.inl ⟨by rfl, ?_⟩) (.inr hSd) ?_
          · intro w6 _
            go_simp
          simp only [Act.put, List.setIfInBounds_toArray, List.set_cons_zero, List.set_cons_succ, List.getElem_toArray, List.getElem_cons_zero, List.getElem_cons_succ]
          refine wpAnyK_take (i := 11) (v := .int .u64 (y : Int)) rfl (by kernel_rfl) (by kernel_rfl) (by kernel_rfl) (by kernel_rfl) (by decide) (by kernel_rfl) (fun _ _ _ h => h) (Or.inl ⟨by rfl, ?_⟩) hSd ?_
          · rintro w6 ⟨k1, k2⟩
            go_simp
          simp only [Act.put, List.setIfInBounds_toArray, List.set_cons_zero, List.set_cons_succ, List.getElem_toArray, List.getElem_cons_zero, List.getElem_cons_succ]
          refine wpAnyK_pure (i := 12) (v := .slice (some ⟨g, off, none⟩) n c) rfl (by kernel_rfl) (by kernel_rfl) (by kernel_rfl) (by decide) (fun _ _ _ h => h) (Or.inl ⟨by rfl, ?_⟩) (.inr hSd) ?_
          · intro w6 _
            go_simp
          simp only [Act.put, List.setIfInBounds_toArray, List.set_cons_zero, List.set_cons_succ, List.getElem_toArray, List.getElem_cons_zero, List.getElem_cons_succ]
          refine wpAnyK_pure (i := 13) (v := .int .i64 (a : Int)) rfl (by kernel_rfl) (by kernel_rfl) (by kernel_rfl) (by decide) (fun _ _ _ h => h) (Or.inl ⟨by rfl, ?_⟩) (.inr hSd) ?_
          · intro w6 _
            go_simp
          simp only [Act.put, List.setIfInBounds_toArray, List.set_cons_zero, List.set_cons_succ, List.getElem_toArray, List.getElem_cons_zero, List.getElem_cons_succ]
          refine wpAnyK_pure (i := 14) (v := .pointer (some ⟨g, off + a, none⟩)) rfl (by kernel_rfl) (by kernel_rfl) (by kernel_rfl) (by decide) (fun _ _ _ h => h) (Or.inl ⟨by rfl, ?_⟩) (.inr hSd) ?_
          · intro w6 _
            go_simp
          simp only [Act.put, List.setIfInBounds_toArray, List.set_cons_zero, List.set_cons_succ, List.getElem_toArray, List.getElem_cons_zero, List.getElem_cons_succ]
          refine wpAnyK_take (i := 15) (v := .int .u64 (x : Int)) rfl (by kernel_rfl) (by kernel_rfl) (by kernel_rfl) (by kernel_rfl) (by decide) (by kernel_rfl) (fun _ _ _ h => h) (Or.inl ⟨by rfl, ?_⟩) hSd ?_
          · rintro w6 ⟨k1, k2⟩
            go_simp
          simp only [Act.put, List.setIfInBounds_toArray, List.set_cons_zero, List.set_cons_succ, List.getElem_toArray, List.getElem_cons_zero, List.getElem_cons_succ]
          refine wpAnyK_pure (i := 16) (v := .pointer (some ⟨g, off + a, none⟩)) rfl (by kernel_rfl) (by kernel_rfl) (by kernel_rfl) (by decide) (fun _ _ _ h => h) (Or.inl ⟨by rfl, ?_⟩) (.inr hSd) ?_
          · intro w6 _
            go_simp
          simp only [Act.put, List.setIfInBounds_toArray, List.set_cons_zero, List.set_cons_succ, List.getElem_toArray, List.getElem_cons_zero, List.getElem_cons_succ]
          refine wpAnyK_one (i := 17) (by kernel_rfl) rfl (fun K5 hK5 => ?_)
          go_simp
          refine hK5.out _ _ (.inl (by kernel_rfl)) ?_
          clear hK5 K5
          refine wpAnyK_pure (i := 18) (v := .pointer (some ⟨g, off + (a + q), none⟩)) rfl (by kernel_rfl) (by kernel_rfl) (by kernel_rfl) (by decide) (fun _ _ _ h => h) (Or.inl ⟨by rfl, ?_⟩) (.inl (by kernel_rfl)) ?_
          · intro w6 _
            go_simp
          simp only [Act.put, List.setIfInBounds_toArray, List.set_cons_zero, List.set_cons_succ, List.getElem_toArray, List.getElem_cons_zero, List.getElem_cons_succ]
          refine wpAnyK_one (i := 19) (by kernel_rfl) rfl (fun K5 hK5 => ?_)
          go_simp
          refine hK5.out _ _ (.inl (by kernel_rfl)) ?_
          clear hK5 K5
          refine wpAnyK_done (by kernel_rfl) ?_ _
          refine hK _ _ ?_
          have hc := HSI.out _ 0 q _ HSW.out.here (by omega) (by omega)
          rw [show (((0 : Nat) : Int)) = 0 from rfl] at hc
          have HC := Lib.hid hc
          clear hc
          go_wp2_with (go_at_call 33; (with_reducible refine HC.out.mono ?_); rintro e w8 ⟨rfl, h8⟩; have R1 := Lib.hid (HSW.out.trans h8); clear h8)
          go_roundw
          case rel => exact ⟨_, q, _, rfl, by omega, by omega, R1.out, by rw [← M4.out, heapPopU_more]⟩
          case measure => simp [intOf]
    · obtain ⟨q, rfl⟩ : ∃ q : Nat, z = (q : Int) := ⟨z.toNat, by omega⟩
      obtain rfl : k = q + 1 := by omega
      have q0 : (0 : Int) ≤ (q : Int) := by omega
      have HC := Lib.hid (HSI.out _ q m _ K1.out.here (by omega) ham)
      go_wp2_with (go_at_call 33; (with_reducible refine HC.out.mono ?_); rintro e w8 ⟨rfl, h8⟩; have R1 := Lib.hid (K1.out.trans h8); clear h8)
      go_roundw
      case rel => exact ⟨_, q, _, rfl, by omega, by omega, R1.out, by rw [← K4.out, heapBuildU_more]⟩
      case measure => simp [intOf]
end Go.Proofs.Ytlfmmmgdilencaa
end

section
namespace Go.Proofs.Ytlfmmmgdilencaa
open Go.RowKit Go.Sort
set_option linter.unusedVariables false

theorem revU_more {i j : Nat} {d : Array Nat} (h : i < j) : reverseLoop i j d = reverseLoop (i + 1) (j - 1) (swp d i j) := by rw [reverseLoop.eq_def, if_pos h]
theorem revU_done {i j : Nat} {d : Array Nat} (h : ¬ i < j) : reverseLoop i j d = d := by rw [reverseLoop.eq_def, if_neg h]
set_option maxRecDepth 100000 in
set_option maxHeartbeats 8000000 in
theorem oRevU_any {g off n : Nat} (c a b : Nat) (d : Array Nat) (W : World) (h : SU W g off n d W) (hb0 : 0 < b) (ha : a ≤ n) (hb : b ≤ n) :
    Calls Try.prog 26 #[.slice (some ⟨g, off, none⟩) n c, .int .i64 (a : Int), .int .i64 (b : Int)] W (SUEnd W g off n (reverseRange d a b)) := by
  have hmx : Try.prog.follows .mixedOrders = true := by kernel_rfl
  have hmost := h.most
  have H0 := Lib.hid h
  clear h
  go_enter Try.func26, Try.ntmps26
  go_wp2
  go_loopw [6, 7] (fun vi vj wr => ∃ (i j : Nat) (dk : Array Nat), vi = .int .i64 (i : Int) ∧ vj = .int .i64 (j : Int) ∧ i ≤ n ∧ j < n ∧ SU W g off n dk wr ∧ reverseLoop i j dk = reverseRange d a b) (fun _ vj _ => (intOf vj).toNat)
  case atStart => exact ⟨a, b - 1, d, rfl, by go_num, ha, by omega, H0.out, rfl⟩
  case round =>
    obtain ⟨i, j, dk, rfl, rfl, hi, hj, h1, h4⟩ := hrel
    have M1 := Lib.hid h1
    have M4 := Lib.hid h4
    clear h1 h4
    by_cases hij : i < j
    · have ca := M1.out.cell i (by omega)
      have cb := M1.out.cell j (by omega)
      have hsw := M1.out.swap (i := i) (j := j) (by omega) (by omega)
      have fa := M1.out.free (off + i)
      have fb := M1.out.free (off + j)
      obtain ⟨x, hx⟩ : ∃ x, dk[i]! = x := ⟨_, rfl⟩
      obtain ⟨y, hy⟩ : ∃ y, dk[j]! = y := ⟨_, rfl⟩
      rw [hx] at ca hsw
      rw [hy] at cb hsw
      obtain ⟨hsw1, u, hsw2⟩ := hsw
      have HSW := Lib.hid hsw1.drew
      have HE := Lib.hid (revU_more (d := dk) hij)
      clear hsw1 hx hy
      have r0 : (0 : Int) ≤ (i : Int) := by omega
      have r1 : (i : Int) < (n : Int) := by omega
      have r2 : (0 : Int) ≤ (j : Int) := by omega
      have r3 : (j : Int) < (n : Int) := by omega
      have r4 : (i : Int) < (j : Int) := by omega
      have hSd : (fun w' : World => w'.cell? ⟨g, off + i, none⟩ = some (.int .u64 (x : Int)) ∧ w'.cell? ⟨g, off + j, none⟩ = some (.int .u64 (y : Int))) wr.drew := ⟨ca, cb⟩
      go_wp2
      rename_i K hK
      refine wp_heldK (fun w' : World => w'.cell? ⟨g, off + i, none⟩ = some (.int .u64 (x : Int)) ∧ w'.cell? ⟨g, off + j, none⟩ = some (.int .u64 (y : Int))) 13 K hmx ?_ (fun _ _ h => h)
      refine wpAnyK_pure (i := 0) (v := .slice (some ⟨g, off, none⟩) n c) rfl (by kernel_rfl) (by kernel_rfl) (by kernel_rfl) (by decide) (fun _ _ _ h => h) (Or.inl ⟨by rfl, ?_⟩) (.inr hSd) ?_
      · intro w6 _
        go_simp
      simp only [Act.put, List.setIfInBounds_toArray, List.set_cons_zero, List.set_cons_succ, List.getElem_toArray, List.getElem_cons_zero]
      refine wpAnyK_pure (i := 1) (v := .int .i64 (i : Int)) rfl (by kernel_rfl) (by kernel_rfl) (by kernel_rfl) (by decide) (fun _ _ _ h => h) (Or.inl ⟨by rfl, ?_⟩) (.inr hSd) ?_
      · intro w6 _
        go_simp
      simp only [Act.put, List.setIfInBounds_toArray, List.set_cons_zero, List.set_cons_succ, List.getElem_toArray, List.getElem_cons_zero, List.getElem_cons_succ]
      refine wpAnyK_pure (i := 2) (v := .slice (some ⟨g, off, none⟩) n c) rfl (by kernel_rfl) (by kernel_rfl) (by kernel_rfl) (by decide) (fun _ _ _ h => h) (Or.inl ⟨by rfl, ?_⟩) (.inr hSd) ?_
      · intro w6 _
        go_simp
      simp only [Act.put, List.setIfInBounds_toArray, List.set_cons_zero, List.set_cons_succ, List.getElem_toArray, List.getElem_cons_zero, List.getElem_cons_succ]
      refine wpAnyK_pure (i := 3) (v := .int .i64 (j : Int)) rfl (by kernel_rfl) (by kernel_rfl) (by kernel_rfl) (by decide) (fun _ _ _ h => h) (Or.inl ⟨by rfl, ?_⟩) (.inr hSd) ?_
      · intro w6 _
        go_simp
      simp only [Act.put, List.setIfInBounds_toArray, List.set_cons_zero, List.set_cons_succ, List.getElem_toArray, List.getElem_cons_zero, List.getElem_cons_succ]
      refine wpAnyK_pure (i := 4) (v := .slice (some ⟨g, off, none⟩) n c) rfl (by kernel_rfl) (by kernel_rfl) (by kernel_rfl) (by decide) (fun _ _ _ h => h) (Or.inl ⟨by rfl, ?_⟩) (.inr hSd) ?_
      · intro w6 _
        go_simp
      simp only [Act.put, List.setIfInBounds_toArray, List.set_cons_zero, List.set_cons_succ, List.getElem_toArray, List.getElem_cons_zero, List.getElem_cons_succ]
      refine wpAnyK_pure (i := 5) (v := .int .i64 (j : Int)) rfl (by kernel_rfl) (by kernel_rfl) (by kernel_rfl) (by decide) (fun _ _ _ h => h) (Or.inl ⟨by rfl, ?_⟩) (.inr hSd) ?_
      · intro w6 _
        go_simp
      simp only [Act.put, List.setIfInBounds_toArray, List.set_cons_zero, List.set_cons_succ, List.getElem_toArray, List.getElem_cons_zero, List.getElem_cons_succ]
      refine wpAnyK_pure (i := 6) (v := .pointer (some ⟨g, off + j, none⟩)) rfl (by kernel_rfl) (by kernel_rfl) (by kernel_rfl) (by decide) (fun _ _ _ h => h) (Or.inl ⟨by rfl, ?_⟩) (.inr hSd) ?_
      · intro w6 _
        go_simp
      simp only [Act.put, List.setIfInBounds_toArray, List.set_cons_zero, List.set_cons_succ, List.getElem_toArray, List.getElem_cons_zero, List.getElem_cons_succ]
      refine wpAnyK_take (i := 7) (v := .int .u64 (y : Int)) rfl (by kernel_rfl) (by kernel_rfl) (by kernel_rfl) (by kernel_rfl) (by decide) (by kernel_rfl) (fun _ _ _ h => h) (Or.inl ⟨by rfl, ?_⟩) hSd ?_
      · rintro w6 ⟨k1, k2⟩
        go_simp
      simp only [Act.put, List.setIfInBounds_toArray, List.set_cons_zero, List.set_cons_succ, List.getElem_toArray, List.getElem_cons_zero, List.getElem_cons_succ]
      refine wpAnyK_pure (i := 8) (v := .slice (some ⟨g, off, none⟩) n c) rfl (by kernel_rfl) (by kernel_rfl) (by kernel_rfl) (by decide) (fun _ _ _ h => h) (Or.inl ⟨by rfl, ?_⟩) (.inr hSd) ?_
      · intro w6 _
        go_simp
      simp only [Act.put, List.setIfInBounds_toArray, List.set_cons_zero, List.set_cons_succ, List.getElem_toArray, List.getElem_cons_zero, List.getElem_cons_succ]
      refine wpAnyK_pure (i := 9) (v := .int .i64 (i : Int)) rfl (by kernel_rfl) (by kernel_rfl) (by kernel_rfl) (by decide) (fun _ _ _ h => h) (Or.inl ⟨by rfl, ?_⟩) (.inr hSd) ?_
      · intro w6 _
        go_simp
      simp only [Act.put, List.setIfInBounds_toArray, List.set_cons_zero, List.set_cons_succ, List.getElem_toArray, List.getElem_cons_zero, List.getElem_cons_succ]
      refine wpAnyK_pure (i := 10) (v := .pointer (some ⟨g, off + i, none⟩)) rfl (by kernel_rfl) (by kernel_rfl) (by kernel_rfl) (by decide) (fun _ _ _ h => h) (Or.inl ⟨by rfl, ?_⟩) (.inr hSd) ?_
      · intro w6 _
        go_simp
      simp only [Act.put, List.setIfInBounds_toArray, List.set_cons_zero, List.set_cons_succ, List.getElem_toArray, List.getElem_cons_zero, List.getElem_cons_succ]
      refine wpAnyK_take (i := 11) (v := .int .u64 (x : Int)) rfl (by kernel_rfl) (by kernel_rfl) (by kernel_rfl) (by kernel_rfl) (by decide) (by kernel_rfl) (fun _ _ _ h => h) (Or.inl ⟨by rfl, ?_⟩) hSd ?_
      · rintro w6 ⟨k1, k2⟩
        go_simp
      simp only [Act.put, List.setIfInBounds_toArray, List.set_cons_zero, List.set_cons_succ, List.getElem_toArray, List.getElem_cons_zero, List.getElem_cons_succ]
      refine wpAnyK_pure (i := 12) (v := .pointer (some ⟨g, off + i, none⟩)) rfl (by kernel_rfl) (by kernel_rfl) (by kernel_rfl) (by decide) (fun _ _ _ h => h) (Or.inl ⟨by rfl, ?_⟩) (.inr hSd) ?_
      · intro w6 _
        go_simp
      simp only [Act.put, List.setIfInBounds_toArray, List.set_cons_zero, List.set_cons_succ, List.getElem_toArray, List.getElem_cons_zero, List.getElem_cons_succ]
      refine wpAnyK_one (i := 13) (by kernel_rfl) rfl (fun K5 hK5 => ?_)
      go_simp
      refine hK5.out _ _ (.inl (by kernel_rfl)) ?_
      clear hK5 K5
      refine wpAnyK_pure (i := 14) (v := .pointer (some ⟨g, off + j, none⟩)) rfl (by kernel_rfl) (by kernel_rfl) (by kernel_rfl) (by decide) (fun _ _ _ h => h) (Or.inl ⟨by rfl, ?_⟩) (.inl (by kernel_rfl)) ?_
      · intro w6 _
        go_simp
      simp only [Act.put, List.setIfInBounds_toArray, List.set_cons_zero, List.set_cons_succ, List.getElem_toArray, List.getElem_cons_zero, List.getElem_cons_succ]
      refine wpAnyK_one (i := 15) (by kernel_rfl) rfl (fun K5 hK5 => ?_)
      go_simp
      refine hK5.out _ _ (.inl (by kernel_rfl)) ?_
      clear hK5 K5
      refine wpAnyK_done (by kernel_rfl) ?_ _
      refine hK _ _ ?_
      go_wp2
      go_roundw
      case rel => exact ⟨i + 1, j - 1, _, by go_num, by go_num, by omega, by omega, HSW.out, by rw [← HE.out, M4.out]⟩
      case measure => simp [intOf]; omega
    · have r4 : ¬ (i : Int) < (j : Int) := by omega
      have HE : Hid (dk = reverseRange d a b) := Lib.hid (by rw [← M4.out, revU_done hij])
      go_wp2
      go_end0
      exact ⟨rfl, by rw [← HE.out]; exact M1.out⟩
end Go.Proofs.Ytlfmmmgdilencaa
end

section
namespace Go.Proofs.Ytlfmmmgdilencaa
open Go.RowKit Go.Sort
set_option linter.unusedVariables false

structure CnU (W : World) (g off n : Nat) (d : Array Nat) (q s : Nat) (w : World) : Prop where
  su : SU W g off n d w
  bx : Has w q 3 #[.int .i64 (s : Int)]
  low : W.heap.size ≤ q
  ne : g ≠ q
theorem CnU.drew {W w : World} {g off n q s : Nat} {d : Array Nat} (h : CnU W g off n d q s w) : CnU W g off n d q s w.drew := ⟨h.su.drew, h.bx, h.low, h.ne⟩
theorem CnU.put {W w : World} {g off n q s : Nat} {d : Array Nat} (h : CnU W g off n d q s w) (t : Nat) : CnU W g off n d q t (w.setCell ⟨q, 0, none⟩ (.int .i64 (t : Int))) :=
  ⟨⟨h.su.size, fun i hi => (World.cell?_setCell_other _ _ _ _ (by intro e; injection e with e; exact h.ne e.symm)).trans (h.su.cell i hi),
    ⟨h.su.gr.os, h.su.gr.tape, h.su.gr.output, by simpa [World.setCell] using h.su.gr.size, fun i hi hne => (Below.heap_setCell w _ _ i (by have := h.low; show i ≠ q; omega)).trans (h.su.gr.block i hi hne)⟩, h.su.most, fun k => by rw [World.frozen?_setCell]; exact h.su.free k⟩,
   by have := h.bx.store 0 (.int .i64 (t : Int)); simpa using this, h.low, h.ne⟩
set_option maxRecDepth 100000 in
set_option maxHeartbeats 4000000 in
theorem oOrder2U_any {g off n q s : Nat} (c a b : Nat) (d : Array Nat) (W w : World) (h : CnU W g off n d q s w) (ha : a < n) (hb : b < n) (hs : s ≤ 1000) :
    Calls Try.prog 39 #[.slice (some ⟨g, off, none⟩) n c, .int .i64 (a : Int), .int .i64 (b : Int), .pointer (some ⟨q, 0, none⟩)] w fun e w' => e = .returned (.tuple #[.int .i64 ((order2 ltU d a b s).1 : Int), .int .i64 ((order2 ltU d a b s).2.1 : Int)]) ∧ CnU W g off n d q (order2 ltU d a b s).2.2 w' := by
  have hmx : Try.prog.follows .mixedOrders = true := by kernel_rfl
  have HLS := Lib.hid (fun x y w => lessU_any x y w)
  have ca := h.su.cell a ha
  have cb := h.su.cell b hb
  have c0 := h.bx.cell 0
  have f0 := h.bx.free 0
  have H0 := Lib.hid h
  have hmost := h.su.most
  unfold order2
  obtain ⟨x, hx⟩ : ∃ x, d[a]! = x := ⟨_, rfl⟩
  obtain ⟨y, hy⟩ : ∃ y, d[b]! = y := ⟨_, rfl⟩
  rw [hx] at ca ⊢
  rw [hy] at cb ⊢
  clear h hx hy
  have r0 : (0 : Int) ≤ (a : Int) := by omega
  have r1 : (a : Int) < (n : Int) := by omega
  have r2 : (0 : Int) ≤ (b : Int) := by omega
  have r3 : (b : Int) < (n : Int) := by omega
  have hSd : (fun w' : World => w'.cell? ⟨g, off + b, none⟩ = some (.int .u64 (y : Int)) ∧ w'.cell? ⟨g, off + a, none⟩ = some (.int .u64 (x : Int))) w.drew := ⟨cb, ca⟩
  cases hv : ltU y x with
  | false =>
    have HL := Lib.hid hv
    rw [if_neg (by simp)]
    clear hv
    go_enter Try.func39, Try.ntmps39
    go_wp2
    rename_i K hK
    refine wp_held (fun w' : World => w'.cell? ⟨g, off + b, none⟩ = some (.int .u64 (y : Int)) ∧ w'.cell? ⟨g, off + a, none⟩ = some (.int .u64 (x : Int))) K hmx ?_ (fun _ _ h => h)
    refine wpAnyH_take (i := 0) (v := .slice (some ⟨g, off, none⟩) n c) (lit rfl) (by kernel_rfl) (by kernel_rfl) (by kernel_rfl) (fun _ _ _ h => h) (Or.inl ⟨by rfl, ?_⟩) hSd ?_
    · rintro w6 ⟨k1, k2⟩
      go_simp
    simp only [Act.put, List.setIfInBounds_toArray, List.set_cons_zero, List.set_cons_succ]
    refine wpAnyH_take (i := 1) (v := .int .i64 (b : Int)) (lit rfl) (by kernel_rfl) (by kernel_rfl) (by kernel_rfl) (fun _ _ _ h => h) (Or.inl ⟨by rfl, ?_⟩) hSd ?_
    · rintro w6 ⟨k1, k2⟩
      go_simp
    simp only [Act.put, List.setIfInBounds_toArray, List.set_cons_zero, List.set_cons_succ]
    refine wpAnyH_take (i := 2) (v := .pointer (some ⟨g, off + b, none⟩)) (lit rfl) (by kernel_rfl) (by kernel_rfl) (by kernel_rfl) (fun _ _ _ h => h) (Or.inl ⟨by rfl, ?_⟩) hSd ?_
    · rintro w6 ⟨k1, k2⟩
      go_simp
    simp only [Act.put, List.setIfInBounds_toArray, List.set_cons_zero, List.set_cons_succ]
    refine wpAnyH_take (i := 3) (v := .int .u64 (y : Int)) (lit rfl) (by kernel_rfl) (by kernel_rfl) (by kernel_rfl) (fun _ _ _ h => h) (Or.inl ⟨by rfl, ?_⟩) hSd ?_
    · rintro w6 ⟨k1, k2⟩
      go_simp
    simp only [Act.put, List.setIfInBounds_toArray, List.set_cons_zero, List.set_cons_succ]
    refine wpAnyH_take (i := 4) (v := .slice (some ⟨g, off, none⟩) n c) (lit rfl) (by kernel_rfl) (by kernel_rfl) (by kernel_rfl) (fun _ _ _ h => h) (Or.inl ⟨by rfl, ?_⟩) hSd ?_
    · rintro w6 ⟨k1, k2⟩
      go_simp
    simp only [Act.put, List.setIfInBounds_toArray, List.set_cons_zero, List.set_cons_succ]
    refine wpAnyH_take (i := 5) (v := .int .i64 (a : Int)) (lit rfl) (by kernel_rfl) (by kernel_rfl) (by kernel_rfl) (fun _ _ _ h => h) (Or.inl ⟨by rfl, ?_⟩) hSd ?_
    · rintro w6 ⟨k1, k2⟩
      go_simp
    simp only [Act.put, List.setIfInBounds_toArray, List.set_cons_zero, List.set_cons_succ]
    refine wpAnyH_take (i := 6) (v := .pointer (some ⟨g, off + a, none⟩)) (lit rfl) (by kernel_rfl) (by kernel_rfl) (by kernel_rfl) (fun _ _ _ h => h) (Or.inl ⟨by rfl, ?_⟩) hSd ?_
    · rintro w6 ⟨k1, k2⟩
      go_simp
    simp only [Act.put, List.setIfInBounds_toArray, List.set_cons_zero, List.set_cons_succ]
    refine wpAnyH_take (i := 7) (v := .int .u64 (x : Int)) (lit rfl) (by kernel_rfl) (by kernel_rfl) (by kernel_rfl) (fun _ _ _ h => h) (Or.inl ⟨by rfl, ?_⟩) hSd ?_
    · rintro w6 ⟨k1, k2⟩
      go_simp
    simp only [Act.put, List.setIfInBounds_toArray, List.set_cons_zero, List.set_cons_succ]
    refine wpAnyH_ready (rs := [8]) (by kernel_rfl) (by simp) ?_
    refine AllReadyH.cons (lit rfl) (fun K5 hK5 => ?_) AllReadyH.nil
    refine step_open rfl ?_
    go_simp
    go_at_call 28
    (with_reducible refine (HLS.out _ _ _).mono ?_)
    rintro e7 w7 ⟨rfl, rfl⟩
    rw [HL.out]
    refine hK5.out _ _ hSd (fun _ => ?_)
    clear hK5 K5
    refine wpAnyH_done (by kernel_rfl) ?_ _
    refine hK _ _ ?_
    go_wp2
    go_ret2
    exact ⟨rfl, H0.out.drew⟩
  | true =>
    have HL := Lib.hid hv
    have H1 := Lib.hid (H0.out.put (s + 1))
    rw [if_pos rfl]
    clear hv
    go_enter Try.func39, Try.ntmps39
    go_wp2
    rename_i K hK
    refine wp_held (fun w' : World => w'.cell? ⟨g, off + b, none⟩ = some (.int .u64 (y : Int)) ∧ w'.cell? ⟨g, off + a, none⟩ = some (.int .u64 (x : Int))) K hmx ?_ (fun _ _ h => h)
    refine wpAnyH_take (i := 0) (v := .slice (some ⟨g, off, none⟩) n c) (lit rfl) (by kernel_rfl) (by kernel_rfl) (by kernel_rfl) (fun _ _ _ h => h) (Or.inl ⟨by rfl, ?_⟩) hSd ?_
    · rintro w6 ⟨k1, k2⟩
      go_simp
    simp only [Act.put, List.setIfInBounds_toArray, List.set_cons_zero, List.set_cons_succ]
    refine wpAnyH_take (i := 1) (v := .int .i64 (b : Int)) (lit rfl) (by kernel_rfl) (by kernel_rfl) (by kernel_rfl) (fun _ _ _ h => h) (Or.inl ⟨by rfl, ?_⟩) hSd ?_
    · rintro w6 ⟨k1, k2⟩
      go_simp
    simp only [Act.put, List.setIfInBounds_toArray, List.set_cons_zero, List.set_cons_succ]
    refine wpAnyH_take (i := 2) (v := .pointer (some ⟨g, off + b, none⟩)) (lit rfl) (by kernel_rfl) (by kernel_rfl) (by kernel_rfl) (fun _ _ _ h => h) (Or.inl ⟨by rfl, ?_⟩) hSd ?_
    · rintro w6 ⟨k1, k2⟩
      go_simp
    simp only [Act.put, List.setIfInBounds_toArray, List.set_cons_zero, List.set_cons_succ]
    refine wpAnyH_take (i := 3) (v := .int .u64 (y : Int)) (lit rfl) (by kernel_rfl) (by kernel_rfl) (by kernel_rfl) (fun _ _ _ h => h) (Or.inl ⟨by rfl, ?_⟩) hSd ?_
    · rintro w6 ⟨k1, k2⟩
      go_simp
    simp only [Act.put, List.setIfInBounds_toArray, List.set_cons_zero, List.set_cons_succ]
    refine wpAnyH_take (i := 4) (v := .slice (some ⟨g, off, none⟩) n c) (lit rfl) (by kernel_rfl) (by kernel_rfl) (by kernel_rfl) (fun _ _ _ h => h) (Or.inl ⟨by rfl, ?_⟩) hSd ?_
    · rintro w6 ⟨k1, k2⟩
      go_simp
    simp only [Act.put, List.setIfInBounds_toArray, List.set_cons_zero, List.set_cons_succ]
    refine wpAnyH_take (i := 5) (v := .int .i64 (a : Int)) (lit rfl) (by kernel_rfl) (by kernel_rfl) (by kernel_rfl) (fun _ _ _ h => h) (Or.inl ⟨by rfl, ?_⟩) hSd ?_
    · rintro w6 ⟨k1, k2⟩
      go_simp
    simp only [Act.put, List.setIfInBounds_toArray, List.set_cons_zero, List.set_cons_succ]
    refine wpAnyH_take (i := 6) (v := .pointer (some ⟨g, off + a, none⟩)) (lit rfl) (by kernel_rfl) (by kernel_rfl) (by kernel_rfl) (fun _ _ _ h => h) (Or.inl ⟨by rfl, ?_⟩) hSd ?_
    · rintro w6 ⟨k1, k2⟩
      go_simp
    simp only [Act.put, List.setIfInBounds_toArray, List.set_cons_zero, List.set_cons_succ]
    refine wpAnyH_take (i := 7) (v := .int .u64 (x : Int)) (lit rfl) (by kernel_rfl) (by kernel_rfl) (by kernel_rfl) (fun _ _ _ h => h) (Or.inl ⟨by rfl, ?_⟩) hSd ?_
    · rintro w6 ⟨k1, k2⟩
      go_simp
    simp only [Act.put, List.setIfInBounds_toArray, List.set_cons_zero, List.set_cons_succ]
    refine wpAnyH_ready (rs := [8]) (by kernel_rfl) (by simp) ?_
    refine AllReadyH.cons (lit rfl) (fun K5 hK5 => ?_) AllReadyH.nil
    refine step_open rfl ?_
    go_simp
    go_at_call 28
    (with_reducible refine (HLS.out _ _ _).mono ?_)
    rintro e7 w7 ⟨rfl, rfl⟩
    rw [HL.out]
    refine hK5.out _ _ hSd (fun _ => ?_)
    clear hK5 K5
    refine wpAnyH_done (by kernel_rfl) ?_ _
    refine hK _ _ ?_
    go_wp2
    go_ret2
    exact ⟨rfl, H1.out.drew⟩
theorem order2U_in {lt : Nat → Nat → Bool} {d : Array Nat} {a b s : Nat} : ((order2 lt d a b s).1 = a ∧ (order2 lt d a b s).2.1 = b ∨ (order2 lt d a b s).1 = b ∧ (order2 lt d a b s).2.1 = a) ∧ (order2 lt d a b s).2.2 ≤ s + 1 := by
  unfold order2
  split <;> simp
theorem medianU_in {n : Nat} {d : Array Nat} {a b c s : Nat} (ha : a < n) (hb : b < n) (hc : c < n) : (median ltU d a b c s).1 < n ∧ (median ltU d a b c s).2 ≤ s + 3 := by
  unfold median
  dsimp only
  have h1 := order2U_in (lt := ltU) (d := d) (a := a) (b := b) (s := s)
  generalize order2 ltU d a b s = r1 at h1
  have h2 := order2U_in (lt := ltU) (d := d) (a := r1.2.1) (b := c) (s := r1.2.2)
  generalize order2 ltU d r1.2.1 c r1.2.2 = r2 at h2
  have h3 := order2U_in (lt := ltU) (d := d) (a := r1.1) (b := r2.1) (s := r2.2.2)
  generalize order2 ltU d r1.1 r2.1 r2.2.2 = r3 at h3
  omega
set_option maxRecDepth 100000 in
set_option maxHeartbeats 4000000 in
theorem oMedianU_any {g off n q s : Nat} (k a b c : Nat) (d : Array Nat) (W w : World) (h : CnU W g off n d q s w) (ha : a < n) (hb : b < n) (hc : c < n) (hs : s ≤ 900) :
    Calls Try.prog 37 #[.slice (some ⟨g, off, none⟩) n k, .int .i64 (a : Int), .int .i64 (b : Int), .int .i64 (c : Int), .pointer (some ⟨q, 0, none⟩)] w fun e w' => e = .returned (.int .i64 ((median ltU d a b c s).1 : Int)) ∧ CnU W g off n d q (median ltU d a b c s).2 w' := by
  have hmost := h.su.most
  have e1 := order2U_in (lt := ltU) (d := d) (a := a) (b := b) (s := s)
  have H1 := Lib.hid (oOrder2U_any k a b d W w h ha hb (by omega))
  unfold median
  dsimp only
  generalize order2 ltU d a b s = r1 at e1 H1 ⊢
  obtain ⟨a1, b1, s1⟩ := r1
  dsimp only at e1 H1 ⊢
  have e2 := order2U_in (lt := ltU) (d := d) (a := b1) (b := c) (s := s1)
  have H2 := Lib.hid (fun w1 (h1 : CnU W g off n d q s1 w1) => oOrder2U_any k b1 c d W w1 h1 (by omega) (by omega) (by omega))
  generalize order2 ltU d b1 c s1 = r2 at e2 H2 ⊢
  obtain ⟨b2, c2, s2⟩ := r2
  dsimp only at e2 H2 ⊢
  have e3 := order2U_in (lt := ltU) (d := d) (a := a1) (b := b2) (s := s2)
  have H3 := Lib.hid (fun w1 (h1 : CnU W g off n d q s2 w1) => oOrder2U_any k a1 b2 d W w1 h1 (by omega) (by omega) (by omega))
  generalize order2 ltU d a1 b2 s2 = r3 at e3 H3 ⊢
  obtain ⟨a3, b3, s3⟩ := r3
  dsimp only at e3 H3 ⊢
  clear h e1 e2 e3
  go_enter Try.func37, Try.ntmps37
  go_wp2_with (first
    | (go_at_call 39; (with_reducible refine H1.out.mono ?_); rintro e w1 ⟨rfl, h1⟩; have K1 := Lib.hid h1; clear h1)
    | (go_at_call 39; (with_reducible refine (H2.out _ K1.out).mono ?_); rintro e w2 ⟨rfl, h1⟩; have K2 := Lib.hid h1; clear h1)
    | (go_at_call 39; (with_reducible refine (H3.out _ K2.out).mono ?_); rintro e w3 ⟨rfl, h1⟩; have K3 := Lib.hid h1; clear h1))
  go_ret
  exact ⟨rfl, K3.out⟩
theorem oMedAdjU_any {g off n q s : Nat} (k a : Nat) (d : Array Nat) (W w : World) (h : CnU W g off n d q s w) (ha0 : 0 < a) (ha : a + 1 < n) (hs : s ≤ 900) :
    Calls Try.prog 36 #[.slice (some ⟨g, off, none⟩) n k, .int .i64 (a : Int), .pointer (some ⟨q, 0, none⟩)] w fun e w' => e = .returned (.int .i64 ((medianAdjacent ltU d a s).1 : Int)) ∧ CnU W g off n d q (medianAdjacent ltU d a s).2 w' := by
  have hmost := h.su.most
  have hm := oMedianU_any k (a - 1) a (a + 1) d W w h (by omega) (by omega) (by omega) hs
  rw [show ((a - 1 : Nat) : Int) = (a : Int) - 1 by omega, show ((a + 1 : Nat) : Int) = (a : Int) + 1 by omega] at hm
  have H1 := Lib.hid hm
  have w1 : IntKind.i64.wrap ((a : Int) - 1) = (a : Int) - 1 := by rw [IntKind.wrap_i64]; omega
  have w2 : IntKind.i64.wrap ((a : Int) + 1) = (a : Int) + 1 := by rw [IntKind.wrap_i64]; omega
  unfold medianAdjacent
  clear h hm
  go_enter Try.func36, Try.ntmps36
  go_wp2_with (go_at_call 37; (with_reducible refine H1.out.mono ?_); rintro e w1 ⟨rfl, h1⟩; have K1 := Lib.hid h1; clear h1)
  go_ret
  exact ⟨rfl, K1.out⟩
end Go.Proofs.Ytlfmmmgdilencaa
end
