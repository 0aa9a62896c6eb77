import Derived.Test.YtoelojlabmconaaJ10
/- Of a claim's texts, joined: Ppb. No statement but in the last. -/
namespace Go.Proofs.Ytoelojlabmconaa
open Go.RowKit
set_option linter.unusedVariables false

def risB (l : List Int) : Bool := (List.range l.length).all (fun i => decide (i = 0) || !decide (l.getD i 0 ≤ l.getD (i - 1) 0))
theorem risB_no {l : List Int} {i : Nat} (hi : i < l.length) (h0 : i ≠ 0) (he : l.getD i 0 ≤ l.getD (i - 1) 0) : risB l = false := by
  cases e : risB l
  · rfl
  · unfold risB at e
    rw [List.all_eq_true] at e
    have := e i (List.mem_range.2 hi)
    rw [decide_eq_false h0, decide_eq_true he] at this
    cases this
theorem risB_yes {l : List Int} (he : ∀ i, i < l.length → i = 0 ∨ ¬ l.getD i 0 ≤ l.getD (i - 1) 0) : risB l = true := by
  unfold risB
  rw [List.all_eq_true]
  intro i hi
  rcases he i (List.mem_range.1 hi) with h | h
  · rw [decide_eq_true h]; rfl
  · rw [decide_eq_false h]; simp
theorem risB_iff {l : List Int} : risB l = true ↔ incZ l := by
  constructor
  · intro h
    refine inc_of_next (fun i hi h0 => ?_)
    by_cases e : l.getD i 0 ≤ l.getD (i - 1) 0
    · rw [risB_no hi (by omega) e] at h
      cases h
    · rw [getZ_get hi, getZ_get (by omega)] at e
      omega
  · intro h
    refine risB_yes (fun i hi => ?_)
    by_cases e : i = 0
    · exact Or.inl e
    · refine Or.inr (fun h2 => ?_)
      rw [getZ_get hi, getZ_get (by omega)] at h2
      have := List.pairwise_iff_getElem.1 h (i - 1) i (by omega) hi (by omega)
      omega
set_option maxRecDepth 100000 in
set_option maxHeartbeats 4000000 in
theorem oRises13_any (l : List Int) (A : Option Addr) (n c : Nat) (w : World) (h : RowZ w A n c l) (hn : n ≤ 1000000) :
    Calls Try.prog 23 #[.slice A n c] w fun e w' => e = .returned (.bool (risB l)) ∧ Below w.heap.size w w' := by
  have hmx : Try.prog.follows .mixedOrders = true := by kernel_rfl
  have HA := Lib.hid h.reads
  have HN := Lib.hid h.len
  clear h
  go_enter Try.func23, Try.ntmps23
  go_wp2
  go_loopw [6] (fun i wr => ∃ k : Nat, k ≤ n ∧ i = .int .i64 (k : Int) ∧ (∀ i, i < k → i = 0 ∨ l.getD (i - 1) 0 < l.getD i 0) ∧ Below w.heap.size w wr) (fun i _ => n - (intOf i).toNat)
  case atStart => exact ⟨0, Nat.zero_le _, rfl, fun i hi => absurd hi (Nat.not_lt_zero _), Below.refl _ _⟩
  case round =>
    obtain ⟨k, hk, rfl, hok, hB⟩ := hrel
    have BW := Lib.hid hB
    have HOK := Lib.hid hok
    clear hB hok
    by_cases hlt : k < n
    · have hkl : k < l.length := by have := HN.out; omega
      have HRD := Lib.hid (HA.out.keep_ BW.out)
      obtain ⟨g, off, rfl, ck⟩ := HRD.out.zint hkl
      obtain ⟨x, hx⟩ : ∃ x, l[k] = x := ⟨_, rfl⟩
      rw [hx] at ck
      have HX : Hid (l.getD k 0 = x) := Lib.hid (getZ_at (by rw [List.getElem?_eq_getElem hkl, hx]))
      have HKL := Lib.hid hkl
      have i1 : (k : Int) < (n : Int) := by omega
      clear hx hkl
      by_cases hk0 : k = 0
      · subst hk0
        go_wp2
        first | (rename_i K hK; refine wp_held (fun w' : World => True) K hmx ?_ (fun _ _ h => h)) | (rename_i K hK hz; refine wp_held (fun w' : World => True) K hmx ?_ (fun _ _ h => h))
        refine wpAnyH_take (i := 0) (v := .int .i64 0) (lit rfl) (by kernel_rfl) (by kernel_rfl) (by kernel_rfl) (fun _ _ _ h => h) (Or.inl ⟨by rfl, ?_⟩) trivial ?_
        · rintro w6 _
          go_simp
        simp only [Act.put, List.setIfInBounds_toArray, List.set_cons_zero, List.set_cons_succ]
        refine wpAnyH_take (i := 1) (v := .bool false) (lit rfl) (by kernel_rfl) (by kernel_rfl) (by kernel_rfl) (fun _ _ _ h => h) (Or.inl ⟨by rfl, ?_⟩) trivial ?_
        · rintro w6 _
          go_simp
        simp only [Act.put, List.setIfInBounds_toArray, List.set_cons_zero, List.set_cons_succ]
        refine wpAnyH_take (i := 2) (v := .bool false) (lit rfl) (by kernel_rfl) (by kernel_rfl) (by kernel_rfl) (fun _ _ _ h => h) (Or.inl ⟨by rfl, ?_⟩) trivial ?_
        · rintro w6 _
          go_simp
        simp only [Act.put, List.setIfInBounds_toArray, List.set_cons_zero, List.set_cons_succ]
        refine wpAnyH_take (i := 3) (v := undef) (lit rfl) (by kernel_rfl) (by kernel_rfl) (by kernel_rfl) (fun _ _ _ h => h) (Or.inr ⟨by rfl, rfl⟩) trivial ?_
        simp only [Act.put, List.setIfInBounds_toArray, List.set_cons_zero, List.set_cons_succ]
        refine wpAnyH_take (i := 4) (v := undef) (lit rfl) (by kernel_rfl) (by kernel_rfl) (by kernel_rfl) (fun _ _ _ h => h) (Or.inr ⟨by rfl, rfl⟩) trivial ?_
        simp only [Act.put, List.setIfInBounds_toArray, List.set_cons_zero, List.set_cons_succ]
        refine wpAnyH_take (i := 5) (v := undef) (lit rfl) (by kernel_rfl) (by kernel_rfl) (by kernel_rfl) (fun _ _ _ h => h) (Or.inr ⟨by rfl, rfl⟩) trivial ?_
        simp only [Act.put, List.setIfInBounds_toArray, List.set_cons_zero, List.set_cons_succ]
        refine wpAnyH_take (i := 6) (v := undef) (lit rfl) (by kernel_rfl) (by kernel_rfl) (by kernel_rfl) (fun _ _ _ h => h) (Or.inr ⟨by rfl, rfl⟩) trivial ?_
        simp only [Act.put, List.setIfInBounds_toArray, List.set_cons_zero, List.set_cons_succ]
        refine wpAnyH_take (i := 7) (v := undef) (lit rfl) (by kernel_rfl) (by kernel_rfl) (by kernel_rfl) (fun _ _ _ h => h) (Or.inr ⟨by rfl, rfl⟩) trivial ?_
        simp only [Act.put, List.setIfInBounds_toArray, List.set_cons_zero, List.set_cons_succ]
        refine wpAnyH_take (i := 8) (v := undef) (lit rfl) (by kernel_rfl) (by kernel_rfl) (by kernel_rfl) (fun _ _ _ h => h) (Or.inr ⟨by rfl, rfl⟩) trivial ?_
        simp only [Act.put, List.setIfInBounds_toArray, List.set_cons_zero, List.set_cons_succ]
        refine wpAnyH_take (i := 9) (v := undef) (lit rfl) (by kernel_rfl) (by kernel_rfl) (by kernel_rfl) (fun _ _ _ h => h) (Or.inr ⟨by rfl, rfl⟩) trivial ?_
        simp only [Act.put, List.setIfInBounds_toArray, List.set_cons_zero, List.set_cons_succ]
        refine wpAnyH_take (i := 10) (v := undef) (lit rfl) (by kernel_rfl) (by kernel_rfl) (by kernel_rfl) (fun _ _ _ h => h) (Or.inr ⟨by rfl, rfl⟩) trivial ?_
        simp only [Act.put, List.setIfInBounds_toArray, List.set_cons_zero, List.set_cons_succ]
        refine wpAnyH_take (i := 11) (v := undef) (lit rfl) (by kernel_rfl) (by kernel_rfl) (by kernel_rfl) (fun _ _ _ h => h) (Or.inr ⟨by rfl, rfl⟩) trivial ?_
        simp only [Act.put, List.setIfInBounds_toArray, List.set_cons_zero, List.set_cons_succ]
        refine wpAnyH_take (i := 12) (v := undef) (lit rfl) (by kernel_rfl) (by kernel_rfl) (by kernel_rfl) (fun _ _ _ h => h) (Or.inr ⟨by rfl, rfl⟩) trivial ?_
        simp only [Act.put, List.setIfInBounds_toArray, List.set_cons_zero, List.set_cons_succ]
        refine wpAnyH_take (i := 13) (v := .bool false) (lit rfl) (by kernel_rfl) (by kernel_rfl) (by kernel_rfl) (fun _ _ _ h => h) (Or.inl ⟨by rfl, ?_⟩) trivial ?_
        · rintro w6 _
          go_simp
        simp only [Act.put, List.setIfInBounds_toArray, List.set_cons_zero, List.set_cons_succ]
        refine wpAnyH_done (by kernel_rfl) ?_ _
        refine hK _ _ ?_
        go_wp2
        go_roundw
        case rel => exact ⟨1, by omega, by go_num, fun i hi => Or.inl (by omega), BW.out.drew⟩
        case measure => simp [intOf]; omega
      · obtain ⟨j, rfl⟩ : ∃ j, k = j + 1 := ⟨k - 1, by omega⟩
        obtain ⟨g', off', e', cj⟩ := HRD.out.zint (i := j) (by have := HKL.out; omega)
        injection e' with e'
        injection e' with e1 e2 _
        subst e1 e2
        obtain ⟨y, hy⟩ : ∃ y, l[j]'(by have := HKL.out; omega) = y := ⟨_, rfl⟩
        rw [hy] at cj
        have HY : Hid (l.getD (j + 1 - 1) 0 = y) := Lib.hid (getZ_at (by rw [Nat.add_sub_cancel, List.getElem?_eq_getElem (by have := HKL.out; omega), hy]))
        have hSd : (fun w' : World => w'.cell? ⟨g, off + (j + 1), none⟩ = some (.int .i64 x) ∧ w'.cell? ⟨g, off + j, none⟩ = some (.int .i64 y)) wr.drew := ⟨ck, cj⟩
        have j0 : (0 : Int) ≤ (j : Int) := by omega
        have j1 : (j : Int) < (n : Int) := by omega
        have j3 : (j : Int) + 1 < (n : Int) := by omega
        have j4 : (0 : Int) < (j : Int) + 1 := by omega
        have j5 : (0 : Int) ≤ (j : Int) + 1 := by omega
        have j6 : (0 : Int) < ((j + 1 : Nat) : Int) := by omega
        have hwj : IntKind.i64.wrap (j : Int) = (j : Int) := by rw [IntKind.wrap_i64]; omega
        clear hy hk0
        by_cases c3 : x ≤ y
        · have HNO : Hid (risB l = false) := Lib.hid (risB_no HKL.out (by omega) (by rw [HX.out, HY.out]; exact c3))
          go_wp2
          first | (rename_i K hK; refine wp_held (fun w' : World => w'.cell? ⟨g, off + (j + 1), none⟩ = some (.int .i64 x) ∧ w'.cell? ⟨g, off + j, none⟩ = some (.int .i64 y)) K hmx ?_ (fun _ _ h => h)) | (rename_i K hK hz; refine wp_held (fun w' : World => w'.cell? ⟨g, off + (j + 1), none⟩ = some (.int .i64 x) ∧ w'.cell? ⟨g, off + j, none⟩ = some (.int .i64 y)) K hmx ?_ (fun _ _ h => h))
          refine wpAnyH_take (i := 0) (v := .int .i64 ((j + 1 : Nat) : Int)) (lit rfl) (by kernel_rfl) (by kernel_rfl) (by kernel_rfl) (fun _ _ _ h => h) (Or.inl ⟨by rfl, ?_⟩) hSd ?_
          · rintro w6 ⟨k1, k2⟩
            go_simp
          simp only [Act.put, List.setIfInBounds_toArray, List.set_cons_zero, List.set_cons_succ]
          refine wpAnyH_take (i := 1) (v := .bool true) (lit rfl) (by kernel_rfl) (by kernel_rfl) (by kernel_rfl) (fun _ _ _ h => h) (Or.inl ⟨by rfl, ?_⟩) hSd ?_
          · rintro w6 ⟨k1, k2⟩
            go_simp
          simp only [Act.put, List.setIfInBounds_toArray, List.set_cons_zero, List.set_cons_succ]
          refine wpAnyH_take (i := 2) (v := .bool true) (lit rfl) (by kernel_rfl) (by kernel_rfl) (by kernel_rfl) (fun _ _ _ h => h) (Or.inl ⟨by rfl, ?_⟩) hSd ?_
          · rintro w6 ⟨k1, k2⟩
            go_simp
          simp only [Act.put, List.setIfInBounds_toArray, List.set_cons_zero, List.set_cons_succ]
          refine wpAnyH_take (i := 3) (v := .slice (some ⟨g, off, none⟩) n c) (lit rfl) (by kernel_rfl) (by kernel_rfl) (by kernel_rfl) (fun _ _ _ h => h) (Or.inl ⟨by rfl, ?_⟩) hSd ?_
          · rintro w6 ⟨k1, k2⟩
            go_simp
          simp only [Act.put, List.setIfInBounds_toArray, List.set_cons_zero, List.set_cons_succ]
          refine wpAnyH_take (i := 4) (v := .int .i64 ((j + 1 : Nat) : Int)) (lit rfl) (by kernel_rfl) (by kernel_rfl) (by kernel_rfl) (fun _ _ _ h => h) (Or.inl ⟨by rfl, ?_⟩) hSd ?_
          · rintro w6 ⟨k1, k2⟩
            go_simp
          simp only [Act.put, List.setIfInBounds_toArray, List.set_cons_zero, List.set_cons_succ]
          refine wpAnyH_take (i := 5) (v := .pointer (some ⟨g, off + (j + 1), none⟩)) (lit rfl) (by kernel_rfl) (by kernel_rfl) (by kernel_rfl) (fun _ _ _ h => h) (Or.inl ⟨by rfl, ?_⟩) hSd ?_
          · rintro w6 ⟨k1, k2⟩
            go_simp
          simp only [Act.put, List.setIfInBounds_toArray, List.set_cons_zero, List.set_cons_succ]
          refine wpAnyH_take (i := 6) (v := .int .i64 x) (lit rfl) (by kernel_rfl) (by kernel_rfl) (by kernel_rfl) (fun _ _ _ h => h) (Or.inl ⟨by rfl, ?_⟩) hSd ?_
          · rintro w6 ⟨k1, k2⟩
            go_simp
          simp only [Act.put, List.setIfInBounds_toArray, List.set_cons_zero, List.set_cons_succ]
          refine wpAnyH_take (i := 7) (v := .slice (some ⟨g, off, none⟩) n c) (lit rfl) (by kernel_rfl) (by kernel_rfl) (by kernel_rfl) (fun _ _ _ h => h) (Or.inl ⟨by rfl, ?_⟩) hSd ?_
          · rintro w6 ⟨k1, k2⟩
            go_simp
          simp only [Act.put, List.setIfInBounds_toArray, List.set_cons_zero, List.set_cons_succ]
          refine wpAnyH_take (i := 8) (v := .int .i64 ((j + 1 : Nat) : Int)) (lit rfl) (by kernel_rfl) (by kernel_rfl) (by kernel_rfl) (fun _ _ _ h => h) (Or.inl ⟨by rfl, ?_⟩) hSd ?_
          · rintro w6 ⟨k1, k2⟩
            go_simp
          simp only [Act.put, List.setIfInBounds_toArray, List.set_cons_zero, List.set_cons_succ]
          refine wpAnyH_take (i := 9) (v := .int .i64 (j : Int)) (lit rfl) (by kernel_rfl) (by kernel_rfl) (by kernel_rfl) (fun _ _ _ h => h) (Or.inl ⟨by rfl, ?_⟩) hSd ?_
          · rintro w6 ⟨k1, k2⟩
            go_simp
          simp only [Act.put, List.setIfInBounds_toArray, List.set_cons_zero, List.set_cons_succ]
          refine wpAnyH_take (i := 10) (v := .pointer (some ⟨g, off + j, none⟩)) (lit rfl) (by kernel_rfl) (by kernel_rfl) (by kernel_rfl) (fun _ _ _ h => h) (Or.inl ⟨by rfl, ?_⟩) hSd ?_
          · rintro w6 ⟨k1, k2⟩
            go_simp
          simp only [Act.put, List.setIfInBounds_toArray, List.set_cons_zero, List.set_cons_succ]
          refine wpAnyH_take (i := 11) (v := .int .i64 y) (lit rfl) (by kernel_rfl) (by kernel_rfl) (by kernel_rfl) (fun _ _ _ h => h) (Or.inl ⟨by rfl, ?_⟩) hSd ?_
          · rintro w6 ⟨k1, k2⟩
            go_simp
          simp only [Act.put, List.setIfInBounds_toArray, List.set_cons_zero, List.set_cons_succ]
          refine wpAnyH_take (i := 12) (v := .bool true) (lit rfl) (by kernel_rfl) (by kernel_rfl) (by kernel_rfl) (fun _ _ _ h => h) (Or.inl ⟨by rfl, ?_⟩) hSd ?_
          · rintro w6 ⟨k1, k2⟩
            go_simp
          simp only [Act.put, List.setIfInBounds_toArray, List.set_cons_zero, List.set_cons_succ]
          refine wpAnyH_take (i := 13) (v := .bool true) (lit rfl) (by kernel_rfl) (by kernel_rfl) (by kernel_rfl) (fun _ _ _ h => h) (Or.inl ⟨by rfl, ?_⟩) hSd ?_
          · rintro w6 ⟨k1, k2⟩
            go_simp
          simp only [Act.put, List.setIfInBounds_toArray, List.set_cons_zero, List.set_cons_succ]
          refine wpAnyH_done (by kernel_rfl) ?_ _
          refine hK _ _ ?_
          go_wp2
          go_ret
          rw [HNO.out]
          exact ⟨rfl, BW.out.drew⟩
        · have HYES := Lib.hid (fun i (hi : i < j + 1 + 1) => (by
            by_cases e : i = j + 1
            · subst e
              refine Or.inr ?_
              rw [HX.out, HY.out]
              omega
            · exact HOK.out i (by omega) : i = 0 ∨ l.getD (i - 1) 0 < l.getD i 0))
          go_wp2
          first | (rename_i K hK; refine wp_held (fun w' : World => w'.cell? ⟨g, off + (j + 1), none⟩ = some (.int .i64 x) ∧ w'.cell? ⟨g, off + j, none⟩ = some (.int .i64 y)) K hmx ?_ (fun _ _ h => h)) | (rename_i K hK hz; refine wp_held (fun w' : World => w'.cell? ⟨g, off + (j + 1), none⟩ = some (.int .i64 x) ∧ w'.cell? ⟨g, off + j, none⟩ = some (.int .i64 y)) K hmx ?_ (fun _ _ h => h))
          refine wpAnyH_take (i := 0) (v := .int .i64 ((j + 1 : Nat) : Int)) (lit rfl) (by kernel_rfl) (by kernel_rfl) (by kernel_rfl) (fun _ _ _ h => h) (Or.inl ⟨by rfl, ?_⟩) hSd ?_
          · rintro w6 ⟨k1, k2⟩
            go_simp
          simp only [Act.put, List.setIfInBounds_toArray, List.set_cons_zero, List.set_cons_succ]
          refine wpAnyH_take (i := 1) (v := .bool true) (lit rfl) (by kernel_rfl) (by kernel_rfl) (by kernel_rfl) (fun _ _ _ h => h) (Or.inl ⟨by rfl, ?_⟩) hSd ?_
          · rintro w6 ⟨k1, k2⟩
            go_simp
          simp only [Act.put, List.setIfInBounds_toArray, List.set_cons_zero, List.set_cons_succ]
          refine wpAnyH_take (i := 2) (v := .bool true) (lit rfl) (by kernel_rfl) (by kernel_rfl) (by kernel_rfl) (fun _ _ _ h => h) (Or.inl ⟨by rfl, ?_⟩) hSd ?_
          · rintro w6 ⟨k1, k2⟩
            go_simp
          simp only [Act.put, List.setIfInBounds_toArray, List.set_cons_zero, List.set_cons_succ]
          refine wpAnyH_take (i := 3) (v := .slice (some ⟨g, off, none⟩) n c) (lit rfl) (by kernel_rfl) (by kernel_rfl) (by kernel_rfl) (fun _ _ _ h => h) (Or.inl ⟨by rfl, ?_⟩) hSd ?_
          · rintro w6 ⟨k1, k2⟩
            go_simp
          simp only [Act.put, List.setIfInBounds_toArray, List.set_cons_zero, List.set_cons_succ]
          refine wpAnyH_take (i := 4) (v := .int .i64 ((j + 1 : Nat) : Int)) (lit rfl) (by kernel_rfl) (by kernel_rfl) (by kernel_rfl) (fun _ _ _ h => h) (Or.inl ⟨by rfl, ?_⟩) hSd ?_
          · rintro w6 ⟨k1, k2⟩
            go_simp
          simp only [Act.put, List.setIfInBounds_toArray, List.set_cons_zero, List.set_cons_succ]
          refine wpAnyH_take (i := 5) (v := .pointer (some ⟨g, off + (j + 1), none⟩)) (lit rfl) (by kernel_rfl) (by kernel_rfl) (by kernel_rfl) (fun _ _ _ h => h) (Or.inl ⟨by rfl, ?_⟩) hSd ?_
          · rintro w6 ⟨k1, k2⟩
            go_simp
          simp only [Act.put, List.setIfInBounds_toArray, List.set_cons_zero, List.set_cons_succ]
          refine wpAnyH_take (i := 6) (v := .int .i64 x) (lit rfl) (by kernel_rfl) (by kernel_rfl) (by kernel_rfl) (fun _ _ _ h => h) (Or.inl ⟨by rfl, ?_⟩) hSd ?_
          · rintro w6 ⟨k1, k2⟩
            go_simp
          simp only [Act.put, List.setIfInBounds_toArray, List.set_cons_zero, List.set_cons_succ]
          refine wpAnyH_take (i := 7) (v := .slice (some ⟨g, off, none⟩) n c) (lit rfl) (by kernel_rfl) (by kernel_rfl) (by kernel_rfl) (fun _ _ _ h => h) (Or.inl ⟨by rfl, ?_⟩) hSd ?_
          · rintro w6 ⟨k1, k2⟩
            go_simp
          simp only [Act.put, List.setIfInBounds_toArray, List.set_cons_zero, List.set_cons_succ]
          refine wpAnyH_take (i := 8) (v := .int .i64 ((j + 1 : Nat) : Int)) (lit rfl) (by kernel_rfl) (by kernel_rfl) (by kernel_rfl) (fun _ _ _ h => h) (Or.inl ⟨by rfl, ?_⟩) hSd ?_
          · rintro w6 ⟨k1, k2⟩
            go_simp
          simp only [Act.put, List.setIfInBounds_toArray, List.set_cons_zero, List.set_cons_succ]
          refine wpAnyH_take (i := 9) (v := .int .i64 (j : Int)) (lit rfl) (by kernel_rfl) (by kernel_rfl) (by kernel_rfl) (fun _ _ _ h => h) (Or.inl ⟨by rfl, ?_⟩) hSd ?_
          · rintro w6 ⟨k1, k2⟩
            go_simp
          simp only [Act.put, List.setIfInBounds_toArray, List.set_cons_zero, List.set_cons_succ]
          refine wpAnyH_take (i := 10) (v := .pointer (some ⟨g, off + j, none⟩)) (lit rfl) (by kernel_rfl) (by kernel_rfl) (by kernel_rfl) (fun _ _ _ h => h) (Or.inl ⟨by rfl, ?_⟩) hSd ?_
          · rintro w6 ⟨k1, k2⟩
            go_simp
          simp only [Act.put, List.setIfInBounds_toArray, List.set_cons_zero, List.set_cons_succ]
          refine wpAnyH_take (i := 11) (v := .int .i64 y) (lit rfl) (by kernel_rfl) (by kernel_rfl) (by kernel_rfl) (fun _ _ _ h => h) (Or.inl ⟨by rfl, ?_⟩) hSd ?_
          · rintro w6 ⟨k1, k2⟩
            go_simp
          simp only [Act.put, List.setIfInBounds_toArray, List.set_cons_zero, List.set_cons_succ]
          refine wpAnyH_take (i := 12) (v := .bool false) (lit rfl) (by kernel_rfl) (by kernel_rfl) (by kernel_rfl) (fun _ _ _ h => h) (Or.inl ⟨by rfl, ?_⟩) hSd ?_
          · rintro w6 ⟨k1, k2⟩
            go_simp
          simp only [Act.put, List.setIfInBounds_toArray, List.set_cons_zero, List.set_cons_succ]
          refine wpAnyH_take (i := 13) (v := .bool false) (lit rfl) (by kernel_rfl) (by kernel_rfl) (by kernel_rfl) (fun _ _ _ h => h) (Or.inl ⟨by rfl, ?_⟩) hSd ?_
          · rintro w6 ⟨k1, k2⟩
            go_simp
          simp only [Act.put, List.setIfInBounds_toArray, List.set_cons_zero, List.set_cons_succ]
          refine wpAnyH_done (by kernel_rfl) ?_ _
          refine hK _ _ ?_
          go_wp2
          go_roundw
          case rel => exact ⟨j + 1 + 1, by omega, by go_num, HYES.out, BW.out.drew⟩
          case measure => simp [intOf]; omega
    · obtain rfl : k = n := by omega
      have HR : Hid (risB l = true) := Lib.hid (risB_yes (fun i hi => (HOK.out i (by have := HN.out; omega)).imp id (fun h => by omega)))
      obtain ⟨w3, hw3⟩ : ∃ w3 : World, w3 = wr := ⟨_, rfl⟩
      subst hw3
      go_wp2
      go_ret
      rw [HR.out]
      exact ⟨rfl, BW.out⟩
section
variable {w : World} {A B : Option Addr} {n c m d : Nat}
set_option maxRecDepth 100000 in
set_option maxHeartbeats 2000000 in
theorem oWait13_any (p : Pd) (h : Int) (hhi : p.hi = h) (hp : PoolA w A n c B m d p) (hs : smallR p) :
    Calls Try.prog 14 #[.agg #[.int .i64 h, .slice A n c, .slice B m d]] w fun e w' => e = .returned (.int .i64 ((catZ p.wait).length : Int)) ∧ Below w.heap.size w w' := by
  obtain ⟨W1, hW1⟩ : ∃ W1, w.alloc (.cells #[.int .i64 h, .slice A n c, .slice B m d] 25) = W1 := ⟨_, rfl⟩
  have HX := Lib.hid (BoxP.made (h := h) hp hW1)
  have HW := Lib.hid hW1
  have HM := Lib.hid hp.wait.len
  have hmm : m ≤ 1000 := by have h1 := hs.2.1; have := hp.wait.len; omega
  have hl := hs.1
  have c2 := (HX.out W1 (Below.refl _ _)).1.cell 2
  clear hp hW1 hs hhi
  go_enter Try.func14, Try.ntmps14
  go_wp2
  try rw [HW.out]
  try go_wp2
  go_loopw [3, 9] (fun v i wr => ∃ k : Nat, k ≤ m ∧ i = .int .i64 (k : Int) ∧ v = .int .i64 ((catTo p.wait k).length : Int) ∧ Below W1.heap.size W1 wr) (fun _ i _ => m - (intOf i).toNat)
  case atStart => exact ⟨0, Nat.zero_le _, rfl, rfl, Below.refl _ _⟩
  case round =>
    obtain ⟨k, hk, rfl, rfl, hB⟩ := hrel
    have HB := Lib.hid hB
    obtain ⟨hh, hpa⟩ := HX.out wr hB
    by_cases hlt : k < m
    · obtain ⟨b, off, rfl, hbl, hel⟩ := hpa.wait.reads (by omega)
      have hkl : k < p.wait.length := by have := HM.out; omega
      obtain ⟨x, hx⟩ : ∃ x, p.wait[k]? = some x := ⟨_, List.getElem?_eq_getElem hkl⟩
      obtain ⟨d4, A2, n2, c2, d3, hr2⟩ := hel k x hx
      have HC := Lib.hid (catTo_more hx)
      have hlen := catTo_len (l := p.wait) (k + 1)
      have k0 : (0 : Int) ≤ (k : Int) := by omega
      have k1 : (k : Int) < (m : Int) := by omega
      have hbnd : (catTo p.wait k).length + n2 = (catTo p.wait (k + 1)).length := by rw [HC.out, List.length_append, hr2.len]
      have HBN := Lib.hid hbnd
      have hb2 : (catTo p.wait k).length + n2 ≤ 10000 := by omega
      obtain ⟨q, hq⟩ : ∃ q, (catTo p.wait k).length = q := ⟨_, rfl⟩
      rw [hq] at HBN hb2 ⊢
      clear hh hpa hel hr2 hbl hx hkl hq hlen hbnd hB
      go_wp2
      go_roundw
      case rel => exact ⟨k + 1, by omega, by go_num, by rw [← HBN.out]; go_num, HB.out.alloc HB.out.size _⟩
      case measure => simp [intOf]; omega
    · obtain rfl : k = m := by omega
      have hltI : ¬ (k : Int) < (k : Int) := by omega
      have HC := Lib.hid (catTo_all HM.out)
      rw [HC.out]
      clear hh hpa hB
      go_wp2
      go_ret
      exact ⟨rfl, below_box HW.out HB.out⟩
def listsZ (p : Pd) (A : Option Addr) (n c : Nat) (ss : List Sl13) (k : Nat) : List (Sl13 × List Int) := ((A, n, c), p.free) :: (List.range k).map (fun i => (ss.getD i sl0, (p.wait.getD i w00).2))
theorem listsZ_more (p : Pd) (A : Option Addr) (n c : Nat) (ss : List Sl13) (k : Nat) : listsZ p A n c ss (k + 1) = listsZ p A n c ss k ++ [(ss.getD k sl0, (p.wait.getD k w00).2)] := by
  unfold listsZ
  rw [List.range_succ, List.map_append]
  rfl
theorem listsZ_len (p : Pd) (A : Option Addr) (n c : Nat) (ss : List Sl13) (k : Nat) : (listsZ p A n c ss k).length = k + 1 := by
  unfold listsZ
  simp
theorem listsZ_flat {p : Pd} {A : Option Addr} {n c : Nat} {ss : List Sl13} : ∀ (k : Nat), k ≤ p.wait.length → flatZ (listsZ p A n c ss k) = p.free ++ catTo p.wait k
  | 0, _ => by simp [flatZ, listsZ, catTo]
  | k + 1, hk => by
    have ih := listsZ_flat (p := p) (A := A) (n := n) (c := c) (ss := ss) k (by omega)
    rw [listsZ_more, show flatZ (listsZ p A n c ss k ++ [(ss.getD k sl0, (p.wait.getD k w00).2)]) = flatZ (listsZ p A n c ss k) ++ (p.wait.getD k w00).2 by simp [flatZ], ih, List.append_assoc, catTo_more (List.getElem?_eq_getElem (show k < p.wait.length by omega)), getW_get (by omega)]
theorem intss_info13 : (Try.prog.info? 22).map (fun i => (i.zero, i.size, i.bytes)) = some (some (.slice none 0 0), 1, 24) := by kernel_rfl
theorem own_byH {w : World} {B : Nat} {v : Value} {n : Nat} {xs : List Value} (h : w.ownsRow B 22 1 v n xs) : ∃ A c, v = .slice A n c ∧ n ≤ c ∧ c ≤ maxLen := by
  rcases h.2 with ⟨rfl, rfl⟩ | ⟨g, cap, cur, rfl, _, _, h1, h2, _⟩
  · exact ⟨none, 0, rfl, Nat.le_refl _, Nat.zero_le _⟩
  · exact ⟨_, cap, rfl, h1, h2⟩
set_option maxRecDepth 100000 in
set_option maxHeartbeats 2000000 in
theorem oList13_own (p : Pd) (h : Int) (hp : PoolA w A n c B m d p) (hs : smallR p) :
    Calls Try.prog 17 #[.agg #[.int .i64 h, .slice A n c, .slice B m d]] w (OwnZ (listedP p) w) := by
  obtain ⟨W1, hW1⟩ : ∃ W1, w.alloc (.cells #[.int .i64 h, .slice A n c, .slice B m d] 25) = W1 := ⟨_, rfl⟩
  have HX := Lib.hid (BoxP.made (h := h) hp hW1)
  have HW := Lib.hid hW1
  have HM := Lib.hid hp.wait.len
  have hmm : m ≤ 1000 := by have h1 := hs.2.1; have := hp.wait.len; omega
  have hl := Lib.hid hs.1
  obtain ⟨hh0, hp0⟩ := HX.out W1 (Below.refl _ _)
  have c1 := hh0.cell 1
  have c2 := hh0.cell 2
  obtain ⟨ss, hss⟩ := hp0.wait.named
  have HSS := Lib.hid hss
  have HFR := Lib.hid hp0.free
  have hWs : w.heap.size ≤ W1.heap.size := by rw [← hW1]; simp
  have HSZ : Hid (W1.heap.size = w.heap.size + 1) := Lib.hid (by rw [← hW1]; simp)
  have HBW : Hid (Below w.heap.size w W1) := Lib.hid (hW1 ▸ (Below.refl _ w).alloc (Nat.le_refl _) _)
  have HE : Hid (∀ w1, Below W1.heap.size W1 w1 → ∀ k, k ≤ m → ∀ x ∈ listsZ p A n c ss k, RowZ w1 x.1.1 x.1.2.1 x.1.2.2 x.2) := Lib.hid (fun w1 b1 k hk x hx => by
    unfold listsZ at hx
    rcases List.mem_cons.1 hx with rfl | hx
    · exact HFR.out.below b1
    · obtain ⟨i, hi, rfl⟩ := List.mem_map.1 hx
      exact (HSS.out.each i (Nat.lt_of_lt_of_le (List.mem_range.1 hi) hk)).below b1)
  have HFL : Hid (flatZ (listsZ p A n c ss m) = p.free ++ catZ p.wait) := Lib.hid (by rw [listsZ_flat m (Nat.le_of_eq HM.out), catTo_all HM.out])
  obtain ⟨i0, hi, hz0, hz1, hz2⟩ := info_parts intss_info13
  clear hp hW1 hs hh0 hp0 hss
  go_enter Try.func17, Try.ntmps17
  go_wp2
  try rw [HW.out]
  try go_wp2
  have HST : Hid ((W1.alloc (.cells #[.slice A n c] 22)).ownsRow W1.heap.size 22 1 (.slice (some ⟨w.heap.size + 1, 0, none⟩) 1 1) (0 + 1) ((listsZ p A n c ss 0).map hdrZ)) := Lib.hid ⟨rfl, Or.inr ⟨w.heap.size + 1, 1, #[.slice A n c], rfl, Nat.le_of_eq HSZ.out, by rw [← HSZ.out]; exact heap_alloc_new _ _, Nat.le_refl _, by decide, rfl, rfl⟩⟩
  go_loopw [3, 12] (fun v i wr => ∃ k : Nat, k ≤ m ∧ i = .int .i64 (k : Int) ∧ wr.ownsRow W1.heap.size 22 1 v (k + 1) ((listsZ p A n c ss k).map hdrZ) ∧ Below W1.heap.size W1 wr) (fun _ i _ => m - (intOf i).toNat)
  case atStart => exact ⟨0, Nat.zero_le _, rfl, HST.out, (Below.refl _ _).alloc (Nat.le_refl _) _⟩
  case round =>
    obtain ⟨k, hk, rfl, ho, hB⟩ := hrel
    obtain ⟨A7, c7, rfl, hc71, hc72⟩ := own_byH ho
    have HO := Lib.hid ho
    have HB := Lib.hid hB
    by_cases hlt : k < m
    · obtain ⟨b, off, rfl, hbl, hel⟩ := HSS.out.reads (by omega)
      obtain ⟨d1, d2⟩ := hel k hlt
      have d3 : wr.cell? ⟨b, off + k * 2, none⟩ = some (.int .u64 ((p.wait.getD k w00).1 : Int)) := (hB.cell (p := ⟨b, off + k * 2, none⟩) hbl).trans d1
      have d4 : wr.cell? ⟨b, off + k * 2 + 1, none⟩ = some (.slice (ss.getD k sl0).1 (ss.getD k sl0).2.1 (ss.getD k sl0).2.2) := (hB.cell (p := ⟨b, off + k * 2 + 1, none⟩) hbl).trans d2
      have k0 : (0 : Int) ≤ (k : Int) := by omega
      have k1 : (k : Int) < (m : Int) := by omega
      have HMO := Lib.hid (listsZ_more p A n c ss k)
      have hBs := HB.out.size
      obtain ⟨wb, hwb⟩ : ∃ x, wr.alloc (.cells #[.int .u64 ((p.wait.getD k w00).1 : Int), .slice (ss.getD k sl0).1 (ss.getD k sl0).2.1 (ss.getD k sl0).2.2] 56) = x := ⟨_, rfl⟩
      have OB : Hid (wb.ownsRow W1.heap.size 22 1 (.slice A7 (k + 1) c7) (k + 1) ((listsZ p A n c ss k).map hdrZ)) := Lib.hid (hwb ▸ HO.out.alloc _)
      have BB : Hid (Below W1.heap.size W1 wb) := Lib.hid (hwb ▸ HB.out.alloc HB.out.size _)
      have hbs : w.heap.size ≤ wb.heap.size := Nat.le_trans hWs BB.out.size
      have hbx : wb.heap.size = wr.heap.size + 1 := by rw [← hwb]; simp
      have HWBS := Lib.hid hbx
      have HWB := Lib.hid hwb
      obtain ⟨t, ht⟩ : ∃ t, (p.wait.getD k w00).1 = t := ⟨_, rfl⟩
      obtain ⟨s, hs⟩ : ∃ s, ss.getD k sl0 = s := ⟨_, rfl⟩
      rw [ht] at d3 HWB
      rw [hs] at d4 HWB HMO
      obtain ⟨A2, n2, c2⟩ := s
      simp only at d4 HWB
      clear hel d1 d2 hbl hB ho hwb ht hs hbx hBs
      go_wp2_with (at_builtin; (rw [HWB.out]; refine wpList_append_own _ rfl _ _ 60 rfl W1.heap.size 22 i0 (.slice none 0 0) 1 24 Try.underlying60 hi hz0 hz1 hz2 rfl (by decide) _ (k + 1) _ rfl (OB.out.alloc _) ⟨wr.heap.size + 1, 0, none⟩ 1 1 [.slice A2 n2 c2] rfl rfl (by rw [← HWBS.out]; exact lies_one13 _ _ _) (by simp [Value.oneCell']) (by unfold maxLen; omega) (by omega) (Nat.le_trans BB.out.size (by simp)) ?_; intro v4 w4 h7 h8 hnil; have O4 := Lib.hid h7; have B4 := Lib.hid (below_own (BB.out.alloc BB.out.size _) h8 (OB.out.alloc _) (Nat.le_trans BB.out.size (by simp))); clear h7 h8 hnil))
      go_roundw
      case rel => exact ⟨k + 1, by omega, by go_num, by rw [HMO.out, List.map_append]; exact O4.out, B4.out⟩
      case measure => simp [intOf]; omega
    · obtain rfl : k = m := by omega
      have hltI : ¬ (k : Int) < (k : Int) := by omega
      have HRS : Hid (RowsZ wr A7 (k + 1) c7 (listsZ p A n c ss k)) := Lib.hid ⟨(listsZ_len p A n c ss k).symm, (Row.of_own ho).reads, HE.out wr hB k (Nat.le_refl _)⟩
      have HSO := Lib.hid (sorted13_any A7 (k + 1) c7 (listsZ p A n c ss k) wr HRS.out (by rw [HFL.out, List.length_append]; have := hl.out; omega) (by omega))
      rw [HFL.out] at HSO
      clear ho hB
      go_wp2_with (go_at_call 25; (with_reducible refine HSO.out.mono ?_); rintro e w5 ⟨A5, c5, rfl, h5, b5⟩; have R5 := Lib.hid h5; have B5 := Lib.hid b5; clear h5 b5)
      go_ret
      exact ⟨A5, c5, rfl, R5.out.mono (Nat.le_trans hWs HB.out.size), below_step (below_step HBW.out HB.out) B5.out⟩
set_option maxRecDepth 100000 in
set_option maxHeartbeats 2000000 in
theorem oRoom13_any (p : Pd) (h q : Int) (hhi : p.hi = h) (hp : PoolA w A n c B m d p) (hs : smallR p) (hq : -1099511627776 ≤ q ∧ q ≤ 1099511627776) :
    Calls Try.prog 12 #[.agg #[.int .i64 h, .slice A n c, .slice B m d], .int .i64 q] w fun e w' => e = .returned (.int .i64 (roomP p q)) ∧ Below w.heap.size w w' := by
  obtain ⟨W1, hW1⟩ : ∃ W1, w.alloc (.cells #[.int .i64 h, .slice A n c, .slice B m d] 25) = W1 := ⟨_, rfl⟩
  have HX := Lib.hid (BoxP.made (h := h) hp hW1)
  have HW := Lib.hid hW1
  have HF := Lib.hid hp.free.len
  have hn : n ≤ 10000 := by have h1 := hs.1; have := hp.free.len; omega
  have h3 : h < 2097152 ∧ -4096 < h := by rw [← hhi]; exact hs.2.2
  obtain ⟨hh0, _⟩ := HX.out W1 (Below.refl _ _)
  have c0 := hh0.cell 0
  have c1 := hh0.cell 1
  have HBW : Hid (Below w.heap.size w W1) := Lib.hid (hW1 ▸ (Below.refl _ w).alloc (Nat.le_refl _) _)
  have HR : Hid (roomP p q = (n : Int) + if h < q then q - h else 0) := Lib.hid (by unfold roomP; rw [← HF.out, hhi])
  clear hp hW1 hs hh0
  by_cases hgt : q < h
  · rw [if_neg (by omega)] at HR
    go_enter Try.func12, Try.ntmps12
    go_wp2
    try rw [HW.out]
    try go_wp2
    go_ret
    rw [HR.out, Int.add_zero]
    exact ⟨rfl, HW.out ▸ HBW.out⟩
  · have hd : (if h < q then q - h else 0) = q - h := by split <;> omega
    rw [hd] at HR
    obtain ⟨D, hD⟩ : ∃ D, q - h = D := ⟨_, rfl⟩
    have hw1 : IntKind.u64.wrap (IntKind.u64.wrap q - IntKind.u64.wrap h) = D := by
      rw [IntKind.wrap_u64, IntKind.wrap_u64, IntKind.wrap_u64]
      omega
    rw [hD] at HR
    have HD := Lib.hid hD
    have D0 : 0 ≤ D := by omega
    have D1 : D ≤ 2199023255552 := by omega
    clear hD hd
    go_enter Try.func12, Try.ntmps12
    go_wp2
    try rw [HW.out]
    try go_wp2
    go_ret
    rw [HR.out, show min D (9223372036854775807 - (n : Int)) = D by omega]
    exact ⟨rfl, HBW.out⟩
end
end Go.Proofs.Ytoelojlabmconaa
