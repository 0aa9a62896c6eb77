import Derived.Test.YtogcbmhcddcfkaaGreatDoorJCoa
/- Of a claim's texts, joined: CoShows. No statement but in the last. -/
namespace Go.Proofs.YtogcbmhcddcfkaaGreatDoor
open Go.RowKit
set_option linter.unusedVariables false

set_option maxRecDepth 100000 in
set_option maxHeartbeats 2000000 in
theorem walkCoShows (c : Cf) (s : Cs) (L : List UInt8) (w : World) (ht : Base5 w) (h : ArgC w s c) :
    Calls Tryz.prog 4 #[s.v, .string ⟨L.toArray⟩] w fun e w' => e = .returned (.bool true) ∧ Below w.heap.size w w' := by
  have HT := Lib.hid ht
  have HA := Lib.hid h
  have hsz : (⟨L.toArray⟩ : ByteArray).size = L.length := size_list L
  clear ht h
  unfold Cs.v
  obtain ⟨nA, nn, nc, uA, un, uc, qA, qn, qc, gA, gn, gc⟩ := s
  simp only at HA ⊢
  obtain ⟨W, hW⟩ : ∃ W, w.alloc (.cells #[.slice nA nn nc, .slice uA un uc, .slice qA qn qc, .slice gA gn gc] 28) = W := ⟨_, rfl⟩
  have hB0 : Below w.heap.size w W := hW ▸ (Below.refl _ w).alloc (Nat.le_refl _) _
  have hx1 : Has W w.heap.size 28 #[.slice nA nn nc, .slice uA un uc, .slice qA qn qc, .slice gA gn gc] := hW ▸ Has.made w 28 _
  have HX := Lib.hid (fun W' (hb : Below W.heap.size W W') => show W'.cell? ⟨w.heap.size, 0, none⟩ = some (.slice nA nn nc) ∧ W'.cell? ⟨w.heap.size, 1, none⟩ = some (.slice uA un uc) ∧ W'.cell? ⟨w.heap.size, 2, none⟩ = some (.slice qA qn qc) ∧ W'.cell? ⟨w.heap.size, 3, none⟩ = some (.slice gA gn gc) by
    have k1 := hx1.below hb hx1.lt
    rw [k1.cell, k1.cell, k1.cell, k1.cell]
    simp)
  have HB0 := Lib.hid hB0
  have HTW := Lib.hid (HT.out.below hB0)
  clear hx1 hB0
  by_cases hbig : 12 < nn ∨ 12 < un ∨ 200 < L.length
  · by_cases h1 : 12 < nn
    · have e1 : decide (12 < (nn : Int)) = true := by simp; omega
      clear hbig
      go_enter Tryz.func4, Tryz.ntmps4
      go_wp2_with (go_at_call 9; refine (awake05_any _ HTW.out).mono ?_; rintro e w0 ⟨rfl, h0⟩; have B0 := Lib.hid (below_step HB0.out h0); obtain ⟨b0, b1, b2, b3⟩ := HX.out _ h0; clear h0)
      go_ret
      exact ⟨rfl, B0.out⟩
    · have e1 : decide (12 < (nn : Int)) = false := by simp; omega
      by_cases h2 : 12 < un
      · have e2 : decide (12 < (un : Int)) = true := by simp; omega
        clear hbig
        go_enter Tryz.func4, Tryz.ntmps4
        go_wp2_with (go_at_call 9; refine (awake05_any _ HTW.out).mono ?_; rintro e w0 ⟨rfl, h0⟩; have B0 := Lib.hid (below_step HB0.out h0); obtain ⟨b0, b1, b2, b3⟩ := HX.out _ h0; clear h0)
        go_ret
        exact ⟨rfl, B0.out⟩
      · have e2 : decide (12 < (un : Int)) = false := by simp; omega
        have e3 : decide (200 < (L.length : Int)) = true := by simp; omega
        clear hbig
        go_enter Tryz.func4, Tryz.ntmps4
        go_wp2_with (go_at_call 9; refine (awake05_any _ HTW.out).mono ?_; rintro e w0 ⟨rfl, h0⟩; have B0 := Lib.hid (below_step HB0.out h0); obtain ⟨b0, b1, b2, b3⟩ := HX.out _ h0; clear h0)
        go_ret
        exact ⟨rfl, B0.out⟩
  · have e1 : decide (12 < (nn : Int)) = false := by simp; omega
    have e2 : decide (12 < (un : Int)) = false := by simp; omega
    have e3 : decide (200 < (L.length : Int)) = false := by simp; omega
    have hn : nn ≤ 1000 := by omega
    have hu : un ≤ 1000 := by omega
    have hl : L.length ≤ 200 := by omega
    have hmx : Tryz.prog.follows .mixedOrders = true := by kernel_rfl
    clear hbig
    go_enter Tryz.func4, Tryz.ntmps4
    go_wp2_with (go_at_call 9; refine (awake05_any _ HTW.out).mono ?_; rintro e w0 ⟨rfl, h0⟩; have B00 := Lib.hid (below_step HB0.out h0); have R00 := Lib.hid h0; obtain ⟨b0, b1, b2, b3⟩ := HX.out _ h0; clear h0)
    rename_i K hK
    have B0 := Lib.hid B00.out.drew
    have R0 := Lib.hid R00.out.drew
    have hS0 : (fun w' : World => w'.cell? ⟨w.heap.size, 0, none⟩ = some (.slice nA nn nc) ∧ w'.cell? ⟨w.heap.size, 1, none⟩ = some (.slice uA un uc) ∧ w'.cell? ⟨w.heap.size, 2, none⟩ = some (.slice qA qn qc) ∧ w'.cell? ⟨w.heap.size, 3, none⟩ = some (.slice gA gn gc)) w0.drew := HX.out _ R0.out
    refine wp_held (fun w' : World => w'.cell? ⟨w.heap.size, 0, none⟩ = some (.slice nA nn nc) ∧ w'.cell? ⟨w.heap.size, 1, none⟩ = some (.slice uA un uc) ∧ w'.cell? ⟨w.heap.size, 2, none⟩ = some (.slice qA qn qc) ∧ w'.cell? ⟨w.heap.size, 3, none⟩ = some (.slice gA gn gc)) K hmx ?_ (fun _ _ h => h)
    refine wpAnyH_take (i := 0) (v := .string ⟨L.toArray⟩) rfl (by kernel_rfl) (by kernel_rfl) (by kernel_rfl) (fun _ _ _ h => h) (Or.inl ⟨by rfl, ?_⟩) hS0 ?_
    · rintro w6 ⟨b0, b1, b2, b3⟩
      go_simp
    simp only [Act.put, List.setIfInBounds_toArray, List.set_cons_zero, List.set_cons_succ, List.getElem_toArray, List.getElem_cons_zero]
    refine wpAnyH_take (i := 2) (v := .string ⟨L.toArray⟩) rfl (by kernel_rfl) (by kernel_rfl) (by kernel_rfl) (fun _ _ _ h => h) (Or.inl ⟨by rfl, ?_⟩) hS0 ?_
    · rintro w6 ⟨b0, b1, b2, b3⟩
      go_simp
    simp only [Act.put, List.setIfInBounds_toArray, List.set_cons_zero, List.set_cons_succ, List.getElem_toArray, List.getElem_cons_zero, List.getElem_cons_succ]
    refine wpAnyH_ready (rs := [1]) (by kernel_rfl) (by simp) ?_
    refine AllReadyH.cons rfl (fun K5 hK5 => ?_) AllReadyH.nil
    go_simp
    go_at_call 13
    refine (coName_any L _ (HT.out.below B0.out) (by omega)).mono ?_
    rintro e w1 ⟨rfl, h5⟩
    have B1 := Lib.hid (below_step B0.out h5)
    have R1 := Lib.hid (below_step R0.out h5)
    have hS1 : (fun w' : World => w'.cell? ⟨w.heap.size, 0, none⟩ = some (.slice nA nn nc) ∧ w'.cell? ⟨w.heap.size, 1, none⟩ = some (.slice uA un uc) ∧ w'.cell? ⟨w.heap.size, 2, none⟩ = some (.slice qA qn qc) ∧ w'.cell? ⟨w.heap.size, 3, none⟩ = some (.slice gA gn gc)) w1 := HX.out _ R1.out
    refine hK5.out _ _ hS1 (fun _ => ?_)
    clear hK5 K5
    refine wpAnyH_ready (rs := [3]) (by kernel_rfl) (by simp) ?_
    refine AllReadyH.cons rfl (fun K5 hK5 => ?_) AllReadyH.nil
    go_simp
    go_at_call 14
    refine (r5Name_any L _ (by omega)).mono ?_
    rintro e w2 ⟨rfl, h5⟩
    have B2 := Lib.hid (below_step B1.out h5)
    have R2 := Lib.hid (below_step R1.out h5)
    have hS2 : (fun w' : World => w'.cell? ⟨w.heap.size, 0, none⟩ = some (.slice nA nn nc) ∧ w'.cell? ⟨w.heap.size, 1, none⟩ = some (.slice uA un uc) ∧ w'.cell? ⟨w.heap.size, 2, none⟩ = some (.slice qA qn qc) ∧ w'.cell? ⟨w.heap.size, 3, none⟩ = some (.slice gA gn gc)) w2 := HX.out _ R2.out
    refine hK5.out _ _ hS2 (fun _ => ?_)
    clear hK5 K5
    refine wpAnyH_take (i := 4) (v := .bool true) rfl (by kernel_rfl) (by kernel_rfl) (by kernel_rfl) (fun _ _ _ h => h) (Or.inl ⟨by rfl, ?_⟩) hS2 ?_
    · rintro w6 ⟨b0, b1, b2, b3⟩
      go_simp
    simp only [Act.put, List.setIfInBounds_toArray, List.set_cons_zero, List.set_cons_succ, List.getElem_toArray, List.getElem_cons_zero, List.getElem_cons_succ]
    refine wpAnyH_take (i := 5) (v := .bool true) rfl (by kernel_rfl) (by kernel_rfl) (by kernel_rfl) (fun _ _ _ h => h) (Or.inl ⟨by rfl, ?_⟩) hS2 ?_
    · rintro w6 ⟨b0, b1, b2, b3⟩
      go_simp
    simp only [Act.put, List.setIfInBounds_toArray, List.set_cons_zero, List.set_cons_succ, List.getElem_toArray, List.getElem_cons_zero, List.getElem_cons_succ]
    refine wpAnyH_take (i := 6) (v := .agg #[.slice nA nn nc, .slice uA un uc, .slice qA qn qc, .slice gA gn gc]) rfl (by kernel_rfl) (by kernel_rfl) (by kernel_rfl) (fun _ _ _ h => h) (Or.inl ⟨by rfl, ?_⟩) hS2 ?_
    · rintro w6 ⟨b0, b1, b2, b3⟩
      go_simp
    simp only [Act.put, List.setIfInBounds_toArray, List.set_cons_zero, List.set_cons_succ, List.getElem_toArray, List.getElem_cons_zero, List.getElem_cons_succ]
    refine wpAnyH_take (i := 8) (v := .agg #[.slice nA nn nc, .slice uA un uc, .slice qA qn qc, .slice gA gn gc]) rfl (by kernel_rfl) (by kernel_rfl) (by kernel_rfl) (fun _ _ _ h => h) (Or.inl ⟨by rfl, ?_⟩) hS2 ?_
    · rintro w6 ⟨b0, b1, b2, b3⟩
      go_simp
    simp only [Act.put, List.setIfInBounds_toArray, List.set_cons_zero, List.set_cons_succ, List.getElem_toArray, List.getElem_cons_zero, List.getElem_cons_succ]
    refine wpAnyH_ready (rs := [7]) (by kernel_rfl) (by simp) ?_
    refine AllReadyH.cons rfl (fun K5 hK5 => ?_) AllReadyH.nil
    go_simp
    go_at_call 15
    refine (coCheck_any c ⟨nA, nn, nc, uA, un, uc, qA, qn, qc, gA, gn, gc⟩ _ (HT.out.below B2.out) (HA.out.below B2.out) hn (Nat.le_trans hu (by decide))).mono ?_
    rintro e w3 ⟨rfl, h5⟩
    have B3 := Lib.hid (below_step B2.out h5)
    have R3 := Lib.hid (below_step R2.out h5)
    have hS3 : (fun w' : World => w'.cell? ⟨w.heap.size, 0, none⟩ = some (.slice nA nn nc) ∧ w'.cell? ⟨w.heap.size, 1, none⟩ = some (.slice uA un uc) ∧ w'.cell? ⟨w.heap.size, 2, none⟩ = some (.slice qA qn qc) ∧ w'.cell? ⟨w.heap.size, 3, none⟩ = some (.slice gA gn gc)) w3 := HX.out _ R3.out
    refine hK5.out _ _ hS3 (fun _ => ?_)
    clear hK5 K5
    refine wpAnyH_ready (rs := [9]) (by kernel_rfl) (by simp) ?_
    refine AllReadyH.cons rfl (fun K5 hK5 => ?_) AllReadyH.nil
    go_simp
    go_at_call 16
    refine (r5Check_any c ⟨nA, nn, nc, uA, un, uc, qA, qn, qc, gA, gn, gc⟩ _ (HA.out.below B3.out) (Nat.le_trans hn (by omega)) (Nat.le_trans hu (by omega))).mono ?_
    rintro e w4 ⟨rfl, h5⟩
    have B4 := Lib.hid (below_step B3.out h5)
    have R4 := Lib.hid (below_step R3.out h5)
    have hS4 : (fun w' : World => w'.cell? ⟨w.heap.size, 0, none⟩ = some (.slice nA nn nc) ∧ w'.cell? ⟨w.heap.size, 1, none⟩ = some (.slice uA un uc) ∧ w'.cell? ⟨w.heap.size, 2, none⟩ = some (.slice qA qn qc) ∧ w'.cell? ⟨w.heap.size, 3, none⟩ = some (.slice gA gn gc)) w4 := HX.out _ R4.out
    refine hK5.out _ _ hS4 (fun _ => ?_)
    clear hK5 K5
    refine wpAnyH_take (i := 10) (v := .bool true) rfl (by kernel_rfl) (by kernel_rfl) (by kernel_rfl) (fun _ _ _ h => h) (Or.inl ⟨by rfl, ?_⟩) hS4 ?_
    · rintro w6 ⟨b0, b1, b2, b3⟩
      go_simp
    simp only [Act.put, List.setIfInBounds_toArray, List.set_cons_zero, List.set_cons_succ, List.getElem_toArray, List.getElem_cons_zero, List.getElem_cons_succ]
    refine wpAnyH_take (i := 11) (v := .bool true) rfl (by kernel_rfl) (by kernel_rfl) (by kernel_rfl) (fun _ _ _ h => h) (Or.inl ⟨by rfl, ?_⟩) hS4 ?_
    · rintro w6 ⟨b0, b1, b2, b3⟩
      go_simp
    simp only [Act.put, List.setIfInBounds_toArray, List.set_cons_zero, List.set_cons_succ, List.getElem_toArray, List.getElem_cons_zero, List.getElem_cons_succ]
    refine wpAnyH_take (i := 12) (v := .bool true) rfl (by kernel_rfl) (by kernel_rfl) (by kernel_rfl) (fun _ _ _ h => h) (Or.inl ⟨by rfl, ?_⟩) hS4 ?_
    · rintro w6 ⟨b0, b1, b2, b3⟩
      go_simp
    simp only [Act.put, List.setIfInBounds_toArray, List.set_cons_zero, List.set_cons_succ, List.getElem_toArray, List.getElem_cons_zero, List.getElem_cons_succ]
    refine wpAnyH_take (i := 13) (v := .agg #[.slice nA nn nc, .slice uA un uc, .slice qA qn qc, .slice gA gn gc]) rfl (by kernel_rfl) (by kernel_rfl) (by kernel_rfl) (fun _ _ _ h => h) (Or.inl ⟨by rfl, ?_⟩) hS4 ?_
    · rintro w6 ⟨b0, b1, b2, b3⟩
      go_simp
    simp only [Act.put, List.setIfInBounds_toArray, List.set_cons_zero, List.set_cons_succ, List.getElem_toArray, List.getElem_cons_zero, List.getElem_cons_succ]
    refine wpAnyH_take (i := 15) (v := .agg #[.slice nA nn nc, .slice uA un uc, .slice qA qn qc, .slice gA gn gc]) rfl (by kernel_rfl) (by kernel_rfl) (by kernel_rfl) (fun _ _ _ h => h) (Or.inl ⟨by rfl, ?_⟩) hS4 ?_
    · rintro w6 ⟨b0, b1, b2, b3⟩
      go_simp
    simp only [Act.put, List.setIfInBounds_toArray, List.set_cons_zero, List.set_cons_succ, List.getElem_toArray, List.getElem_cons_zero, List.getElem_cons_succ]
    refine wpAnyH_ready (rs := [14]) (by kernel_rfl) (by simp) ?_
    refine AllReadyH.cons rfl (fun K5 hK5 => ?_) AllReadyH.nil
    go_simp
    go_at_call 17
    refine (coShow_any c ⟨nA, nn, nc, uA, un, uc, qA, qn, qc, gA, gn, gc⟩ _ (HT.out.below B4.out) (HA.out.below B4.out) hn hu).mono ?_
    rintro e w5 ⟨rfl, h5⟩
    have B5 := Lib.hid (below_step B4.out h5)
    have R5 := Lib.hid (below_step R4.out h5)
    have hS5 : (fun w' : World => w'.cell? ⟨w.heap.size, 0, none⟩ = some (.slice nA nn nc) ∧ w'.cell? ⟨w.heap.size, 1, none⟩ = some (.slice uA un uc) ∧ w'.cell? ⟨w.heap.size, 2, none⟩ = some (.slice qA qn qc) ∧ w'.cell? ⟨w.heap.size, 3, none⟩ = some (.slice gA gn gc)) w5 := HX.out _ R5.out
    refine hK5.out _ _ hS5 (fun _ => ?_)
    clear hK5 K5
    refine wpAnyH_ready (rs := [16]) (by kernel_rfl) (by simp) ?_
    refine AllReadyH.cons rfl (fun K5 hK5 => ?_) AllReadyH.nil
    go_simp
    go_at_call 18
    refine (r5Show_any c ⟨nA, nn, nc, uA, un, uc, qA, qn, qc, gA, gn, gc⟩ _ (HA.out.below B5.out) (Nat.le_trans hn (by omega)) (Nat.le_trans hu (by omega))).mono ?_
    rintro e w6 ⟨rfl, h5⟩
    have B6 := Lib.hid (below_step B5.out h5)
    have R6 := Lib.hid (below_step R5.out h5)
    have hS6 : (fun w' : World => w'.cell? ⟨w.heap.size, 0, none⟩ = some (.slice nA nn nc) ∧ w'.cell? ⟨w.heap.size, 1, none⟩ = some (.slice uA un uc) ∧ w'.cell? ⟨w.heap.size, 2, none⟩ = some (.slice qA qn qc) ∧ w'.cell? ⟨w.heap.size, 3, none⟩ = some (.slice gA gn gc)) w6 := HX.out _ R6.out
    refine hK5.out _ _ hS6 (fun _ => ?_)
    clear hK5 K5
    refine wpAnyH_take (i := 17) (v := .bool true) rfl (by kernel_rfl) (by kernel_rfl) (by kernel_rfl) (fun _ _ _ h => h) (Or.inl ⟨by rfl, ?_⟩) hS6 ?_
    · rintro w6 ⟨b0, b1, b2, b3⟩
      go_simp
    simp only [Act.put, List.setIfInBounds_toArray, List.set_cons_zero, List.set_cons_succ, List.getElem_toArray, List.getElem_cons_zero, List.getElem_cons_succ]
    refine wpAnyH_take (i := 18) (v := .bool true) rfl (by kernel_rfl) (by kernel_rfl) (by kernel_rfl) (fun _ _ _ h => h) (Or.inl ⟨by rfl, ?_⟩) hS6 ?_
    · rintro w6 ⟨b0, b1, b2, b3⟩
      go_simp
    simp only [Act.put, List.setIfInBounds_toArray, List.set_cons_zero, List.set_cons_succ, List.getElem_toArray, List.getElem_cons_zero, List.getElem_cons_succ]
    refine wpAnyH_take (i := 19) (v := .bool true) rfl (by kernel_rfl) (by kernel_rfl) (by kernel_rfl) (fun _ _ _ h => h) (Or.inl ⟨by rfl, ?_⟩) hS6 ?_
    · rintro w6 ⟨b0, b1, b2, b3⟩
      go_simp
    simp only [Act.put, List.setIfInBounds_toArray, List.set_cons_zero, List.set_cons_succ, List.getElem_toArray, List.getElem_cons_zero, List.getElem_cons_succ]
    refine wpAnyH_done (by kernel_rfl) ?_ _
    refine hK _ _ ?_
    go_wp2
    go_ret
    exact ⟨rfl, B6.out⟩

end Go.Proofs.YtogcbmhcddcfkaaGreatDoor
