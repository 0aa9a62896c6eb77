import Derived.Test.YtnponjdnjkegmaaDoorJ07
import Derived.Test.YtnponjdnjkegmaaDoorJ08
/- Of a claim's texts, joined: Nej. No statement but in the last. -/
namespace Go.Proofs.YtnponjdnjkegmaaDoor
open Go.RowKit
set_option linter.unusedVariables false

def FewN (l : List En) : Prop := l.length ≤ 1000 ∧ ∀ e ∈ l, e.k.length ≤ 3000 ∧ e.d.length ≤ 300
theorem few_of {leaf : Bool} {l : List En} {q : List Hd} (h : FewN l) (hq : lq q = cellsE leaf l) : Few q := by
  have h1 := congrArg List.length hq
  rw [lq_len, cellsE, List.length_map] at h1
  refine ⟨by have := h.1; omega, fun x hx => ?_⟩
  have hm : x.l ∈ cellsE leaf l := by rw [← hq]; exact List.mem_map_of_mem hx
  obtain ⟨e, he, h2⟩ := List.mem_map.1 hm
  rw [← h2]
  have := cellE_few leaf e (h.2 e he).2
  omega
theorem FewN.wide {l : List En} (h : FewN l) : ∀ e ∈ l, e.k.length ≤ 3000 ∧ e.d.length ≤ 3000 := fun e he => by have := h.2 e he; omega
theorem check_no {leaf : Bool} {l : List En} (h : ¬ shapeN leaf l) : decide (checkN leaf l) = false := decide_eq_false (fun hh => h hh.1)
theorem check_is {leaf : Bool} {l : List En} (h : shapeN leaf l) : decide (checkN leaf l) = decide ((cSz (cellsE leaf l) : Int) ≤ 122) := by
  by_cases h2 : cSz (cellsE leaf l) ≤ 122
  · rw [decide_eq_true (show checkN leaf l from ⟨h, h2⟩), decide_eq_true (by omega)]
  · rw [decide_eq_false (fun hh : checkN leaf l => h2 hh.2), decide_eq_false (by omega)]

set_option maxRecDepth 100000 in
set_option maxHeartbeats 8000000 in
theorem nCheck_true (A : Option Addr) (n c : Nat) (l : List En) (w : World) (h : NodA w A n c l) (hf : FewN l) :
    Calls Tryd.prog 17 #[.agg #[.bool true, .slice A n c]] w fun e w' => e = .returned (.bool (decide (checkN true l))) ∧ Below w.heap.size w w' := by
  have hmx : Tryd.prog.follows .mixedOrders = true := by kernel_rfl
  have hn : n ≤ 1000 := by rw [h.len]; exact hf.1
  have HA := Lib.hid h
  have HF := Lib.hid hf

  have HSH : Hid (∀ w, Calls Tryd.prog 24 #[.agg #[.bool true, .slice A n c]] w fun e w' => e = .returned (.iface 89 (.agg #[])) ∧ Below w.heap.size w w') := Lib.hid (fun w => nShapeOf_any true A n c w)
  have HCK := Lib.hid (fun w1 (hb : Below w.heap.size w w1) => nlCheck_any A n c l w1 (h.below hb) (by omega))
  have HCE := Lib.hid (fun w1 (hb : Below w.heap.size w w1) => nCells_true A n c l w1 (h.below hb) (by omega) hf.wide)

  by_cases hs : shapeN true l
  · have HD := Lib.hid (check_is hs)
    have hs1 : decide (shapeN true l) = true := decide_eq_true hs
    rw [hs1] at HCK
    rw [HD.out]
    clear h hf hs hs1 HD
    obtain ⟨W, hW⟩ : ∃ W, w.alloc (.cells #[.bool true, .slice A n c] 24) = W := ⟨_, rfl⟩
    have BW : Below w.heap.size w W := hW ▸ (Below.refl _ w).alloc (Nat.le_refl _) _
    have HX := Lib.hid (show Has W w.heap.size 24 #[.bool true, .slice A n c] from hW ▸ Has.made w _ _)
    have hX0 : Has W.drew w.heap.size 24 #[.bool true, .slice A n c] := HX.out
    have BD : Below w.heap.size w W.drew := BW.drew
    go_enter Tryd.func17, Tryd.ntmps17
    go_wp2
    try rw [hW]
    rename_i K hK
    refine wp_held (fun w' => Has w' w.heap.size 24 #[.bool true, .slice A n c]) K hmx ?_ (fun _ _ h => h)
    refine wpAnyH_take (i := 0) (v := .agg #[.bool true, .slice A n c]) rfl (by kernel_rfl) (by kernel_rfl) (by kernel_rfl) (fun _ _ _ h => h) (Or.inl ⟨by rfl, ?_⟩) hX0 ?_
    · intro w6 s1
      have d0 := s1.cell 0
      have d1 := s1.cell 1
      go_simp
    simp only [Act.put, List.setIfInBounds_toArray, List.set_cons_zero, List.set_cons_succ, List.getElem_toArray, List.getElem_cons_zero]
    refine wpAnyH_take (i := 2) (v := .pointer (some ⟨w.heap.size, 1, none⟩)) rfl (by kernel_rfl) (by kernel_rfl) (by kernel_rfl) (fun _ _ _ h => h) (Or.inl ⟨by rfl, ?_⟩) hX0 ?_
    · intro w6 s1
      go_simp
    simp only [Act.put, List.setIfInBounds_toArray, List.set_cons_zero, List.set_cons_succ, List.getElem_toArray, List.getElem_cons_zero, List.getElem_cons_succ]
    refine wpAnyH_take (i := 3) (v := .slice A n c) rfl (by kernel_rfl) (by kernel_rfl) (by kernel_rfl) (fun _ _ _ h => h) (Or.inl ⟨by rfl, ?_⟩) hX0 ?_
    · intro w6 s1
      have d0 := s1.cell 1
      go_simp
    simp only [Act.put, List.setIfInBounds_toArray, List.set_cons_zero, List.set_cons_succ, List.getElem_toArray, List.getElem_cons_zero, List.getElem_cons_succ]
    refine wpAnyH_ready (rs := [1]) (by kernel_rfl) (by simp) ?_
    refine AllReadyH.cons rfl (fun K5 hK5 => ?_) AllReadyH.nil
    go_simp
    go_at_call 24
    (with_reducible refine (HSH.out _).mono ?_)
    rintro e1 w1 ⟨rfl, b1⟩
    have X1 := hX0.below b1 hX0.lt
    have B1 := below_step BD b1
    clear b1
    refine hK5.out _ _ X1 (fun _ => ?_)
    clear hK5 K5
    refine wpAnyH_ready (rs := [4]) (by kernel_rfl) (by simp) ?_
    refine AllReadyH.cons rfl (fun K5 hK5 => ?_) AllReadyH.nil
    go_simp
    go_invoke
    go_simp
    go_at_call 83
    (with_reducible refine (HCK.out _ B1).mono ?_)
    rintro e2 w2 ⟨rfl, b2⟩
    have X2 := X1.below b2 X1.lt
    have B2 := below_step B1 b2
    clear b2
    refine hK5.out _ _ X2 (fun _ => ?_)
    clear hK5 K5
    refine wpAnyH_take (i := 5) (v := .bool true) rfl (by kernel_rfl) (by kernel_rfl) (by kernel_rfl) (fun _ _ _ h => h) (Or.inl ⟨by rfl, ?_⟩) X2 ?_
    · intro w6 s1
      go_simp
    simp only [Act.put, List.setIfInBounds_toArray, List.set_cons_zero, List.set_cons_succ, List.getElem_toArray, List.getElem_cons_zero, List.getElem_cons_succ]
    refine wpAnyH_take (i := 6) (v := .agg #[.bool true, .slice A n c]) rfl (by kernel_rfl) (by kernel_rfl) (by kernel_rfl) (fun _ _ _ h => h) (Or.inl ⟨by rfl, ?_⟩) X2 ?_
    · intro w6 s1
      have d0 := s1.cell 0
      have d1 := s1.cell 1
      go_simp
    simp only [Act.put, List.setIfInBounds_toArray, List.set_cons_zero, List.set_cons_succ, List.getElem_toArray, List.getElem_cons_zero, List.getElem_cons_succ]
    refine wpAnyH_ready (rs := [7]) (by kernel_rfl) (by simp) ?_
    refine AllReadyH.cons rfl (fun K5 hK5 => ?_) AllReadyH.nil
    go_simp
    go_at_call 15
    (with_reducible refine (HCE.out _ B2).mono ?_)
    rintro e3 w3 ⟨A3, n3, c3, q3, rfl, k3, l3, b3⟩
    have X3 := X2.below b3 X2.lt
    have B3 := below_step B2 b3
    clear b3
    have HSZ := ceSize_any A3 n3 c3 q3 w3 k3 (few_of HF.out l3)
    rw [l3] at HSZ
    refine hK5.out _ _ X3 (fun _ => ?_)
    clear hK5 K5
    refine wpAnyH_ready (rs := [8]) (by kernel_rfl) (by simp) ?_
    refine AllReadyH.cons rfl (fun K5 hK5 => ?_) AllReadyH.nil
    go_simp
    go_at_call 29
    (with_reducible refine HSZ.mono ?_)
    rintro e4 w4 ⟨rfl, rfl⟩
    refine hK5.out _ _ X3 (fun _ => ?_)
    clear hK5 K5
    refine wpAnyH_ready (rs := [9]) (by kernel_rfl) (by simp) ?_
    refine AllReadyH.cons rfl (fun K5 hK5 => ?_) AllReadyH.nil
    go_simp
    refine hK5.out _ _ X3 (fun _ => ?_)
    clear hK5 K5
    refine wpAnyH_ready (rs := [10]) (by kernel_rfl) (by simp) ?_
    refine AllReadyH.cons rfl (fun K5 hK5 => ?_) AllReadyH.nil
    go_simp
    refine hK5.out _ _ X3 (fun _ => ?_)
    clear hK5 K5
    refine wpAnyH_ready (rs := [11]) (by kernel_rfl) (by simp) ?_
    refine AllReadyH.cons rfl (fun K5 hK5 => ?_) AllReadyH.nil
    go_simp
    refine hK5.out _ _ X3 (fun _ => ?_)
    clear hK5 K5
    refine wpAnyH_done (by kernel_rfl) ?_ _
    refine hK _ _ ?_
    have B3 := Lib.hid B3
    clear X1 X2 X3 B1 B2
    go_wp2
    go_ret
    exact ⟨by simp, B3.out⟩
  · have HD := Lib.hid (check_no hs)
    have hs1 : decide (shapeN true l) = false := decide_eq_false hs
    rw [hs1] at HCK
    rw [HD.out]
    clear h hf hs hs1 HD
    obtain ⟨W, hW⟩ : ∃ W, w.alloc (.cells #[.bool true, .slice A n c] 24) = W := ⟨_, rfl⟩
    have BW : Below w.heap.size w W := hW ▸ (Below.refl _ w).alloc (Nat.le_refl _) _
    have HX := Lib.hid (show Has W w.heap.size 24 #[.bool true, .slice A n c] from hW ▸ Has.made w _ _)
    have hX0 : Has W.drew w.heap.size 24 #[.bool true, .slice A n c] := HX.out
    have BD : Below w.heap.size w W.drew := BW.drew
    go_enter Tryd.func17, Tryd.ntmps17
    go_wp2
    try rw [hW]
    rename_i K hK
    refine wp_held (fun w' => Has w' w.heap.size 24 #[.bool true, .slice A n c]) K hmx ?_ (fun _ _ h => h)
    refine wpAnyH_take (i := 0) (v := .agg #[.bool true, .slice A n c]) rfl (by kernel_rfl) (by kernel_rfl) (by kernel_rfl) (fun _ _ _ h => h) (Or.inl ⟨by rfl, ?_⟩) hX0 ?_
    · intro w6 s1
      have d0 := s1.cell 0
      have d1 := s1.cell 1
      go_simp
    simp only [Act.put, List.setIfInBounds_toArray, List.set_cons_zero, List.set_cons_succ, List.getElem_toArray, List.getElem_cons_zero]
    refine wpAnyH_take (i := 2) (v := .pointer (some ⟨w.heap.size, 1, none⟩)) rfl (by kernel_rfl) (by kernel_rfl) (by kernel_rfl) (fun _ _ _ h => h) (Or.inl ⟨by rfl, ?_⟩) hX0 ?_
    · intro w6 s1
      go_simp
    simp only [Act.put, List.setIfInBounds_toArray, List.set_cons_zero, List.set_cons_succ, List.getElem_toArray, List.getElem_cons_zero, List.getElem_cons_succ]
    refine wpAnyH_take (i := 3) (v := .slice A n c) rfl (by kernel_rfl) (by kernel_rfl) (by kernel_rfl) (fun _ _ _ h => h) (Or.inl ⟨by rfl, ?_⟩) hX0 ?_
    · intro w6 s1
      have d0 := s1.cell 1
      go_simp
    simp only [Act.put, List.setIfInBounds_toArray, List.set_cons_zero, List.set_cons_succ, List.getElem_toArray, List.getElem_cons_zero, List.getElem_cons_succ]
    refine wpAnyH_ready (rs := [1]) (by kernel_rfl) (by simp) ?_
    refine AllReadyH.cons rfl (fun K5 hK5 => ?_) AllReadyH.nil
    go_simp
    go_at_call 24
    (with_reducible refine (HSH.out _).mono ?_)
    rintro e1 w1 ⟨rfl, b1⟩
    have X1 := hX0.below b1 hX0.lt
    have B1 := below_step BD b1
    clear b1
    refine hK5.out _ _ X1 (fun _ => ?_)
    clear hK5 K5
    refine wpAnyH_ready (rs := [4]) (by kernel_rfl) (by simp) ?_
    refine AllReadyH.cons rfl (fun K5 hK5 => ?_) AllReadyH.nil
    go_simp
    go_invoke
    go_simp
    go_at_call 83
    (with_reducible refine (HCK.out _ B1).mono ?_)
    rintro e2 w2 ⟨rfl, b2⟩
    have X2 := X1.below b2 X1.lt
    have B2 := below_step B1 b2
    clear b2
    refine hK5.out _ _ X2 (fun _ => ?_)
    clear hK5 K5
    refine wpAnyH_take (i := 5) (v := .bool false) rfl (by kernel_rfl) (by kernel_rfl) (by kernel_rfl) (fun _ _ _ h => h) (Or.inl ⟨by rfl, ?_⟩) X2 ?_
    · intro w6 s1
      go_simp
    simp only [Act.put, List.setIfInBounds_toArray, List.set_cons_zero, List.set_cons_succ, List.getElem_toArray, List.getElem_cons_zero, List.getElem_cons_succ]
    refine wpAnyH_take (i := 6) (v := undef) rfl (by kernel_rfl) (by kernel_rfl) (by kernel_rfl) (fun _ _ _ h => h) (Or.inr ⟨by rfl, rfl⟩) X2 ?_
    simp only [Act.put, List.setIfInBounds_toArray, List.set_cons_zero, List.set_cons_succ, List.getElem_toArray, List.getElem_cons_zero, List.getElem_cons_succ]
    refine wpAnyH_take (i := 7) (v := undef) rfl (by kernel_rfl) (by kernel_rfl) (by kernel_rfl) (fun _ _ _ h => h) (Or.inr ⟨by rfl, rfl⟩) X2 ?_
    simp only [Act.put, List.setIfInBounds_toArray, List.set_cons_zero, List.set_cons_succ, List.getElem_toArray, List.getElem_cons_zero, List.getElem_cons_succ]
    refine wpAnyH_take (i := 8) (v := undef) rfl (by kernel_rfl) (by kernel_rfl) (by kernel_rfl) (fun _ _ _ h => h) (Or.inr ⟨by rfl, rfl⟩) X2 ?_
    simp only [Act.put, List.setIfInBounds_toArray, List.set_cons_zero, List.set_cons_succ, List.getElem_toArray, List.getElem_cons_zero, List.getElem_cons_succ]
    refine wpAnyH_take (i := 9) (v := undef) rfl (by kernel_rfl) (by kernel_rfl) (by kernel_rfl) (fun _ _ _ h => h) (Or.inr ⟨by rfl, rfl⟩) X2 ?_
    simp only [Act.put, List.setIfInBounds_toArray, List.set_cons_zero, List.set_cons_succ, List.getElem_toArray, List.getElem_cons_zero, List.getElem_cons_succ]
    refine wpAnyH_ready (rs := [10]) (by kernel_rfl) (by simp) ?_
    refine AllReadyH.cons rfl (fun K5 hK5 => ?_) AllReadyH.nil
    go_simp
    refine hK5.out _ _ X2 (fun _ => ?_)
    clear hK5 K5
    refine wpAnyH_ready (rs := [11]) (by kernel_rfl) (by simp) ?_
    refine AllReadyH.cons rfl (fun K5 hK5 => ?_) AllReadyH.nil
    go_simp
    refine hK5.out _ _ X2 (fun _ => ?_)
    clear hK5 K5
    refine wpAnyH_done (by kernel_rfl) ?_ _
    refine hK _ _ ?_
    have B2 := Lib.hid B2
    clear X1 X2 B1
    go_wp2
    go_ret
    exact ⟨rfl, B2.out⟩

set_option maxRecDepth 100000 in
set_option maxHeartbeats 8000000 in
theorem nCheck_false (A : Option Addr) (n c : Nat) (l : List En) (w : World) (h : NodA w A n c l) (hf : FewN l) :
    Calls Tryd.prog 17 #[.agg #[.bool false, .slice A n c]] w fun e w' => e = .returned (.bool (decide (checkN false l))) ∧ Below w.heap.size w w' := by
  have hmx : Tryd.prog.follows .mixedOrders = true := by kernel_rfl
  have hn : n ≤ 1000 := by rw [h.len]; exact hf.1
  have HA := Lib.hid h
  have HF := Lib.hid hf

  have HSH : Hid (∀ w, Calls Tryd.prog 24 #[.agg #[.bool false, .slice A n c]] w fun e w' => e = .returned (.iface 90 (.agg #[])) ∧ Below w.heap.size w w') := Lib.hid (fun w => nShapeOf_any false A n c w)
  have HCK := Lib.hid (fun w1 (hb : Below w.heap.size w w1) => nbCheck_any A n c l w1 (h.below hb) (by omega))
  have HCE := Lib.hid (fun w1 (hb : Below w.heap.size w w1) => nCells_false A n c l w1 (h.below hb) (by omega) hf.wide)

  by_cases hs : shapeN false l
  · have HD := Lib.hid (check_is hs)
    have hs1 : decide (shapeN false l) = true := decide_eq_true hs
    rw [hs1] at HCK
    rw [HD.out]
    clear h hf hs hs1 HD
    obtain ⟨W, hW⟩ : ∃ W, w.alloc (.cells #[.bool false, .slice A n c] 24) = W := ⟨_, rfl⟩
    have BW : Below w.heap.size w W := hW ▸ (Below.refl _ w).alloc (Nat.le_refl _) _
    have HX := Lib.hid (show Has W w.heap.size 24 #[.bool false, .slice A n c] from hW ▸ Has.made w _ _)
    have hX0 : Has W.drew w.heap.size 24 #[.bool false, .slice A n c] := HX.out
    have BD : Below w.heap.size w W.drew := BW.drew
    go_enter Tryd.func17, Tryd.ntmps17
    go_wp2
    try rw [hW]
    rename_i K hK
    refine wp_held (fun w' => Has w' w.heap.size 24 #[.bool false, .slice A n c]) K hmx ?_ (fun _ _ h => h)
    refine wpAnyH_take (i := 0) (v := .agg #[.bool false, .slice A n c]) rfl (by kernel_rfl) (by kernel_rfl) (by kernel_rfl) (fun _ _ _ h => h) (Or.inl ⟨by rfl, ?_⟩) hX0 ?_
    · intro w6 s1
      have d0 := s1.cell 0
      have d1 := s1.cell 1
      go_simp
    simp only [Act.put, List.setIfInBounds_toArray, List.set_cons_zero, List.set_cons_succ, List.getElem_toArray, List.getElem_cons_zero]
    refine wpAnyH_take (i := 2) (v := .pointer (some ⟨w.heap.size, 1, none⟩)) rfl (by kernel_rfl) (by kernel_rfl) (by kernel_rfl) (fun _ _ _ h => h) (Or.inl ⟨by rfl, ?_⟩) hX0 ?_
    · intro w6 s1
      go_simp
    simp only [Act.put, List.setIfInBounds_toArray, List.set_cons_zero, List.set_cons_succ, List.getElem_toArray, List.getElem_cons_zero, List.getElem_cons_succ]
    refine wpAnyH_take (i := 3) (v := .slice A n c) rfl (by kernel_rfl) (by kernel_rfl) (by kernel_rfl) (fun _ _ _ h => h) (Or.inl ⟨by rfl, ?_⟩) hX0 ?_
    · intro w6 s1
      have d0 := s1.cell 1
      go_simp
    simp only [Act.put, List.setIfInBounds_toArray, List.set_cons_zero, List.set_cons_succ, List.getElem_toArray, List.getElem_cons_zero, List.getElem_cons_succ]
    refine wpAnyH_ready (rs := [1]) (by kernel_rfl) (by simp) ?_
    refine AllReadyH.cons rfl (fun K5 hK5 => ?_) AllReadyH.nil
    go_simp
    go_at_call 24
    (with_reducible refine (HSH.out _).mono ?_)
    rintro e1 w1 ⟨rfl, b1⟩
    have X1 := hX0.below b1 hX0.lt
    have B1 := below_step BD b1
    clear b1
    refine hK5.out _ _ X1 (fun _ => ?_)
    clear hK5 K5
    refine wpAnyH_ready (rs := [4]) (by kernel_rfl) (by simp) ?_
    refine AllReadyH.cons rfl (fun K5 hK5 => ?_) AllReadyH.nil
    go_simp
    go_invoke
    go_simp
    go_at_call 98
    (with_reducible refine (HCK.out _ B1).mono ?_)
    rintro e2 w2 ⟨rfl, b2⟩
    have X2 := X1.below b2 X1.lt
    have B2 := below_step B1 b2
    clear b2
    refine hK5.out _ _ X2 (fun _ => ?_)
    clear hK5 K5
    refine wpAnyH_take (i := 5) (v := .bool true) rfl (by kernel_rfl) (by kernel_rfl) (by kernel_rfl) (fun _ _ _ h => h) (Or.inl ⟨by rfl, ?_⟩) X2 ?_
    · intro w6 s1
      go_simp
    simp only [Act.put, List.setIfInBounds_toArray, List.set_cons_zero, List.set_cons_succ, List.getElem_toArray, List.getElem_cons_zero, List.getElem_cons_succ]
    refine wpAnyH_take (i := 6) (v := .agg #[.bool false, .slice A n c]) rfl (by kernel_rfl) (by kernel_rfl) (by kernel_rfl) (fun _ _ _ h => h) (Or.inl ⟨by rfl, ?_⟩) X2 ?_
    · intro w6 s1
      have d0 := s1.cell 0
      have d1 := s1.cell 1
      go_simp
    simp only [Act.put, List.setIfInBounds_toArray, List.set_cons_zero, List.set_cons_succ, List.getElem_toArray, List.getElem_cons_zero, List.getElem_cons_succ]
    refine wpAnyH_ready (rs := [7]) (by kernel_rfl) (by simp) ?_
    refine AllReadyH.cons rfl (fun K5 hK5 => ?_) AllReadyH.nil
    go_simp
    go_at_call 15
    (with_reducible refine (HCE.out _ B2).mono ?_)
    rintro e3 w3 ⟨A3, n3, c3, q3, rfl, k3, l3, b3⟩
    have X3 := X2.below b3 X2.lt
    have B3 := below_step B2 b3
    clear b3
    have HSZ := ceSize_any A3 n3 c3 q3 w3 k3 (few_of HF.out l3)
    rw [l3] at HSZ
    refine hK5.out _ _ X3 (fun _ => ?_)
    clear hK5 K5
    refine wpAnyH_ready (rs := [8]) (by kernel_rfl) (by simp) ?_
    refine AllReadyH.cons rfl (fun K5 hK5 => ?_) AllReadyH.nil
    go_simp
    go_at_call 29
    (with_reducible refine HSZ.mono ?_)
    rintro e4 w4 ⟨rfl, rfl⟩
    refine hK5.out _ _ X3 (fun _ => ?_)
    clear hK5 K5
    refine wpAnyH_ready (rs := [9]) (by kernel_rfl) (by simp) ?_
    refine AllReadyH.cons rfl (fun K5 hK5 => ?_) AllReadyH.nil
    go_simp
    refine hK5.out _ _ X3 (fun _ => ?_)
    clear hK5 K5
    refine wpAnyH_ready (rs := [10]) (by kernel_rfl) (by simp) ?_
    refine AllReadyH.cons rfl (fun K5 hK5 => ?_) AllReadyH.nil
    go_simp
    refine hK5.out _ _ X3 (fun _ => ?_)
    clear hK5 K5
    refine wpAnyH_ready (rs := [11]) (by kernel_rfl) (by simp) ?_
    refine AllReadyH.cons rfl (fun K5 hK5 => ?_) AllReadyH.nil
    go_simp
    refine hK5.out _ _ X3 (fun _ => ?_)
    clear hK5 K5
    refine wpAnyH_done (by kernel_rfl) ?_ _
    refine hK _ _ ?_
    have B3 := Lib.hid B3
    clear X1 X2 X3 B1 B2
    go_wp2
    go_ret
    exact ⟨by simp, B3.out⟩
  · have HD := Lib.hid (check_no hs)
    have hs1 : decide (shapeN false l) = false := decide_eq_false hs
    rw [hs1] at HCK
    rw [HD.out]
    clear h hf hs hs1 HD
    obtain ⟨W, hW⟩ : ∃ W, w.alloc (.cells #[.bool false, .slice A n c] 24) = W := ⟨_, rfl⟩
    have BW : Below w.heap.size w W := hW ▸ (Below.refl _ w).alloc (Nat.le_refl _) _
    have HX := Lib.hid (show Has W w.heap.size 24 #[.bool false, .slice A n c] from hW ▸ Has.made w _ _)
    have hX0 : Has W.drew w.heap.size 24 #[.bool false, .slice A n c] := HX.out
    have BD : Below w.heap.size w W.drew := BW.drew
    go_enter Tryd.func17, Tryd.ntmps17
    go_wp2
    try rw [hW]
    rename_i K hK
    refine wp_held (fun w' => Has w' w.heap.size 24 #[.bool false, .slice A n c]) K hmx ?_ (fun _ _ h => h)
    refine wpAnyH_take (i := 0) (v := .agg #[.bool false, .slice A n c]) rfl (by kernel_rfl) (by kernel_rfl) (by kernel_rfl) (fun _ _ _ h => h) (Or.inl ⟨by rfl, ?_⟩) hX0 ?_
    · intro w6 s1
      have d0 := s1.cell 0
      have d1 := s1.cell 1
      go_simp
    simp only [Act.put, List.setIfInBounds_toArray, List.set_cons_zero, List.set_cons_succ, List.getElem_toArray, List.getElem_cons_zero]
    refine wpAnyH_take (i := 2) (v := .pointer (some ⟨w.heap.size, 1, none⟩)) rfl (by kernel_rfl) (by kernel_rfl) (by kernel_rfl) (fun _ _ _ h => h) (Or.inl ⟨by rfl, ?_⟩) hX0 ?_
    · intro w6 s1
      go_simp
    simp only [Act.put, List.setIfInBounds_toArray, List.set_cons_zero, List.set_cons_succ, List.getElem_toArray, List.getElem_cons_zero, List.getElem_cons_succ]
    refine wpAnyH_take (i := 3) (v := .slice A n c) rfl (by kernel_rfl) (by kernel_rfl) (by kernel_rfl) (fun _ _ _ h => h) (Or.inl ⟨by rfl, ?_⟩) hX0 ?_
    · intro w6 s1
      have d0 := s1.cell 1
      go_simp
    simp only [Act.put, List.setIfInBounds_toArray, List.set_cons_zero, List.set_cons_succ, List.getElem_toArray, List.getElem_cons_zero, List.getElem_cons_succ]
    refine wpAnyH_ready (rs := [1]) (by kernel_rfl) (by simp) ?_
    refine AllReadyH.cons rfl (fun K5 hK5 => ?_) AllReadyH.nil
    go_simp
    go_at_call 24
    (with_reducible refine (HSH.out _).mono ?_)
    rintro e1 w1 ⟨rfl, b1⟩
    have X1 := hX0.below b1 hX0.lt
    have B1 := below_step BD b1
    clear b1
    refine hK5.out _ _ X1 (fun _ => ?_)
    clear hK5 K5
    refine wpAnyH_ready (rs := [4]) (by kernel_rfl) (by simp) ?_
    refine AllReadyH.cons rfl (fun K5 hK5 => ?_) AllReadyH.nil
    go_simp
    go_invoke
    go_simp
    go_at_call 98
    (with_reducible refine (HCK.out _ B1).mono ?_)
    rintro e2 w2 ⟨rfl, b2⟩
    have X2 := X1.below b2 X1.lt
    have B2 := below_step B1 b2
    clear b2
    refine hK5.out _ _ X2 (fun _ => ?_)
    clear hK5 K5
    refine wpAnyH_take (i := 5) (v := .bool false) rfl (by kernel_rfl) (by kernel_rfl) (by kernel_rfl) (fun _ _ _ h => h) (Or.inl ⟨by rfl, ?_⟩) X2 ?_
    · intro w6 s1
      go_simp
    simp only [Act.put, List.setIfInBounds_toArray, List.set_cons_zero, List.set_cons_succ, List.getElem_toArray, List.getElem_cons_zero, List.getElem_cons_succ]
    refine wpAnyH_take (i := 6) (v := undef) rfl (by kernel_rfl) (by kernel_rfl) (by kernel_rfl) (fun _ _ _ h => h) (Or.inr ⟨by rfl, rfl⟩) X2 ?_
    simp only [Act.put, List.setIfInBounds_toArray, List.set_cons_zero, List.set_cons_succ, List.getElem_toArray, List.getElem_cons_zero, List.getElem_cons_succ]
    refine wpAnyH_take (i := 7) (v := undef) rfl (by kernel_rfl) (by kernel_rfl) (by kernel_rfl) (fun _ _ _ h => h) (Or.inr ⟨by rfl, rfl⟩) X2 ?_
    simp only [Act.put, List.setIfInBounds_toArray, List.set_cons_zero, List.set_cons_succ, List.getElem_toArray, List.getElem_cons_zero, List.getElem_cons_succ]
    refine wpAnyH_take (i := 8) (v := undef) rfl (by kernel_rfl) (by kernel_rfl) (by kernel_rfl) (fun _ _ _ h => h) (Or.inr ⟨by rfl, rfl⟩) X2 ?_
    simp only [Act.put, List.setIfInBounds_toArray, List.set_cons_zero, List.set_cons_succ, List.getElem_toArray, List.getElem_cons_zero, List.getElem_cons_succ]
    refine wpAnyH_take (i := 9) (v := undef) rfl (by kernel_rfl) (by kernel_rfl) (by kernel_rfl) (fun _ _ _ h => h) (Or.inr ⟨by rfl, rfl⟩) X2 ?_
    simp only [Act.put, List.setIfInBounds_toArray, List.set_cons_zero, List.set_cons_succ, List.getElem_toArray, List.getElem_cons_zero, List.getElem_cons_succ]
    refine wpAnyH_ready (rs := [10]) (by kernel_rfl) (by simp) ?_
    refine AllReadyH.cons rfl (fun K5 hK5 => ?_) AllReadyH.nil
    go_simp
    refine hK5.out _ _ X2 (fun _ => ?_)
    clear hK5 K5
    refine wpAnyH_ready (rs := [11]) (by kernel_rfl) (by simp) ?_
    refine AllReadyH.cons rfl (fun K5 hK5 => ?_) AllReadyH.nil
    go_simp
    refine hK5.out _ _ X2 (fun _ => ?_)
    clear hK5 K5
    refine wpAnyH_done (by kernel_rfl) ?_ _
    refine hK _ _ ?_
    have B2 := Lib.hid B2
    clear X1 X2 B1
    go_wp2
    go_ret
    exact ⟨rfl, B2.out⟩

set_option maxRecDepth 100000 in
set_option maxHeartbeats 8000000 in
theorem nPut_yes_true (A : Option Addr) (n c : Nat) (l : List En) (w : World) (ht : Tab w) (h : NodA w A n c l) (hf : FewN l) (hy : checkN true l) :
    Calls Tryd.prog 11 #[.agg #[.bool true, .slice A n c]] w (PackOk 1 (cellsE true l) w) := by
  have hmx : Tryd.prog.follows .mixedOrders = true := by kernel_rfl
  have hn : n ≤ 1000 := by rw [h.len]; exact hf.1
  have HA := Lib.hid h
  have HF := Lib.hid hf

  have HT := Lib.hid ht
  have HSH : Hid (∀ w, Calls Tryd.prog 24 #[.agg #[.bool true, .slice A n c]] w fun e w' => e = .returned (.iface 89 (.agg #[])) ∧ Below w.heap.size w w') := Lib.hid (fun w => nShapeOf_any true A n c w)
  have HCK := Lib.hid (fun w1 (hb : Below w.heap.size w w1) => nCheck_true A n c l w1 (h.below hb) hf)
  rw [show decide (checkN true l) = true from decide_eq_true hy] at HCK
  have HK := Lib.hid nlKind_any
  have HFI : Hid (cFits 1 (cellsE true l)) := Lib.hid (checkN_fits hy)
  have HCE := Lib.hid (fun w1 (hb : Below w.heap.size w w1) => nCells_true A n c l w1 (h.below hb) (by omega) hf.wide)
  clear h hf hy ht
  obtain ⟨W, hW⟩ : ∃ W, w.alloc (.cells #[.bool true, .slice A n c] 24) = W := ⟨_, rfl⟩
  have BW : Below w.heap.size w W := hW ▸ (Below.refl _ w).alloc (Nat.le_refl _) _
  have HX := Lib.hid (show Has W w.heap.size 24 #[.bool true, .slice A n c] from hW ▸ Has.made w _ _)
  have hX0 : Has W.drew w.heap.size 24 #[.bool true, .slice A n c] := HX.out
  have BD : Below w.heap.size w W.drew := BW.drew
  have e0 := HX.out.cell 0
  have e1 := HX.out.cell 1
  have BWH := Lib.hid BW
  clear BD BW hX0
  go_enter Tryd.func11, Tryd.ntmps11
  go_wp2_with (go_at_call 17; (try rw [hW]); (with_reducible refine (HCK.out _ BWH.out).mono ?_); rintro r1 wa ⟨rfl, ba⟩; have Xa := HX.out.below ba HX.out.lt; have Ba := Lib.hid (below_step BWH.out ba); clear ba)
  have hX0 : Has wa.drew w.heap.size 24 #[.bool true, .slice A n c] := Xa
  have BD : Below w.heap.size w wa.drew := Ba.out.drew
  rename_i K hK
  refine wp_held (fun w' => Has w' w.heap.size 24 #[.bool true, .slice A n c]) K hmx ?_ (fun _ _ h => h)
  refine wpAnyH_take (i := 0) (v := .agg #[.bool true, .slice A n c]) rfl (by kernel_rfl) (by kernel_rfl) (by kernel_rfl) (fun _ _ _ h => h) (Or.inl ⟨by rfl, ?_⟩) hX0 ?_
  · intro w6 s1
    have d0 := s1.cell 0
    have d1 := s1.cell 1
    go_simp
  simp only [Act.put, List.setIfInBounds_toArray, List.set_cons_zero, List.set_cons_succ, List.getElem_toArray, List.getElem_cons_zero]
  refine wpAnyH_take (i := 3) (v := .agg #[.bool true, .slice A n c]) rfl (by kernel_rfl) (by kernel_rfl) (by kernel_rfl) (fun _ _ _ h => h) (Or.inl ⟨by rfl, ?_⟩) hX0 ?_
  · intro w6 s1
    have d0 := s1.cell 0
    have d1 := s1.cell 1
    go_simp
  simp only [Act.put, List.setIfInBounds_toArray, List.set_cons_zero, List.set_cons_succ, List.getElem_toArray, List.getElem_cons_zero, List.getElem_cons_succ]
  refine wpAnyH_ready (rs := [1]) (by kernel_rfl) (by simp) ?_
  refine AllReadyH.cons rfl (fun K5 hK5 => ?_) AllReadyH.nil
  go_simp
  go_at_call 24
  (with_reducible refine (HSH.out _).mono ?_)
  rintro e1 w1 ⟨rfl, b1⟩
  have X1 := hX0.below b1 hX0.lt
  have B1 := below_step BD b1
  clear b1
  refine hK5.out _ _ X1 (fun _ => ?_)
  clear hK5 K5
  refine wpAnyH_ready (rs := [2]) (by kernel_rfl) (by simp) ?_
  refine AllReadyH.cons rfl (fun K5 hK5 => ?_) AllReadyH.nil
  go_simp
  go_invoke
  go_simp
  go_at_call 84
  (with_reducible refine (HK.out _).mono ?_)
  rintro e2 w2 ⟨rfl, b2⟩
  have X2 := X1.below b2 X1.lt
  have B2 := below_step B1 b2
  clear b2
  refine hK5.out _ _ X2 (fun _ => ?_)
  clear hK5 K5
  refine wpAnyH_ready (rs := [4]) (by kernel_rfl) (by simp) ?_
  refine AllReadyH.cons rfl (fun K5 hK5 => ?_) AllReadyH.nil
  go_simp
  go_at_call 15
  (with_reducible refine (HCE.out _ B2).mono ?_)
  rintro e3 w3 ⟨A3, n3, c3, q3, rfl, k3, l3, b3⟩
  have X3 := X2.below b3 X2.lt
  have B3 := below_step B2 b3
  clear b3
  have HPK := cePack_yes 1 A3 n3 c3 q3 w3 (HT.out.below B3) k3 (few_of HF.out l3) (by rw [l3]; exact HFI.out)
  rw [l3] at HPK
  rw [show ((1 : UInt8).toNat : Int) = 1 from rfl] at HPK
  refine hK5.out _ _ X3 (fun _ => ?_)
  clear hK5 K5
  refine wpAnyH_ready (rs := [5]) (by kernel_rfl) (by simp) ?_
  refine AllReadyH.cons rfl (fun K5 hK5 => ?_) AllReadyH.nil
  go_simp
  go_at_call 23
  (with_reducible refine HPK.mono ?_)
  rintro e4 w4 ⟨A4, c4, rfl, g1, g2, g3, g4⟩
  have X4 := X3.below g4 X3.lt
  have B4 := Lib.hid (below_step B3 g4)
  have G1 := Lib.hid g1
  have G2 := Lib.hid g2
  have G3 := Lib.hid (g3.low B3.size)
  clear g1 g2 g3 g4
  refine hK5.out _ _ X4 (fun _ => ?_)
  clear hK5 K5
  refine wpAnyH_take (i := 6) (v := .slice A4 128 c4) rfl (by kernel_rfl) (by kernel_rfl) (by kernel_rfl) (fun _ _ _ h => h) (Or.inl ⟨by rfl, ?_⟩) X4 ?_
  · intro w6 s1
    go_simp
  simp only [Act.put, List.setIfInBounds_toArray, List.set_cons_zero, List.set_cons_succ, List.getElem_toArray, List.getElem_cons_zero, List.getElem_cons_succ]
  refine wpAnyH_take (i := 7) (v := .int .i64 0) rfl (by kernel_rfl) (by kernel_rfl) (by kernel_rfl) (fun _ _ _ h => h) (Or.inl ⟨by rfl, ?_⟩) X4 ?_
  · intro w6 s1
    go_simp
  simp only [Act.put, List.setIfInBounds_toArray, List.set_cons_zero, List.set_cons_succ, List.getElem_toArray, List.getElem_cons_zero, List.getElem_cons_succ]
  refine wpAnyH_ready (rs := [8]) (by kernel_rfl) (by simp) ?_
  refine AllReadyH.cons rfl (fun K5 hK5 => ?_) AllReadyH.nil
  go_simp
  refine hK5.out _ _ X4 (fun _ => ?_)
  clear hK5 K5
  refine wpAnyH_ready (rs := [9]) (by kernel_rfl) (by simp) ?_
  refine AllReadyH.cons rfl (fun K5 hK5 => ?_) AllReadyH.nil
  go_simp
  refine hK5.out _ _ X4 (fun _ => ?_)
  clear hK5 K5
  refine wpAnyH_done (by kernel_rfl) ?_ _
  refine hK _ _ ?_
  clear X1 X2 X3 X4 B1 B2 B3 Xa
  go_wp2
  go_ret2
  exact ⟨A4, c4, rfl, G1.out, G2.out, G3.out, B4.out⟩

set_option maxRecDepth 100000 in
set_option maxHeartbeats 8000000 in
theorem nPut_no_true (A : Option Addr) (n c : Nat) (l : List En) (w : World) (h : NodA w A n c l) (hf : FewN l) (hy : ¬ checkN true l) :
    Calls Tryd.prog 11 #[.agg #[.bool true, .slice A n c]] w (PackNo w) := by
  have hmx : Tryd.prog.follows .mixedOrders = true := by kernel_rfl
  have hn : n ≤ 1000 := by rw [h.len]; exact hf.1
  have HA := Lib.hid h
  have HF := Lib.hid hf

  have HCK := Lib.hid (fun w1 (hb : Below w.heap.size w w1) => nCheck_true A n c l w1 (h.below hb) hf)
  rw [show decide (checkN true l) = false from decide_eq_false hy] at HCK
  clear h hf hy
  obtain ⟨W, hW⟩ : ∃ W, w.alloc (.cells #[.bool true, .slice A n c] 24) = W := ⟨_, rfl⟩
  have BW : Below w.heap.size w W := hW ▸ (Below.refl _ w).alloc (Nat.le_refl _) _
  have HX := Lib.hid (show Has W w.heap.size 24 #[.bool true, .slice A n c] from hW ▸ Has.made w _ _)
  have hX0 : Has W.drew w.heap.size 24 #[.bool true, .slice A n c] := HX.out
  have BD : Below w.heap.size w W.drew := BW.drew
  have e0 := HX.out.cell 0
  have e1 := HX.out.cell 1
  have BWH := Lib.hid BW
  clear BD BW hX0
  go_enter Tryd.func11, Tryd.ntmps11
  go_wp2_with (go_at_call 17; (try rw [hW]); (with_reducible refine (HCK.out _ BWH.out).mono ?_); rintro r1 wa ⟨rfl, ba⟩; have Ba := Lib.hid (below_step BWH.out ba); clear ba)
  go_ret2
  exact ⟨rfl, Ba.out⟩

set_option maxRecDepth 100000 in
set_option maxHeartbeats 8000000 in
theorem nPut_yes_false (A : Option Addr) (n c : Nat) (l : List En) (w : World) (ht : Tab w) (h : NodA w A n c l) (hf : FewN l) (hy : checkN false l) :
    Calls Tryd.prog 11 #[.agg #[.bool false, .slice A n c]] w (PackOk 2 (cellsE false l) w) := by
  have hmx : Tryd.prog.follows .mixedOrders = true := by kernel_rfl
  have hn : n ≤ 1000 := by rw [h.len]; exact hf.1
  have HA := Lib.hid h
  have HF := Lib.hid hf

  have HT := Lib.hid ht
  have HSH : Hid (∀ w, Calls Tryd.prog 24 #[.agg #[.bool false, .slice A n c]] w fun e w' => e = .returned (.iface 90 (.agg #[])) ∧ Below w.heap.size w w') := Lib.hid (fun w => nShapeOf_any false A n c w)
  have HCK := Lib.hid (fun w1 (hb : Below w.heap.size w w1) => nCheck_false A n c l w1 (h.below hb) hf)
  rw [show decide (checkN false l) = true from decide_eq_true hy] at HCK
  have HK := Lib.hid nbKind_any
  have HFI : Hid (cFits 2 (cellsE false l)) := Lib.hid (checkN_fits hy)
  have HCE := Lib.hid (fun w1 (hb : Below w.heap.size w w1) => nCells_false A n c l w1 (h.below hb) (by omega) hf.wide)
  clear h hf hy ht
  obtain ⟨W, hW⟩ : ∃ W, w.alloc (.cells #[.bool false, .slice A n c] 24) = W := ⟨_, rfl⟩
  have BW : Below w.heap.size w W := hW ▸ (Below.refl _ w).alloc (Nat.le_refl _) _
  have HX := Lib.hid (show Has W w.heap.size 24 #[.bool false, .slice A n c] from hW ▸ Has.made w _ _)
  have hX0 : Has W.drew w.heap.size 24 #[.bool false, .slice A n c] := HX.out
  have BD : Below w.heap.size w W.drew := BW.drew
  have e0 := HX.out.cell 0
  have e1 := HX.out.cell 1
  have BWH := Lib.hid BW
  clear BD BW hX0
  go_enter Tryd.func11, Tryd.ntmps11
  go_wp2_with (go_at_call 17; (try rw [hW]); (with_reducible refine (HCK.out _ BWH.out).mono ?_); rintro r1 wa ⟨rfl, ba⟩; have Xa := HX.out.below ba HX.out.lt; have Ba := Lib.hid (below_step BWH.out ba); clear ba)
  have hX0 : Has wa.drew w.heap.size 24 #[.bool false, .slice A n c] := Xa
  have BD : Below w.heap.size w wa.drew := Ba.out.drew
  rename_i K hK
  refine wp_held (fun w' => Has w' w.heap.size 24 #[.bool false, .slice A n c]) K hmx ?_ (fun _ _ h => h)
  refine wpAnyH_take (i := 0) (v := .agg #[.bool false, .slice A n c]) rfl (by kernel_rfl) (by kernel_rfl) (by kernel_rfl) (fun _ _ _ h => h) (Or.inl ⟨by rfl, ?_⟩) hX0 ?_
  · intro w6 s1
    have d0 := s1.cell 0
    have d1 := s1.cell 1
    go_simp
  simp only [Act.put, List.setIfInBounds_toArray, List.set_cons_zero, List.set_cons_succ, List.getElem_toArray, List.getElem_cons_zero]
  refine wpAnyH_take (i := 3) (v := .agg #[.bool false, .slice A n c]) rfl (by kernel_rfl) (by kernel_rfl) (by kernel_rfl) (fun _ _ _ h => h) (Or.inl ⟨by rfl, ?_⟩) hX0 ?_
  · intro w6 s1
    have d0 := s1.cell 0
    have d1 := s1.cell 1
    go_simp
  simp only [Act.put, List.setIfInBounds_toArray, List.set_cons_zero, List.set_cons_succ, List.getElem_toArray, List.getElem_cons_zero, List.getElem_cons_succ]
  refine wpAnyH_ready (rs := [1]) (by kernel_rfl) (by simp) ?_
  refine AllReadyH.cons rfl (fun K5 hK5 => ?_) AllReadyH.nil
  go_simp
  go_at_call 24
  (with_reducible refine (HSH.out _).mono ?_)
  rintro e1 w1 ⟨rfl, b1⟩
  have X1 := hX0.below b1 hX0.lt
  have B1 := below_step BD b1
  clear b1
  refine hK5.out _ _ X1 (fun _ => ?_)
  clear hK5 K5
  refine wpAnyH_ready (rs := [2]) (by kernel_rfl) (by simp) ?_
  refine AllReadyH.cons rfl (fun K5 hK5 => ?_) AllReadyH.nil
  go_simp
  go_invoke
  go_simp
  go_at_call 99
  (with_reducible refine (HK.out _).mono ?_)
  rintro e2 w2 ⟨rfl, b2⟩
  have X2 := X1.below b2 X1.lt
  have B2 := below_step B1 b2
  clear b2
  refine hK5.out _ _ X2 (fun _ => ?_)
  clear hK5 K5
  refine wpAnyH_ready (rs := [4]) (by kernel_rfl) (by simp) ?_
  refine AllReadyH.cons rfl (fun K5 hK5 => ?_) AllReadyH.nil
  go_simp
  go_at_call 15
  (with_reducible refine (HCE.out _ B2).mono ?_)
  rintro e3 w3 ⟨A3, n3, c3, q3, rfl, k3, l3, b3⟩
  have X3 := X2.below b3 X2.lt
  have B3 := below_step B2 b3
  clear b3
  have HPK := cePack_yes 2 A3 n3 c3 q3 w3 (HT.out.below B3) k3 (few_of HF.out l3) (by rw [l3]; exact HFI.out)
  rw [l3] at HPK
  rw [show ((2 : UInt8).toNat : Int) = 2 from rfl] at HPK
  refine hK5.out _ _ X3 (fun _ => ?_)
  clear hK5 K5
  refine wpAnyH_ready (rs := [5]) (by kernel_rfl) (by simp) ?_
  refine AllReadyH.cons rfl (fun K5 hK5 => ?_) AllReadyH.nil
  go_simp
  go_at_call 23
  (with_reducible refine HPK.mono ?_)
  rintro e4 w4 ⟨A4, c4, rfl, g1, g2, g3, g4⟩
  have X4 := X3.below g4 X3.lt
  have B4 := Lib.hid (below_step B3 g4)
  have G1 := Lib.hid g1
  have G2 := Lib.hid g2
  have G3 := Lib.hid (g3.low B3.size)
  clear g1 g2 g3 g4
  refine hK5.out _ _ X4 (fun _ => ?_)
  clear hK5 K5
  refine wpAnyH_take (i := 6) (v := .slice A4 128 c4) rfl (by kernel_rfl) (by kernel_rfl) (by kernel_rfl) (fun _ _ _ h => h) (Or.inl ⟨by rfl, ?_⟩) X4 ?_
  · intro w6 s1
    go_simp
  simp only [Act.put, List.setIfInBounds_toArray, List.set_cons_zero, List.set_cons_succ, List.getElem_toArray, List.getElem_cons_zero, List.getElem_cons_succ]
  refine wpAnyH_take (i := 7) (v := .int .i64 0) rfl (by kernel_rfl) (by kernel_rfl) (by kernel_rfl) (fun _ _ _ h => h) (Or.inl ⟨by rfl, ?_⟩) X4 ?_
  · intro w6 s1
    go_simp
  simp only [Act.put, List.setIfInBounds_toArray, List.set_cons_zero, List.set_cons_succ, List.getElem_toArray, List.getElem_cons_zero, List.getElem_cons_succ]
  refine wpAnyH_ready (rs := [8]) (by kernel_rfl) (by simp) ?_
  refine AllReadyH.cons rfl (fun K5 hK5 => ?_) AllReadyH.nil
  go_simp
  refine hK5.out _ _ X4 (fun _ => ?_)
  clear hK5 K5
  refine wpAnyH_ready (rs := [9]) (by kernel_rfl) (by simp) ?_
  refine AllReadyH.cons rfl (fun K5 hK5 => ?_) AllReadyH.nil
  go_simp
  refine hK5.out _ _ X4 (fun _ => ?_)
  clear hK5 K5
  refine wpAnyH_done (by kernel_rfl) ?_ _
  refine hK _ _ ?_
  clear X1 X2 X3 X4 B1 B2 B3 Xa
  go_wp2
  go_ret2
  exact ⟨A4, c4, rfl, G1.out, G2.out, G3.out, B4.out⟩

set_option maxRecDepth 100000 in
set_option maxHeartbeats 8000000 in
theorem nPut_no_false (A : Option Addr) (n c : Nat) (l : List En) (w : World) (h : NodA w A n c l) (hf : FewN l) (hy : ¬ checkN false l) :
    Calls Tryd.prog 11 #[.agg #[.bool false, .slice A n c]] w (PackNo w) := by
  have hmx : Tryd.prog.follows .mixedOrders = true := by kernel_rfl
  have hn : n ≤ 1000 := by rw [h.len]; exact hf.1
  have HA := Lib.hid h
  have HF := Lib.hid hf

  have HCK := Lib.hid (fun w1 (hb : Below w.heap.size w w1) => nCheck_false A n c l w1 (h.below hb) hf)
  rw [show decide (checkN false l) = false from decide_eq_false hy] at HCK
  clear h hf hy
  obtain ⟨W, hW⟩ : ∃ W, w.alloc (.cells #[.bool false, .slice A n c] 24) = W := ⟨_, rfl⟩
  have BW : Below w.heap.size w W := hW ▸ (Below.refl _ w).alloc (Nat.le_refl _) _
  have HX := Lib.hid (show Has W w.heap.size 24 #[.bool false, .slice A n c] from hW ▸ Has.made w _ _)
  have hX0 : Has W.drew w.heap.size 24 #[.bool false, .slice A n c] := HX.out
  have BD : Below w.heap.size w W.drew := BW.drew
  have e0 := HX.out.cell 0
  have e1 := HX.out.cell 1
  have BWH := Lib.hid BW
  clear BD BW hX0
  go_enter Tryd.func11, Tryd.ntmps11
  go_wp2_with (go_at_call 17; (try rw [hW]); (with_reducible refine (HCK.out _ BWH.out).mono ?_); rintro r1 wa ⟨rfl, ba⟩; have Ba := Lib.hid (below_step BWH.out ba); clear ba)
  go_ret2
  exact ⟨rfl, Ba.out⟩

theorem nCheck_any (leaf : Bool) (A : Option Addr) (n c : Nat) (l : List En) (w : World) (h : NodA w A n c l) (hf : FewN l) :
    Calls Tryd.prog 17 #[.agg #[.bool leaf, .slice A n c]] w fun e w' => e = .returned (.bool (decide (checkN leaf l))) ∧ Below w.heap.size w w' := by
  cases leaf
  · exact nCheck_false A n c l w h hf
  · exact nCheck_true A n c l w h hf
theorem nPut_yes (leaf : Bool) (A : Option Addr) (n c : Nat) (l : List En) (w : World) (ht : Tab w) (h : NodA w A n c l) (hf : FewN l) (hy : checkN leaf l) :
    Calls Tryd.prog 11 #[.agg #[.bool leaf, .slice A n c]] w (PackOk (kindN leaf) (cellsE leaf l) w) := by
  cases leaf
  · exact nPut_yes_false A n c l w ht h hf hy
  · exact nPut_yes_true A n c l w ht h hf hy
theorem nPut_no (leaf : Bool) (A : Option Addr) (n c : Nat) (l : List En) (w : World) (h : NodA w A n c l) (hf : FewN l) (hy : ¬ checkN leaf l) :
    Calls Tryd.prog 11 #[.agg #[.bool leaf, .slice A n c]] w (PackNo w) := by
  cases leaf
  · exact nPut_no_false A n c l w h hf hy
  · exact nPut_no_true A n c l w h hf hy

end Go.Proofs.YtnponjdnjkegmaaDoor
