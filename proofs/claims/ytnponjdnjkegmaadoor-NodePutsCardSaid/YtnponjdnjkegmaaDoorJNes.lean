import Derived.Test.YtnponjdnjkegmaaDoorJ13
import Derived.Test.YtnponjdnjkegmaaDoorJ03
/- Of a claim's texts, joined: Nes. No statement but in the last. -/
namespace Go.Proofs.YtnponjdnjkegmaaDoor
open Go.RowKit
set_option linter.unusedVariables false

theorem cells_take (leaf : Bool) {l : List En} {k : Nat} (hk : k < l.length) : ((cellsE leaf l).take (k + 1)).map cstV = ((cellsE leaf l).take k).map cstV ++ [cstV (cellE leaf l[k])] := by
  have h : k < (cellsE leaf l).length := by simpa [cellsE] using hk
  rw [List.take_succ_eq_append_getElem h, List.map_append]
  simp [cellsE]
theorem cst_app (a b : List UInt8) : (⟨a.toArray⟩ : ByteArray) ++ ⟨b.toArray⟩ = ⟨(a ++ b).toArray⟩ := by
  apply ByteArray.ext
  simp

set_option maxRecDepth 100000 in
set_option maxHeartbeats 8000000 in
theorem r8Cells_false (A : Option Addr) (n c : Nat) (l : List En) (w : World) (h : NodA w A n c l) (hf : FewN l) :
    Calls Tryd.prog 16 #[.agg #[.bool false, .slice A n c]] w (TxtEnd w (cellsE false l)) := by
  have hmx : Tryd.prog.follows .mixedOrders = true := by kernel_rfl
  obtain ⟨j0, hj, jz0, jz1, jz2⟩ := info_parts stinfo
  have hzv := zero_rv
  have HL := Lib.hid h.len
  have HF := Lib.hid hf
  have hn : n ≤ 1000 := by rw [h.len]; exact hf.1
  obtain ⟨W, hW⟩ : ∃ W, w.alloc (.cells #[.bool false, .slice A n c] 29) = W := ⟨_, rfl⟩
  have BW : Below w.heap.size w W := hW ▸ (Below.refl _ w).alloc (Nat.le_refl _) _
  have hX : Has W w.heap.size 29 #[.bool false, .slice A n c] := hW ▸ Has.made w _ _
  have e0 := hX.cell 0
  have e1 := hX.cell 1
  have HX := Lib.hid hX
  have HB := Lib.hid BW
  have HA := Lib.hid h
  clear h hf BW hX
  go_enter Tryd.func16, Tryd.ntmps16
  go_wp2
  try rw [hW]
  go_loopw [3, 4] (fun v i wr => ∃ k : Nat, k ≤ n ∧ i = .int .i64 k ∧ wr.ownsRow W.heap.size 9 1 v k (((cellsE false l).take k).map cstV) ∧ Below W.heap.size W wr) (fun _ i _ => n - (intOf i).toNat)
  case atStart => exact ⟨0, Nat.zero_le _, rfl, st_own_nil _ _, Below.refl _ _⟩
  case round =>
    obtain ⟨k, hk, rfl, hq2, hq3⟩ := hrel
    obtain ⟨Av, cv, rfl, hcv1, hcv2⟩ := own_by hq2
    have Q1 := Lib.hid (HX.out.below hq3 HX.out.lt)
    have Q2 := Lib.hid hq2
    have Q3 := Lib.hid hq3
    have f0 := Q1.out.cell 0
    have f1 := Q1.out.cell 1
    by_cases hlt : k < n
    · have hkl : k < l.length := by rw [← HL.out]; exact hlt
      have hC := HA.out.below (below_step HB.out Q3.out)
      obtain ⟨g, off, rfl, c0, c1, c2, c3, c4⟩ := hC.reads.eat hkl
      have NX := Lib.hid (cells_take false hkl)
      have hsm := HF.out.2 _ (List.getElem_mem hkl)
      have i0 : (0 : Int) ≤ (k : Int) := by omega
      have i1 : (k : Int) < (n : Int) := by omega
      clear hC hq2 hq3 hcv1 hcv2
      generalize l[k] = y at *
      obtain ⟨yk, yd, far, sz, pg⟩ := y
      simp only at hsm
      have HTX : Hid (∀ w, Calls Tryd.prog 27 #[.string ⟨yk.toArray⟩] w fun e w' => e = .returned (.string ⟨(textB yk).toArray⟩) ∧ Below w.heap.size w w') := Lib.hid (fun w => rText_any ⟨yk.toArray⟩ w (by rw [size_list]; omega))
      have hN := fun x w => rNum_yes (u64N x) 2 w (u64N_lt x) (by decide) (by decide)
      have HNP : Hid (∀ w, Calls Tryd.prog 28 #[.int .u64 ((u64N pg : Nat) : Int), .int .i64 2] w fun e w' => e = .returned (.string ⟨(numB (u64N pg) 2).toArray⟩) ∧ Below w.heap.size w w') := Lib.hid (hN pg)
      have HNS : Hid (∀ w, Calls Tryd.prog 28 #[.int .u64 ((u64N sz : Nat) : Int), .int .i64 2] w fun e w' => e = .returned (.string ⟨(numB (u64N sz) 2).toArray⟩) ∧ Below w.heap.size w w') := Lib.hid (hN sz)
      have wp := u64N_wrap pg
      have ws := u64N_wrap sz
      have t3 : (⟨(textB yk).toArray⟩ : ByteArray).size ≤ 256 := by rw [size_list, textB_len]; have := Nat.min_le_right yk.length 255; omega
      have t4 : (⟨(numB (u64N pg) 2).toArray⟩ : ByteArray).size = 2 := by rw [size_list, numB_len]
      have t5 : (⟨(numB (u64N sz) 2).toArray⟩ : ByteArray).size = 2 := by rw [size_list, numB_len]
      have t6 : (⟨yd.toArray⟩ : ByteArray).size ≤ 300 := by rw [size_list]; omega
      have HE : Hid (cstV (cellE false ⟨yk, yd, far, sz, pg⟩) = .string (⟨(textB yk).toArray⟩ ++ ⟨(numB (u64N pg) 2).toArray⟩)) := Lib.hid (by simp [cstV, cellE, putE, cst_app])
      simp only [cstV] at c0 c1 c2 c3 c4
      clear hN hsm hkl
      generalize (⟨(textB yk).toArray⟩ : ByteArray) = tb at *
      generalize (⟨(numB (u64N pg) 2).toArray⟩ : ByteArray) = np at *
      generalize (⟨(numB (u64N sz) 2).toArray⟩ : ByteArray) = ns at *
      generalize (⟨yd.toArray⟩ : ByteArray) = sd at *
      generalize (⟨yk.toArray⟩ : ByteArray) = sk at *
      obtain ⟨xp, hxp⟩ : ∃ xp, u64N pg = xp := ⟨_, rfl⟩
      rw [hxp] at wp HNP
      obtain ⟨xs, hxs⟩ : ∃ xs, u64N sz = xs := ⟨_, rfl⟩
      rw [hxs] at ws HNS
      clear hxp hxs
      obtain ⟨V, hV⟩ : ∃ V, wr.alloc (.cells #[.string sd, .bool far, .int .i64 sz, .int .i64 pg] 56) = V := ⟨_, rfl⟩
      have hv : Has V wr.heap.size 56 #[.string sd, .bool far, .int .i64 sz, .int .i64 pg] := hV ▸ Has.made wr _ _
      have HV := Lib.hid hv
      have BV := Lib.hid (show Below wr.heap.size wr V from hV ▸ (Below.refl _ wr).alloc (Nat.le_refl _) _)
      have k1 := cell_below c0 BV.out
      have k2 := cell_below f1 BV.out
      have k3 := cell_below f0 BV.out
      have XQ := Lib.hid (Q1.out.below BV.out Q1.out.lt)
      clear hv
      go_wp2_with (first
        | (go_at_call 27; (try rw [hV]); (with_reducible refine (HTX.out _).mono ?_); rintro r1 w1 ⟨rfl, b1⟩; have X1 := HV.out.below b1 HV.out.lt; have q0 := X1.cell 0; have q1 := X1.cell 1; have q2 := X1.cell 2; have q3 := X1.cell 3; have Y1 := XQ.out.below b1 XQ.out.lt; have m0 := Y1.cell 0; have B1 := Lib.hid (below_step BV.out b1); have X1 := Lib.hid X1; have Y1 := Lib.hid Y1; clear b1)
        | (go_at_call 28; (try rw [wp]); (with_reducible refine (HNP.out _).mono ?_); rintro r2 w2 ⟨rfl, b2⟩; have B2 := Lib.hid (below_step B1.out b2); clear b2)
        | (at_builtin; refine wpList_append_one rfl _ _ 38 9 rfl W.heap.size 9 j0 _ 16 Tryd.underlying38 hj jz0 jz1 jz2 rfl _ k _ rfl (ceOwnBelow Q2.out B2.out) (.string (tb ++ np)) rfl rfl ?_ ?_ ?_ ?_; (omega); (unfold maxLen; omega); (exact (below_step Q3.out B2.out).size); intro v4 w4 h7 h8; have O4 := Lib.hid h7; have B4 := Lib.hid ((below_step Q3.out B2.out).trans h8); clear h7 h8))
      go_roundw
      case rel =>
        refine ⟨k + 1, by omega, by go_num, ?_, B4.out⟩
        rw [NX.out, HE.out]
        exact O4.out
      case measure => simp [intOf]; omega
    · obtain rfl : k = n := by omega
      obtain ⟨w3, hw3⟩ : ∃ w3 : World, w3 = wr := ⟨_, rfl⟩
      subst hw3
      have HQ := Q2.out
      have hkl : k = (cellsE false l).length := by rw [cellsE, List.length_map]; exact HL.out
      rw [List.take_of_length_le (Nat.le_of_eq hkl.symm)] at HQ
      obtain ⟨A2, c2, hv, _, hT⟩ := TxtA.of_own HQ
      injection hv with e1 e2 e3
      subst e1 e3
      have HT := Lib.hid hT
      have HKL := Lib.hid hkl
      clear HQ hT hkl hq2 hq3
      go_wp2
      go_ret
      exact ⟨Av, cv, by rw [← HKL.out]; rfl, by rw [← HKL.out]; exact HT.out, below_step HB.out Q3.out⟩

set_option maxRecDepth 100000 in
set_option maxHeartbeats 8000000 in
theorem r8Cells_true (A : Option Addr) (n c : Nat) (l : List En) (w : World) (h : NodA w A n c l) (hf : FewN l) :
    Calls Tryd.prog 16 #[.agg #[.bool true, .slice A n c]] w (TxtEnd w (cellsE true l)) := by
  have hmx : Tryd.prog.follows .mixedOrders = true := by kernel_rfl
  obtain ⟨j0, hj, jz0, jz1, jz2⟩ := info_parts stinfo
  have hzv := zero_rv
  have HL := Lib.hid h.len
  have HF := Lib.hid hf
  have hn : n ≤ 1000 := by rw [h.len]; exact hf.1
  obtain ⟨W, hW⟩ : ∃ W, w.alloc (.cells #[.bool true, .slice A n c] 29) = W := ⟨_, rfl⟩
  have BW : Below w.heap.size w W := hW ▸ (Below.refl _ w).alloc (Nat.le_refl _) _
  have hX : Has W w.heap.size 29 #[.bool true, .slice A n c] := hW ▸ Has.made w _ _
  have e0 := hX.cell 0
  have e1 := hX.cell 1
  have HX := Lib.hid hX
  have HB := Lib.hid BW
  have HA := Lib.hid h
  clear h hf BW hX
  go_enter Tryd.func16, Tryd.ntmps16
  go_wp2
  try rw [hW]
  go_loopw [3, 4] (fun v i wr => ∃ k : Nat, k ≤ n ∧ i = .int .i64 k ∧ wr.ownsRow W.heap.size 9 1 v k (((cellsE true l).take k).map cstV) ∧ Below W.heap.size W wr) (fun _ i _ => n - (intOf i).toNat)
  case atStart => exact ⟨0, Nat.zero_le _, rfl, st_own_nil _ _, Below.refl _ _⟩
  case round =>
    obtain ⟨k, hk, rfl, hq2, hq3⟩ := hrel
    obtain ⟨Av, cv, rfl, hcv1, hcv2⟩ := own_by hq2
    have Q1 := Lib.hid (HX.out.below hq3 HX.out.lt)
    have Q2 := Lib.hid hq2
    have Q3 := Lib.hid hq3
    have f0 := Q1.out.cell 0
    have f1 := Q1.out.cell 1
    by_cases hlt : k < n
    · have hkl : k < l.length := by rw [← HL.out]; exact hlt
      have hC := HA.out.below (below_step HB.out Q3.out)
      obtain ⟨g, off, rfl, c0, c1, c2, c3, c4⟩ := hC.reads.eat hkl
      have NX := Lib.hid (cells_take true hkl)
      have hsm := HF.out.2 _ (List.getElem_mem hkl)
      have i0 : (0 : Int) ≤ (k : Int) := by omega
      have i1 : (k : Int) < (n : Int) := by omega
      clear hC hq2 hq3 hcv1 hcv2
      generalize l[k] = y at *
      obtain ⟨yk, yd, far, sz, pg⟩ := y
      simp only at hsm
      have HTX : Hid (∀ w, Calls Tryd.prog 27 #[.string ⟨yk.toArray⟩] w fun e w' => e = .returned (.string ⟨(textB yk).toArray⟩) ∧ Below w.heap.size w w') := Lib.hid (fun w => rText_any ⟨yk.toArray⟩ w (by rw [size_list]; omega))
      have hN := fun x w => rNum_yes (u64N x) 2 w (u64N_lt x) (by decide) (by decide)
      have HNP : Hid (∀ w, Calls Tryd.prog 28 #[.int .u64 ((u64N pg : Nat) : Int), .int .i64 2] w fun e w' => e = .returned (.string ⟨(numB (u64N pg) 2).toArray⟩) ∧ Below w.heap.size w w') := Lib.hid (hN pg)
      have HNS : Hid (∀ w, Calls Tryd.prog 28 #[.int .u64 ((u64N sz : Nat) : Int), .int .i64 2] w fun e w' => e = .returned (.string ⟨(numB (u64N sz) 2).toArray⟩) ∧ Below w.heap.size w w') := Lib.hid (hN sz)
      have wp := u64N_wrap pg
      have ws := u64N_wrap sz
      have t3 : (⟨(textB yk).toArray⟩ : ByteArray).size ≤ 256 := by rw [size_list, textB_len]; have := Nat.min_le_right yk.length 255; omega
      have t4 : (⟨(numB (u64N pg) 2).toArray⟩ : ByteArray).size = 2 := by rw [size_list, numB_len]
      have t5 : (⟨(numB (u64N sz) 2).toArray⟩ : ByteArray).size = 2 := by rw [size_list, numB_len]
      have t6 : (⟨yd.toArray⟩ : ByteArray).size ≤ 300 := by rw [size_list]; omega
      cases far
      · have HE : Hid (cstV (cellE true ⟨yk, yd, false, sz, pg⟩) = .string (⟨(textB yk).toArray⟩ ++ ((⟨#[0]⟩ : ByteArray) ++ ⟨yd.toArray⟩))) := Lib.hid (by simp [cstV, cellE, putE, cst_app])
        simp only [cstV] at c0 c1 c2 c3 c4
        clear hN hsm hkl
        generalize (⟨(textB yk).toArray⟩ : ByteArray) = tb at *
        generalize (⟨(numB (u64N pg) 2).toArray⟩ : ByteArray) = np at *
        generalize (⟨(numB (u64N sz) 2).toArray⟩ : ByteArray) = ns at *
        generalize (⟨yd.toArray⟩ : ByteArray) = sd at *
        generalize (⟨yk.toArray⟩ : ByteArray) = sk at *
        obtain ⟨xp, hxp⟩ : ∃ xp, u64N pg = xp := ⟨_, rfl⟩
        rw [hxp] at wp HNP
        obtain ⟨xs, hxs⟩ : ∃ xs, u64N sz = xs := ⟨_, rfl⟩
        rw [hxs] at ws HNS
        clear hxp hxs
        obtain ⟨V, hV⟩ : ∃ V, wr.alloc (.cells #[.string sd, .bool false, .int .i64 sz, .int .i64 pg] 56) = V := ⟨_, rfl⟩
        have hv : Has V wr.heap.size 56 #[.string sd, .bool false, .int .i64 sz, .int .i64 pg] := hV ▸ Has.made wr _ _
        have HV := Lib.hid hv
        have BV := Lib.hid (show Below wr.heap.size wr V from hV ▸ (Below.refl _ wr).alloc (Nat.le_refl _) _)
        have k1 := cell_below c0 BV.out
        have k2 := cell_below f1 BV.out
        have k3 := cell_below f0 BV.out
        have XQ := Lib.hid (Q1.out.below BV.out Q1.out.lt)
        clear hv
        go_wp2_with (first
        | (go_at_call 27; (try rw [hV]); (with_reducible refine (HTX.out _).mono ?_); rintro r1 w1 ⟨rfl, b1⟩; have X1 := HV.out.below b1 HV.out.lt; have q0 := X1.cell 0; have q1 := X1.cell 1; have q2 := X1.cell 2; have q3 := X1.cell 3; have Y1 := XQ.out.below b1 XQ.out.lt; have m0 := Y1.cell 0; have B1 := Lib.hid (below_step BV.out b1); have X1 := Lib.hid X1; have Y1 := Lib.hid Y1; clear b1)
        | (at_builtin; refine wpList_append_one rfl _ _ 38 9 rfl W.heap.size 9 j0 _ 16 Tryd.underlying38 hj jz0 jz1 jz2 rfl _ k _ rfl (ceOwnBelow Q2.out B1.out) (.string (tb ++ ((⟨#[0]⟩ : ByteArray) ++ sd))) rfl rfl ?_ ?_ ?_ ?_; (omega); (unfold maxLen; omega); (exact (below_step Q3.out B1.out).size); intro v4 w4 h7 h8; have O4 := Lib.hid h7; have B4 := Lib.hid ((below_step Q3.out B1.out).trans h8); clear h7 h8))
        go_roundw
        case rel =>
          refine ⟨k + 1, by omega, by go_num, ?_, B4.out⟩
          rw [NX.out, HE.out]
          exact O4.out
        case measure => simp [intOf]; omega
      · have HE : Hid (cstV (cellE true ⟨yk, yd, true, sz, pg⟩) = .string (⟨(textB yk).toArray⟩ ++ (((⟨#[1]⟩ : ByteArray) ++ ⟨(numB (u64N sz) 2).toArray⟩) ++ ⟨(numB (u64N pg) 2).toArray⟩))) := Lib.hid (by simp [cstV, cellE, putE, cst_app])
        simp only [cstV] at c0 c1 c2 c3 c4
        clear hN hsm hkl
        generalize (⟨(textB yk).toArray⟩ : ByteArray) = tb at *
        generalize (⟨(numB (u64N pg) 2).toArray⟩ : ByteArray) = np at *
        generalize (⟨(numB (u64N sz) 2).toArray⟩ : ByteArray) = ns at *
        generalize (⟨yd.toArray⟩ : ByteArray) = sd at *
        generalize (⟨yk.toArray⟩ : ByteArray) = sk at *
        obtain ⟨xp, hxp⟩ : ∃ xp, u64N pg = xp := ⟨_, rfl⟩
        rw [hxp] at wp HNP
        obtain ⟨xs, hxs⟩ : ∃ xs, u64N sz = xs := ⟨_, rfl⟩
        rw [hxs] at ws HNS
        clear hxp hxs
        obtain ⟨V, hV⟩ : ∃ V, wr.alloc (.cells #[.string sd, .bool true, .int .i64 sz, .int .i64 pg] 56) = V := ⟨_, rfl⟩
        have hv : Has V wr.heap.size 56 #[.string sd, .bool true, .int .i64 sz, .int .i64 pg] := hV ▸ Has.made wr _ _
        have HV := Lib.hid hv
        have BV := Lib.hid (show Below wr.heap.size wr V from hV ▸ (Below.refl _ wr).alloc (Nat.le_refl _) _)
        have k1 := cell_below c0 BV.out
        have k2 := cell_below f1 BV.out
        have k3 := cell_below f0 BV.out
        have XQ := Lib.hid (Q1.out.below BV.out Q1.out.lt)
        clear hv
        go_wp2_with (go_at_call 27; (try rw [hV]); (with_reducible refine (HTX.out _).mono ?_); rintro r1 w1 ⟨rfl, b1⟩; have X1 := HV.out.below b1 HV.out.lt; have q0 := X1.cell 0; have q1 := X1.cell 1; have q2 := X1.cell 2; have q3 := X1.cell 3; have Y1 := XQ.out.below b1 XQ.out.lt; have m0 := Y1.cell 0; have B1 := Lib.hid (below_step BV.out b1); have X1 := Lib.hid X1; have Y1 := Lib.hid Y1; clear b1)
        rename_i K hK
        refine wp_heldHQ (fun w' : World => Has w' wr.heap.size 56 #[.string sd, .bool true, .int .i64 sz, .int .i64 pg]) hmx ?_
        refine wpAnyH_take (i := 0) (v := .string tb) rfl (by kernel_rfl) (by kernel_rfl) (by kernel_rfl) (fun _ _ _ h => h) (Or.inl ⟨by rfl, ?_⟩) X1.out ?_
        · intro w6 s1
          go_simp
        simp only [Act.put, List.setIfInBounds_toArray, List.set_cons_zero, List.set_cons_succ, List.getElem_toArray, List.getElem_cons_zero]
        refine wpAnyH_take (i := 1) (v := .pointer (some ⟨wr.heap.size, 2, none⟩)) rfl (by kernel_rfl) (by kernel_rfl) (by kernel_rfl) (fun _ _ _ h => h) (Or.inl ⟨by rfl, ?_⟩) X1.out ?_
        · intro w6 s1
          go_simp
        simp only [Act.put, List.setIfInBounds_toArray, List.set_cons_zero, List.set_cons_succ, List.getElem_toArray, List.getElem_cons_zero, List.getElem_cons_succ]
        refine wpAnyH_take (i := 2) (v := .int .i64 sz) rfl (by kernel_rfl) (by kernel_rfl) (by kernel_rfl) (fun _ _ _ h => h) (Or.inl ⟨by rfl, ?_⟩) X1.out ?_
        · intro w6 s1
          have d0 := s1.cell 2
          go_simp
        simp only [Act.put, List.setIfInBounds_toArray, List.set_cons_zero, List.set_cons_succ, List.getElem_toArray, List.getElem_cons_zero, List.getElem_cons_succ]
        refine wpAnyH_take (i := 3) (v := .int .u64 (xs : Int)) rfl (by kernel_rfl) (by kernel_rfl) (by kernel_rfl) (fun _ _ _ h => h) (Or.inl ⟨by rfl, ?_⟩) X1.out ?_
        · intro w6 s1
          go_simp
        simp only [Act.put, List.setIfInBounds_toArray, List.set_cons_zero, List.set_cons_succ, List.getElem_toArray, List.getElem_cons_zero, List.getElem_cons_succ]
        refine wpAnyH_take (i := 6) (v := .pointer (some ⟨wr.heap.size, 3, none⟩)) rfl (by kernel_rfl) (by kernel_rfl) (by kernel_rfl) (fun _ _ _ h => h) (Or.inl ⟨by rfl, ?_⟩) X1.out ?_
        · intro w6 s1
          go_simp
        simp only [Act.put, List.setIfInBounds_toArray, List.set_cons_zero, List.set_cons_succ, List.getElem_toArray, List.getElem_cons_zero, List.getElem_cons_succ]
        refine wpAnyH_take (i := 7) (v := .int .i64 pg) rfl (by kernel_rfl) (by kernel_rfl) (by kernel_rfl) (fun _ _ _ h => h) (Or.inl ⟨by rfl, ?_⟩) X1.out ?_
        · intro w6 s1
          have d0 := s1.cell 3
          go_simp
        simp only [Act.put, List.setIfInBounds_toArray, List.set_cons_zero, List.set_cons_succ, List.getElem_toArray, List.getElem_cons_zero, List.getElem_cons_succ]
        refine wpAnyH_take (i := 8) (v := .int .u64 (xp : Int)) rfl (by kernel_rfl) (by kernel_rfl) (by kernel_rfl) (fun _ _ _ h => h) (Or.inl ⟨by rfl, ?_⟩) X1.out ?_
        · intro w6 s1
          go_simp
        simp only [Act.put, List.setIfInBounds_toArray, List.set_cons_zero, List.set_cons_succ, List.getElem_toArray, List.getElem_cons_zero, List.getElem_cons_succ]
        refine wpAnyH_ready (rs := [4]) (by kernel_rfl) (by simp) ?_
        refine AllReadyH.cons rfl (fun K5 hK5 => ?_) AllReadyH.nil
        go_simp
        go_at_call 28
        (try rw [ws])
        (with_reducible refine (HNS.out _).mono ?_)
        rintro r2 w2 ⟨rfl, b2⟩
        have X2 := X1.out.below ((Below.refl _ _).drew.trans b2) X1.out.lt
        have B2 := below_step B1.out ((Below.refl _ w1).drew.trans b2)
        clear b2
        refine hK5.out _ _ X2 (fun _ => ?_)
        clear hK5 K5
        refine wpAnyH_take (i := 5) (v := .string ((⟨#[1]⟩ : ByteArray) ++ ns)) rfl (by kernel_rfl) (by kernel_rfl) (by kernel_rfl) (fun _ _ _ h => h) (Or.inl ⟨by rfl, ?_⟩) X2 ?_
        · intro w6 s1
          go_simp
        simp only [Act.put, List.setIfInBounds_toArray, List.set_cons_zero, List.set_cons_succ, List.getElem_toArray, List.getElem_cons_zero, List.getElem_cons_succ]
        refine wpAnyH_ready (rs := [9]) (by kernel_rfl) (by simp) ?_
        refine AllReadyH.cons rfl (fun K5 hK5 => ?_) AllReadyH.nil
        go_simp
        go_at_call 28
        (try rw [wp])
        (with_reducible refine (HNP.out _).mono ?_)
        rintro r3 w3 ⟨rfl, b3⟩
        have X3 := X2.below b3 X2.lt
        have B3 := below_step B2 b3
        clear b3
        refine hK5.out _ _ X3 (fun _ => ?_)
        clear hK5 K5
        refine wpAnyH_ready (rs := [10]) (by kernel_rfl) (by simp) ?_
        refine AllReadyH.cons rfl (fun K5 hK5 => ?_) AllReadyH.nil
        go_simp
        refine hK5.out _ _ X3 (fun _ => ?_)
        clear hK5 K5
        refine wpAnyH_ready (rs := [11]) (by kernel_rfl) (by simp) ?_
        refine AllReadyH.cons rfl (fun K5 hK5 => ?_) AllReadyH.nil
        go_simp
        rw [if_neg (by omega)]
        refine hK5.out _ _ X3 (fun _ => ?_)
        clear hK5 K5
        refine wpAnyH_ready (rs := [12]) (by kernel_rfl) (by simp) ?_
        refine AllReadyH.cons rfl (fun K5 hK5 => ?_) AllReadyH.nil
        go_simp
        refine hK5.out _ _ X3 (fun _ => ?_)
        clear hK5 K5
        refine wpAnyH_done (by kernel_rfl) ?_ _
        refine hK _ _ ?_
        have B3 := Lib.hid B3
        clear X2 X3
        go_wp2_with (at_builtin; refine wpList_append_one rfl _ _ 38 9 rfl W.heap.size 9 j0 _ 16 Tryd.underlying38 hj jz0 jz1 jz2 rfl _ k _ rfl (ceOwnBelow Q2.out B3.out) (.string (tb ++ (((⟨#[1]⟩ : ByteArray) ++ ns) ++ np))) rfl rfl ?_ ?_ ?_ ?_; (omega); (unfold maxLen; omega); (exact (below_step Q3.out B3.out).size); intro v4 w4 h7 h8; have O4 := Lib.hid h7; have B4 := Lib.hid ((below_step Q3.out B3.out).trans h8); clear h7 h8)
        go_roundw
        case rel =>
          refine ⟨k + 1, by omega, by go_num, ?_, B4.out⟩
          rw [NX.out, HE.out]
          exact O4.out
        case measure => simp [intOf]; omega
    · obtain rfl : k = n := by omega
      obtain ⟨w3, hw3⟩ : ∃ w3 : World, w3 = wr := ⟨_, rfl⟩
      subst hw3
      have HQ := Q2.out
      have hkl : k = (cellsE true l).length := by rw [cellsE, List.length_map]; exact HL.out
      rw [List.take_of_length_le (Nat.le_of_eq hkl.symm)] at HQ
      obtain ⟨A2, c2, hv, _, hT⟩ := TxtA.of_own HQ
      injection hv with e1 e2 e3
      subst e1 e3
      have HT := Lib.hid hT
      have HKL := Lib.hid hkl
      clear HQ hT hkl hq2 hq3
      go_wp2
      go_ret
      exact ⟨Av, cv, by rw [← HKL.out]; rfl, by rw [← HKL.out]; exact HT.out, below_step HB.out Q3.out⟩

theorem r8Cells_any (leaf : Bool) (A : Option Addr) (n c : Nat) (l : List En) (w : World) (h : NodA w A n c l) (hf : FewN l) :
    Calls Tryd.prog 16 #[.agg #[.bool leaf, .slice A n c]] w (TxtEnd w (cellsE leaf l)) := by
  cases leaf
  · exact r8Cells_false A n c l w h hf
  · exact r8Cells_true A n c l w h hf

end Go.Proofs.YtnponjdnjkegmaaDoor
