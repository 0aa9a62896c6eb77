import Derived.Test.YtnponjdnjkegmaaDoorJNes
/- Of a claim's texts, joined: Neu. No statement but in the last. -/
namespace Go.Proofs.YtnponjdnjkegmaaDoor
open Go.RowKit
set_option linter.unusedVariables false

theorem getD_at {l : List En} {k : Nat} (h : k < l.length) : l.getD k en0 = l[k] := by rw [List.getD_eq_getElem?_getD, List.getElem?_eq_getElem h]; rfl
theorem key_first {l : List En} (h : 0 < l.length) : keyAt false l 0 ↔ l[0].k = [] := by
  unfold keyAt
  rw [if_pos ⟨rfl, rfl⟩, getD_at h]
theorem key_leaf0 {l : List En} (h : 0 < l.length) : keyAt true l 0 ↔ l[0].k ≠ [] ∧ l[0].k.length ≤ 16 := by
  unfold keyAt riseAt aheadK
  rw [if_neg (by simp), if_pos rfl, getD_at h]
  constructor
  · rintro ⟨h1, h2⟩
    refine ⟨fun e => ?_, h2⟩
    rw [e] at h1
    cases h1
  · rintro ⟨h1, h2⟩
    refine ⟨?_, h2⟩
    cases hk : l[0].k with
    | nil => exact absurd hk h1
    | cons a r => rfl
theorem key_more {leaf : Bool} {l : List En} {k m : Nat} (h : k < l.length) (hm : k = m + 1) : keyAt leaf l k ↔ l[k].k ≠ [] ∧ l[k].k.length ≤ 16 ∧ Op.bytesLess l[k].k (l[m]'(by omega)).k = false ∧ (l[k].k == (l[m]'(by omega)).k) = false := by
  subst hm
  unfold keyAt riseAt aheadK
  rw [if_neg (by omega), if_neg (by omega), getD_at h, Nat.add_sub_cancel, getD_at (by omega)]
  unfold leK
  rw [Bool.or_eq_false_iff]
  constructor
  · rintro ⟨⟨h1, h2⟩, h3⟩
    refine ⟨fun e => ?_, h3, h1, h2⟩
    have := leK_nil (l[m]'(by omega)).k
    unfold leK at this
    rw [← e, h1, h2] at this
    cases this
  · rintro ⟨h1, h2, h3, h4⟩
    exact ⟨⟨h3, h4⟩, h2⟩
theorem check_end {leaf : Bool} {l : List En} (hj : ∀ j (h : j < l.length), keyAt leaf l j ∧ okV leaf l[j]) : checkN leaf l ↔ cSz (cellsE leaf l) ≤ 122 ∧ leastN leaf ≤ l.length := by
  constructor
  · rintro ⟨⟨h1, _, _⟩, h2⟩; exact ⟨h2, h1⟩
  · rintro ⟨h2, h1⟩
    refine ⟨⟨h1, fun i hi => (hj i hi).1, fun e he => ?_⟩, h2⟩
    obtain ⟨i, hi, rfl⟩ := List.getElem_of_mem he
    exact (hj i hi).2

set_option maxRecDepth 100000 in
set_option maxHeartbeats 16000000 in
theorem r8Check_true (A : Option Addr) (n c : Nat) (l : List En) (w : World) (h : NodA w A n c l) (hf : FewN l) :
    Calls Tryd.prog 18 #[.agg #[.bool true, .slice A n c]] w fun e w' => e = .returned (.bool (decide (checkN true l))) ∧ Below w.heap.size w w' := by
  have hzv := zero_rv
  have HL := Lib.hid h.len
  have HF := Lib.hid hf
  have hn : n ≤ 1000 := by rw [h.len]; exact hf.1
  obtain ⟨W, hW⟩ : ∃ W, w.alloc (.cells #[.bool true, .slice A n c] 29) = W := ⟨_, rfl⟩
  have BW : Below w.heap.size w W := hW ▸ (Below.refl _ w).alloc (Nat.le_refl _) _
  have hX : Has W w.heap.size 29 #[.bool true, .slice A n c] := hW ▸ Has.made w _ _
  have e0 := hX.cell 0
  have e1 := hX.cell 1
  have HX := Lib.hid hX
  have HB := Lib.hid BW
  have HA := Lib.hid h
  have hcs : cSz (cellsE true l) ≤ 1001000 := by
    have := cSz_few (cellsE true l) 1000 600 (by rw [cellsE, List.length_map]; exact hf.1) (fun c hc => by
      obtain ⟨e, he, rfl⟩ := List.mem_map.1 hc
      exact cellE_few true e (hf.2 e he).2)
    omega
  have HCE := Lib.hid (fun w1 (hb : Below w.heap.size w w1) => r8Cells_true A n c l w1 (h.below hb) hf)
  have HSZ := Lib.hid (fun A c w1 (hb : TxtA w1 A (cellsE true l).length (cellsE true l)) => r7Size_any A _ c (cellsE true l) w1 hb hcs)
  clear h hf BW hX
  go_enter Tryd.func18, Tryd.ntmps18
  go_wp2
  try rw [hW]
  go_loopw [3] (fun i wr => ∃ k : Nat, k ≤ n ∧ i = .int .i64 k ∧ (∀ j (h : j < l.length), j < k → keyAt true l j ∧ okV true l[j]) ∧ Below W.heap.size W wr) (fun i _ => n - (intOf i).toNat)
  case atStart => exact ⟨0, Nat.zero_le _, rfl, fun j _ h => absurd h (by omega), Below.refl _ _⟩
  case round =>
    obtain ⟨k, hk, rfl, hq2, hq3⟩ := hrel
    have Q2 := Lib.hid hq2
    have Q3 := Lib.hid hq3
    have Q1 := Lib.hid (HX.out.below hq3 HX.out.lt)
    have f0 := Q1.out.cell 0
    have f1 := Q1.out.cell 1
    by_cases hlt : k < n
    · have hkl : k < l.length := by rw [← HL.out]; exact hlt
      have hC := HA.out.below (below_step HB.out Q3.out)
      obtain ⟨g, off, rfl, c0, c1, c2, c3, c4⟩ := hC.reads.eat hkl
      have hst := hC.strs _ (List.getElem_mem hkl)
      have i0 : (0 : Int) ≤ (k : Int) := by omega
      have i1 : (k : Int) < (n : Int) := by omega
      have NO1 : Hid (¬ keyAt true l k → decide (checkN true l) = false) := Lib.hid (fun h => decide_eq_false (fun hh => h (hh.1.2.1 k hkl)))
      have NOV : Hid (¬ okV true l[k] → decide (checkN true l) = false) := Lib.hid (fun h => decide_eq_false (fun hh => h (hh.1.2.2 _ (List.getElem_mem hkl))))
      have YES0 : Hid (keyAt true l k → okV true l[k] → ∀ j (h : j < l.length), j < k + 1 → keyAt true l j ∧ okV true l[j]) := Lib.hid (fun h1 h2 j h hj => by
        by_cases e : j = k
        · subst e; exact ⟨h1, h2⟩
        · exact Q2.out j h (by omega))
      have HFI := Lib.hid (fun w => r8Fine_any l[k] w hst.2)
      clear hq2 hq3
      rcases Nat.eq_zero_or_pos k with rfl | hk1
      · have HKEY := Lib.hid (key_leaf0 hkl)
        generalize hy : l[0] = y at *
        obtain ⟨yk, yd, far, sz, pg⟩ := y
        simp only [valV, cstV] at c0 c1 c2 c3 c4 HFI
        simp only at hst HKEY
        have z0 : (⟨yk.toArray⟩ : ByteArray).size = yk.length := size_list yk
        have l0 : (⟨yk.toArray⟩ : ByteArray).toList = yk := by rw [ByteArray.toList_eq]
        have l1 : (⟨yd.toArray⟩ : ByteArray).toList = yd := by rw [ByteArray.toList_eq]
        have HSD : Hid (yd = [] → (⟨yd.toArray⟩ : ByteArray).toList = []) := Lib.hid (fun h => by rw [l1]; exact h)
        have HSD2 : Hid (((⟨yd.toArray⟩ : ByteArray).toList == []) = true → yd = []) := Lib.hid (fun h => by rw [l1] at h; simpa using h)
        clear l1
        generalize (⟨yd.toArray⟩ : ByteArray) = sd at *
        generalize (⟨yk.toArray⟩ : ByteArray) = sk at *
        unfold maxLen at hst
        rw [← z0] at hst HKEY
        obtain ⟨q, hq⟩ : ∃ q : Bool, (sk.toList == []) = q := ⟨_, rfl⟩
        have hq0 : q = true ↔ yk = [] := by rw [← hq, l0]; simp
        rw [show (yk ≠ []) = (q ≠ true) from by rw [ne_eq, ne_eq, ← hq0]] at HKEY
        simp only [Nat.zero_mul, Nat.add_zero] at c0 c1 c2 c3 c4
        clear hC hq0 l0
        obtain ⟨V, hV⟩ : ∃ V, wr.alloc (.cells #[.string sd, .bool far, .int .i64 sz, .int .i64 pg] 56) = V := ⟨_, rfl⟩
        have HV := Lib.hid (show Has V wr.heap.size 56 #[.string sd, .bool far, .int .i64 sz, .int .i64 pg] from hV ▸ Has.made wr _ _)
        have BV := Lib.hid (show Below wr.heap.size wr V from hV ▸ (Below.refl _ wr).alloc (Nat.le_refl _) _)
        have B5 := Lib.hid (below_step HB.out (below_step Q3.out BV.out))
        have XV := Lib.hid (Q1.out.below BV.out Q1.out.lt)
        have v0 := HV.out.cell 0
        have v1 := HV.out.cell 1
        have v2 := HV.out.cell 2
        have v3 := HV.out.cell 3
        have x0 := XV.out.cell 0
        have x1 := XV.out.cell 1
        cases q
        · by_cases h16 : sk.size ≤ 16
          · have YES := Lib.hid (YES0.out (HKEY.out.2 ⟨by decide, h16⟩))
            have e16 : ¬ (16 : Int) < (sk.size : Int) := by omega
            clear NO1 YES0 HKEY h16
            cases hv : leafB ⟨yk, yd, far, sz, pg⟩
            · have HNO : Hid (decide (checkN true l) = false) := Lib.hid (NOV.out (fun h => by rw [(valB_leaf _).2 h] at hv; cases hv))
              rw [hv] at HFI
              clear hv NOV YES HF
              go_wp2_with (go_at_call 30; (try rw [hV]); (with_reducible refine (HFI.out _).mono ?_); rintro r1 w1 ⟨rfl, b1⟩; have X1 := XV.out.below b1 XV.out.lt; have q0 := X1.cell 0; have Y1 := HV.out.below b1 HV.out.lt; have y0 := Y1.cell 0; have y1 := Y1.cell 1; have y2 := Y1.cell 2; have y3 := Y1.cell 3; have B6 := Lib.hid (below_step (below_step HB.out (below_step Q3.out BV.out)) b1); have B7 := Lib.hid (below_step (below_step Q3.out BV.out) b1); clear b1 X1 Y1)
              go_ret
              exact ⟨by rw [HNO.out]; rfl, B6.out⟩
            · have HYES := Lib.hid (YES.out ((valB_leaf _).1 hv))
              rw [hv] at HFI
              clear hv NOV YES
              go_wp2_with (go_at_call 30; (try rw [hV]); (with_reducible refine (HFI.out _).mono ?_); rintro r1 w1 ⟨rfl, b1⟩; have X1 := XV.out.below b1 XV.out.lt; have q0 := X1.cell 0; have Y1 := HV.out.below b1 HV.out.lt; have y0 := Y1.cell 0; have y1 := Y1.cell 1; have y2 := Y1.cell 2; have y3 := Y1.cell 3; have B6 := Lib.hid (below_step (below_step HB.out (below_step Q3.out BV.out)) b1); have B7 := Lib.hid (below_step (below_step Q3.out BV.out) b1); clear b1 X1 Y1)
              go_roundw
              case rel => exact ⟨1, by omega, by go_num, HYES.out, B7.out⟩
              case measure => simp [intOf]; omega
          · have e16 : (16 : Int) < (sk.size : Int) := by omega
            have HNO : Hid (decide (checkN true l) = false) := Lib.hid (NO1.out (fun h => by have h := HKEY.out.1 h; exact h16 h.2))
            clear NO1 NOV YES0 HFI HF HSD HSD2
            go_wp2
            try rw [hV]
            go_ret
            exact ⟨by rw [HNO.out]; rfl, B5.out⟩
        · have HNO : Hid (decide (checkN true l) = false) := Lib.hid (NO1.out (fun h => by have h := HKEY.out.1 h; exact h.1 rfl))
          clear NO1 NOV YES0 HFI HF HSD HSD2
          go_wp2
          try rw [hV]
          go_ret
          exact ⟨by rw [HNO.out]; rfl, B5.out⟩
      · obtain ⟨m, hm⟩ : ∃ m, k = m + 1 := ⟨k - 1, by omega⟩
        have HKEY := Lib.hid (key_more (leaf := true) hkl hm)
        obtain ⟨g', off', hgo, p0, p1, p2, p3, p4⟩ := hC.reads.eat (i := m) (by omega)
        injection hgo with hgo
        injection hgo with g1 g2 _
        subst g1 g2
        have hmk : (k : Int) - 1 = (m : Int) := by omega
        have hk0 : ((k : Int) == 0) = false := beq_false_of_ne (by omega)
        have hkp : (0 : Int) < (k : Int) := by omega
        have m0 : (0 : Int) ≤ (m : Int) := by omega
        have m1 : (m : Int) < (n : Int) := by omega
        clear p1 p2 p3 p4
        generalize (l[m]'(by omega)).k = pk at *
        simp only [cstV] at p0
        have l2 : (⟨pk.toArray⟩ : ByteArray).toList = pk := by rw [ByteArray.toList_eq]
        generalize hy : l[k] = y at *
        obtain ⟨yk, yd, far, sz, pg⟩ := y
        simp only [valV, cstV] at c0 c1 c2 c3 c4 HFI
        simp only at hst HKEY
        have z0 : (⟨yk.toArray⟩ : ByteArray).size = yk.length := size_list yk
        have l0 : (⟨yk.toArray⟩ : ByteArray).toList = yk := by rw [ByteArray.toList_eq]
        have l1 : (⟨yd.toArray⟩ : ByteArray).toList = yd := by rw [ByteArray.toList_eq]
        have HSD : Hid (yd = [] → (⟨yd.toArray⟩ : ByteArray).toList = []) := Lib.hid (fun h => by rw [l1]; exact h)
        have HSD2 : Hid (((⟨yd.toArray⟩ : ByteArray).toList == []) = true → yd = []) := Lib.hid (fun h => by rw [l1] at h; simpa using h)
        clear l1
        generalize (⟨pk.toArray⟩ : ByteArray) = sp at *
        generalize (⟨yd.toArray⟩ : ByteArray) = sd at *
        generalize (⟨yk.toArray⟩ : ByteArray) = sk at *
        unfold maxLen at hst
        rw [← z0] at hst HKEY
        obtain ⟨q, hq⟩ : ∃ q : Bool, (sk.toList == []) = q := ⟨_, rfl⟩
        have hq0 : q = true ↔ yk = [] := by rw [← hq, l0]; simp
        rw [← l2] at HKEY
        rw [show (yk ≠ []) = (q ≠ true) from by rw [ne_eq, ne_eq, ← hq0], show Op.bytesLess yk sp.toList = Op.bytesLess sk.toList sp.toList by rw [l0], show (yk == sp.toList) = (sk.toList == sp.toList) by rw [l0]] at HKEY
        have HM := Lib.hid hm
        clear hC hq0 l0 l2 hm
        obtain ⟨a0, ha0⟩ : ∃ a0, Op.bytesLess sk.toList sp.toList = a0 := ⟨_, rfl⟩
        obtain ⟨b0, hb0⟩ : ∃ b0, (sk.toList == sp.toList) = b0 := ⟨_, rfl⟩
        rw [ha0, hb0] at HKEY
        obtain ⟨V, hV⟩ : ∃ V, wr.alloc (.cells #[.string sd, .bool far, .int .i64 sz, .int .i64 pg] 56) = V := ⟨_, rfl⟩
        have HV := Lib.hid (show Has V wr.heap.size 56 #[.string sd, .bool far, .int .i64 sz, .int .i64 pg] from hV ▸ Has.made wr _ _)
        have BV := Lib.hid (show Below wr.heap.size wr V from hV ▸ (Below.refl _ wr).alloc (Nat.le_refl _) _)
        have B5 := Lib.hid (below_step HB.out (below_step Q3.out BV.out))
        have XV := Lib.hid (Q1.out.below BV.out Q1.out.lt)
        have v0 := HV.out.cell 0
        have v1 := HV.out.cell 1
        have v2 := HV.out.cell 2
        have v3 := HV.out.cell 3
        have x0 := XV.out.cell 0
        have x1 := XV.out.cell 1
        have p0v := cell_below p0 BV.out
        cases q
        · by_cases h16 : sk.size ≤ 16
          · have e16 : ¬ (16 : Int) < (sk.size : Int) := by omega
            cases a0
            · cases b0
              · have YES := Lib.hid (YES0.out (HKEY.out.2 ⟨by decide, h16, rfl, rfl⟩))
                clear NO1 YES0 HKEY h16
                cases hv : leafB ⟨yk, yd, far, sz, pg⟩
                · have HNO : Hid (decide (checkN true l) = false) := Lib.hid (NOV.out (fun h => by rw [(valB_leaf _).2 h] at hv; cases hv))
                  rw [hv] at HFI
                  clear hv NOV YES HF
                  go_wp2_with (go_at_call 30; (try rw [hV]); (with_reducible refine (HFI.out _).mono ?_); rintro r1 w1 ⟨rfl, b1⟩; have X1 := XV.out.below b1 XV.out.lt; have q0 := X1.cell 0; have Y1 := HV.out.below b1 HV.out.lt; have y0 := Y1.cell 0; have y1 := Y1.cell 1; have y2 := Y1.cell 2; have y3 := Y1.cell 3; have B6 := Lib.hid (below_step (below_step HB.out (below_step Q3.out BV.out)) b1); have B7 := Lib.hid (below_step (below_step Q3.out BV.out) b1); clear b1 X1 Y1)
                  go_ret
                  exact ⟨by rw [HNO.out]; rfl, B6.out⟩
                · have HYES := Lib.hid (YES.out ((valB_leaf _).1 hv))
                  rw [hv] at HFI
                  clear hv NOV YES
                  go_wp2_with (go_at_call 30; (try rw [hV]); (with_reducible refine (HFI.out _).mono ?_); rintro r1 w1 ⟨rfl, b1⟩; have X1 := XV.out.below b1 XV.out.lt; have q0 := X1.cell 0; have Y1 := HV.out.below b1 HV.out.lt; have y0 := Y1.cell 0; have y1 := Y1.cell 1; have y2 := Y1.cell 2; have y3 := Y1.cell 3; have B6 := Lib.hid (below_step (below_step HB.out (below_step Q3.out BV.out)) b1); have B7 := Lib.hid (below_step (below_step Q3.out BV.out) b1); clear b1 X1 Y1)
                  go_roundw
                  case rel => exact ⟨k + 1, by omega, by go_num, HYES.out, B7.out⟩
                  case measure => simp [intOf]; omega
              · have HNO : Hid (decide (checkN true l) = false) := Lib.hid (NO1.out (fun h => by have h := HKEY.out.1 h; cases h.2.2.2))
                clear NO1 NOV YES0 HFI HF HSD HSD2
                go_wp2
                try rw [hV]
                go_ret
                exact ⟨by rw [HNO.out]; rfl, B5.out⟩
            · cases b0
              all_goals
                have HNO : Hid (decide (checkN true l) = false) := Lib.hid (NO1.out (fun h => by have h := HKEY.out.1 h; cases h.2.2.1))
                clear NO1 NOV YES0 HFI HF HSD HSD2
                go_wp2
                try rw [hV]
                go_ret
                exact ⟨by rw [HNO.out]; rfl, B5.out⟩
          · have e16 : (16 : Int) < (sk.size : Int) := by omega
            have HNO : Hid (decide (checkN true l) = false) := Lib.hid (NO1.out (fun h => by have h := HKEY.out.1 h; exact h16 h.2.1))
            clear NO1 NOV YES0 HFI HF HSD HSD2
            go_wp2
            try rw [hV]
            go_ret
            exact ⟨by rw [HNO.out]; rfl, B5.out⟩
        · have HNO : Hid (decide (checkN true l) = false) := Lib.hid (NO1.out (fun h => by have h := HKEY.out.1 h; exact h.1 rfl))
          clear NO1 NOV YES0 HFI HF HSD HSD2
          go_wp2
          try rw [hV]
          go_ret
          exact ⟨by rw [HNO.out]; rfl, B5.out⟩
    · obtain rfl : k = n := by omega
      have HE := Lib.hid (check_end (leaf := true) (l := l) (fun j h => hq2 j h (by rw [HL.out]; exact h)))
      obtain ⟨w3, hw3⟩ : ∃ w3 : World, w3 = wr := ⟨_, rfl⟩
      subst hw3
      clear hq2 hq3 Q2
      obtain ⟨z, hz⟩ : ∃ z, cSz (cellsE true l) = z := ⟨_, rfl⟩
      rw [hz] at HE HSZ hcs
      clear hz
      by_cases z1 : (z : Int) ≤ 122
      · by_cases n1 : (1 : Int) < (k : Int)
        · have HD : Hid (decide (checkN true l) = true) := Lib.hid (by
            have hh := HE.out
            have hl := HL.out
            have hln : leastN true = 1 := rfl
            rw [hln] at hh
            first
              | exact decide_eq_true (hh.2 ⟨by omega, by omega⟩)
              | exact decide_eq_false (fun hc => by have h3 := (hh.1 hc).2; have h4 := (hh.1 hc).1; omega))
          clear HE hcs HF
          go_wp2_with (first
            | (go_at_call 16; (with_reducible refine (HCE.out _ (below_step HB.out Q3.out)).mono ?_); rintro r1 w1 ⟨A1, c1, rfl, t1, b1⟩; have X1 := Q1.out.below b1 Q1.out.lt; have x0 := X1.cell 0; have x1 := X1.cell 1; have T1 := Lib.hid t1; have B1 := Lib.hid (below_step (below_step HB.out Q3.out) b1); clear t1 b1 X1)
            | (go_at_call 31; (with_reducible refine (HSZ.out _ _ _ T1.out).mono ?_); rintro r2 w2 ⟨rfl, rfl⟩))
          go_ret
          exact ⟨by rw [HD.out]; first | rfl | exact ret_bool (by first | (simp; done) | (simp; omega)), B1.out⟩
        · rcases Nat.eq_zero_or_pos k with rfl | hk1
          · have HD : Hid (decide (checkN true l) = false) := Lib.hid (by
              have hh := HE.out
              have hl := HL.out
              have hln : leastN true = 1 := rfl
              rw [hln] at hh
              first
                | exact decide_eq_true (hh.2 ⟨by omega, by omega⟩)
                | exact decide_eq_false (fun hc => by have h3 := (hh.1 hc).2; have h4 := (hh.1 hc).1; omega))
            clear HE hcs HF
            go_wp2_with (first
              | (go_at_call 16; (with_reducible refine (HCE.out _ (below_step HB.out Q3.out)).mono ?_); rintro r1 w1 ⟨A1, c1, rfl, t1, b1⟩; have X1 := Q1.out.below b1 Q1.out.lt; have x0 := X1.cell 0; have x1 := X1.cell 1; have T1 := Lib.hid t1; have B1 := Lib.hid (below_step (below_step HB.out Q3.out) b1); clear t1 b1 X1)
              | (go_at_call 31; (with_reducible refine (HSZ.out _ _ _ T1.out).mono ?_); rintro r2 w2 ⟨rfl, rfl⟩))
            go_ret
            exact ⟨by rw [HD.out]; first | rfl | exact ret_bool (by first | (simp; done) | (simp; omega)), B1.out⟩
          · obtain rfl : k = 1 := by omega
            have HD : Hid (decide (checkN true l) = true) := Lib.hid (by
              have hh := HE.out
              have hl := HL.out
              have hln : leastN true = 1 := rfl
              rw [hln] at hh
              first
                | exact decide_eq_true (hh.2 ⟨by omega, by omega⟩)
                | exact decide_eq_false (fun hc => by have h3 := (hh.1 hc).2; have h4 := (hh.1 hc).1; omega))
            clear HE hcs HF
            go_wp2_with (first
              | (go_at_call 16; (with_reducible refine (HCE.out _ (below_step HB.out Q3.out)).mono ?_); rintro r1 w1 ⟨A1, c1, rfl, t1, b1⟩; have X1 := Q1.out.below b1 Q1.out.lt; have x0 := X1.cell 0; have x1 := X1.cell 1; have T1 := Lib.hid t1; have B1 := Lib.hid (below_step (below_step HB.out Q3.out) b1); clear t1 b1 X1)
              | (go_at_call 31; (with_reducible refine (HSZ.out _ _ _ T1.out).mono ?_); rintro r2 w2 ⟨rfl, rfl⟩))
            go_ret
            exact ⟨by rw [HD.out]; first | rfl | exact ret_bool (by first | (simp; done) | (simp; omega)), B1.out⟩
      · have HD : Hid (decide (checkN true l) = false) := Lib.hid (by
          have hh := HE.out
          have hl := HL.out
          have hln : leastN true = 1 := rfl
          rw [hln] at hh
          first
            | exact decide_eq_true (hh.2 ⟨by omega, by omega⟩)
            | exact decide_eq_false (fun hc => by have h3 := (hh.1 hc).2; have h4 := (hh.1 hc).1; omega))
        clear HE hcs HF
        go_wp2_with (first
          | (go_at_call 16; (with_reducible refine (HCE.out _ (below_step HB.out Q3.out)).mono ?_); rintro r1 w1 ⟨A1, c1, rfl, t1, b1⟩; have X1 := Q1.out.below b1 Q1.out.lt; have x0 := X1.cell 0; have x1 := X1.cell 1; have T1 := Lib.hid t1; have B1 := Lib.hid (below_step (below_step HB.out Q3.out) b1); clear t1 b1 X1)
          | (go_at_call 31; (with_reducible refine (HSZ.out _ _ _ T1.out).mono ?_); rintro r2 w2 ⟨rfl, rfl⟩))
        go_ret
        exact ⟨by rw [HD.out]; first | rfl | exact ret_bool (by first | (simp; done) | (simp; omega)), B1.out⟩

set_option maxRecDepth 100000 in
set_option maxHeartbeats 16000000 in
theorem r8Check_false (A : Option Addr) (n c : Nat) (l : List En) (w : World) (h : NodA w A n c l) (hf : FewN l) :
    Calls Tryd.prog 18 #[.agg #[.bool false, .slice A n c]] w fun e w' => e = .returned (.bool (decide (checkN false l))) ∧ Below w.heap.size w w' := by
  have hzv := zero_rv
  have HL := Lib.hid h.len
  have HF := Lib.hid hf
  have hn : n ≤ 1000 := by rw [h.len]; exact hf.1
  obtain ⟨W, hW⟩ : ∃ W, w.alloc (.cells #[.bool false, .slice A n c] 29) = W := ⟨_, rfl⟩
  have BW : Below w.heap.size w W := hW ▸ (Below.refl _ w).alloc (Nat.le_refl _) _
  have hX : Has W w.heap.size 29 #[.bool false, .slice A n c] := hW ▸ Has.made w _ _
  have e0 := hX.cell 0
  have e1 := hX.cell 1
  have HX := Lib.hid hX
  have HB := Lib.hid BW
  have HA := Lib.hid h
  have hcs : cSz (cellsE false l) ≤ 1001000 := by
    have := cSz_few (cellsE false l) 1000 600 (by rw [cellsE, List.length_map]; exact hf.1) (fun c hc => by
      obtain ⟨e, he, rfl⟩ := List.mem_map.1 hc
      exact cellE_few false e (hf.2 e he).2)
    omega
  have HCE := Lib.hid (fun w1 (hb : Below w.heap.size w w1) => r8Cells_false A n c l w1 (h.below hb) hf)
  have HSZ := Lib.hid (fun A c w1 (hb : TxtA w1 A (cellsE false l).length (cellsE false l)) => r7Size_any A _ c (cellsE false l) w1 hb hcs)
  clear h hf BW hX
  go_enter Tryd.func18, Tryd.ntmps18
  go_wp2
  try rw [hW]
  go_loopw [3] (fun i wr => ∃ k : Nat, k ≤ n ∧ i = .int .i64 k ∧ (∀ j (h : j < l.length), j < k → keyAt false l j ∧ okV false l[j]) ∧ Below W.heap.size W wr) (fun i _ => n - (intOf i).toNat)
  case atStart => exact ⟨0, Nat.zero_le _, rfl, fun j _ h => absurd h (by omega), Below.refl _ _⟩
  case round =>
    obtain ⟨k, hk, rfl, hq2, hq3⟩ := hrel
    have Q2 := Lib.hid hq2
    have Q3 := Lib.hid hq3
    have Q1 := Lib.hid (HX.out.below hq3 HX.out.lt)
    have f0 := Q1.out.cell 0
    have f1 := Q1.out.cell 1
    by_cases hlt : k < n
    · have hkl : k < l.length := by rw [← HL.out]; exact hlt
      have hC := HA.out.below (below_step HB.out Q3.out)
      obtain ⟨g, off, rfl, c0, c1, c2, c3, c4⟩ := hC.reads.eat hkl
      have hst := hC.strs _ (List.getElem_mem hkl)
      have i0 : (0 : Int) ≤ (k : Int) := by omega
      have i1 : (k : Int) < (n : Int) := by omega
      have NO1 : Hid (¬ keyAt false l k → decide (checkN false l) = false) := Lib.hid (fun h => decide_eq_false (fun hh => h (hh.1.2.1 k hkl)))
      have NOV : Hid (¬ okV false l[k] → decide (checkN false l) = false) := Lib.hid (fun h => decide_eq_false (fun hh => h (hh.1.2.2 _ (List.getElem_mem hkl))))
      have YES0 : Hid (keyAt false l k → okV false l[k] → ∀ j (h : j < l.length), j < k + 1 → keyAt false l j ∧ okV false l[j]) := Lib.hid (fun h1 h2 j h hj => by
        by_cases e : j = k
        · subst e; exact ⟨h1, h2⟩
        · exact Q2.out j h (by omega))
      have HFI := Lib.hid (fun w => r8Fine_any l[k] w hst.2)
      clear hq2 hq3
      rcases Nat.eq_zero_or_pos k with rfl | hk1
      · have HKEY := Lib.hid (key_first hkl)
        generalize hy : l[0] = y at *
        obtain ⟨yk, yd, far, sz, pg⟩ := y
        simp only [valV, cstV] at c0 c1 c2 c3 c4 HFI
        simp only at hst HKEY
        have z0 : (⟨yk.toArray⟩ : ByteArray).size = yk.length := size_list yk
        have l0 : (⟨yk.toArray⟩ : ByteArray).toList = yk := by rw [ByteArray.toList_eq]
        have l1 : (⟨yd.toArray⟩ : ByteArray).toList = yd := by rw [ByteArray.toList_eq]
        have HSD : Hid (yd = [] → (⟨yd.toArray⟩ : ByteArray).toList = []) := Lib.hid (fun h => by rw [l1]; exact h)
        have HSD2 : Hid (((⟨yd.toArray⟩ : ByteArray).toList == []) = true → yd = []) := Lib.hid (fun h => by rw [l1] at h; simpa using h)
        clear l1
        generalize (⟨yd.toArray⟩ : ByteArray) = sd at *
        generalize (⟨yk.toArray⟩ : ByteArray) = sk at *
        unfold maxLen at hst
        rw [← z0] at hst
        obtain ⟨q, hq⟩ : ∃ q : Bool, (sk.toList == []) = q := ⟨_, rfl⟩
        have hq0 : q = true ↔ yk = [] := by rw [← hq, l0]; simp
        rw [← hq0] at HKEY
        simp only [Nat.zero_mul, Nat.add_zero] at c0 c1 c2 c3 c4
        clear hC hq0 l0
        obtain ⟨V, hV⟩ : ∃ V, wr.alloc (.cells #[.string sd, .bool far, .int .i64 sz, .int .i64 pg] 56) = V := ⟨_, rfl⟩
        have HV := Lib.hid (show Has V wr.heap.size 56 #[.string sd, .bool far, .int .i64 sz, .int .i64 pg] from hV ▸ Has.made wr _ _)
        have BV := Lib.hid (show Below wr.heap.size wr V from hV ▸ (Below.refl _ wr).alloc (Nat.le_refl _) _)
        have B5 := Lib.hid (below_step HB.out (below_step Q3.out BV.out))
        have XV := Lib.hid (Q1.out.below BV.out Q1.out.lt)
        have v0 := HV.out.cell 0
        have v1 := HV.out.cell 1
        have v2 := HV.out.cell 2
        have v3 := HV.out.cell 3
        have x0 := XV.out.cell 0
        have x1 := XV.out.cell 1
        cases q
        · have HNO : Hid (decide (checkN false l) = false) := Lib.hid (NO1.out (fun h => by have h := HKEY.out.1 h; cases h))
          clear NO1 NOV YES0 HFI HF HSD HSD2
          go_wp2
          try rw [hV]
          go_ret
          exact ⟨by rw [HNO.out]; rfl, B5.out⟩
        · have YES := Lib.hid (YES0.out (HKEY.out.2 rfl))
          clear NO1 YES0 HKEY
          generalize leafB ⟨yk, yd, far, sz, pg⟩ = ff at *
          by_cases p1 : pg < 2
          · have HNO : Hid (decide (checkN false l) = false) := Lib.hid (NOV.out (fun h => by obtain ⟨h1, h2, h3, h4, h5⟩ := h; simp only at h4; omega))
            clear NOV YES HF
            cases ff
            all_goals
              go_wp2_with (go_at_call 30; (try rw [hV]); (with_reducible refine (HFI.out _).mono ?_); rintro r1 w1 ⟨rfl, b1⟩; have X1 := XV.out.below b1 XV.out.lt; have q0 := X1.cell 0; have Y1 := HV.out.below b1 HV.out.lt; have y0 := Y1.cell 0; have y1 := Y1.cell 1; have y2 := Y1.cell 2; have y3 := Y1.cell 3; have B6 := Lib.hid (below_step (below_step HB.out (below_step Q3.out BV.out)) b1); have B7 := Lib.hid (below_step (below_step Q3.out BV.out) b1); clear b1 X1 Y1)
              go_ret
              exact ⟨by rw [HNO.out]; rfl, B6.out⟩
          · by_cases p2 : 999 < pg
            · have HNO : Hid (decide (checkN false l) = false) := Lib.hid (NOV.out (fun h => by obtain ⟨h1, h2, h3, h4, h5⟩ := h; simp only at h5; omega))
              clear NOV YES HF
              cases ff
              all_goals
                go_wp2_with (go_at_call 30; (try rw [hV]); (with_reducible refine (HFI.out _).mono ?_); rintro r1 w1 ⟨rfl, b1⟩; have X1 := XV.out.below b1 XV.out.lt; have q0 := X1.cell 0; have Y1 := HV.out.below b1 HV.out.lt; have y0 := Y1.cell 0; have y1 := Y1.cell 1; have y2 := Y1.cell 2; have y3 := Y1.cell 3; have B6 := Lib.hid (below_step (below_step HB.out (below_step Q3.out BV.out)) b1); have B7 := Lib.hid (below_step (below_step Q3.out BV.out) b1); clear b1 X1 Y1)
                go_ret
                exact ⟨by rw [HNO.out]; rfl, B6.out⟩
            · cases far
              · by_cases p4 : sz = 0
                · subst p4
                  obtain ⟨e0, he0⟩ : ∃ e0, (sd.toList == []) = e0 := ⟨_, rfl⟩
                  cases e0
                  · have HNO : Hid (decide (checkN false l) = false) := Lib.hid (NOV.out (fun h => by obtain ⟨h1, h2, h3, h4, h5⟩ := h; simp only at h2; rw [HSD.out h2] at he0; cases he0))
                    clear NOV YES HF
                    cases ff
                    all_goals
                      go_wp2_with (go_at_call 30; (try rw [hV]); (with_reducible refine (HFI.out _).mono ?_); rintro r1 w1 ⟨rfl, b1⟩; have X1 := XV.out.below b1 XV.out.lt; have q0 := X1.cell 0; have Y1 := HV.out.below b1 HV.out.lt; have y0 := Y1.cell 0; have y1 := Y1.cell 1; have y2 := Y1.cell 2; have y3 := Y1.cell 3; have B6 := Lib.hid (below_step (below_step HB.out (below_step Q3.out BV.out)) b1); have B7 := Lib.hid (below_step (below_step Q3.out BV.out) b1); clear b1 X1 Y1)
                      go_ret
                      exact ⟨by rw [HNO.out]; rfl, B6.out⟩
                  · have HYES := Lib.hid (YES.out ⟨rfl, HSD2.out he0, rfl, by show 2 ≤ pg; omega, by show pg ≤ 999; omega⟩)
                    clear NOV YES
                    cases ff
                    all_goals
                      go_wp2_with (go_at_call 30; (try rw [hV]); (with_reducible refine (HFI.out _).mono ?_); rintro r1 w1 ⟨rfl, b1⟩; have X1 := XV.out.below b1 XV.out.lt; have q0 := X1.cell 0; have Y1 := HV.out.below b1 HV.out.lt; have y0 := Y1.cell 0; have y1 := Y1.cell 1; have y2 := Y1.cell 2; have y3 := Y1.cell 3; have B6 := Lib.hid (below_step (below_step HB.out (below_step Q3.out BV.out)) b1); have B7 := Lib.hid (below_step (below_step Q3.out BV.out) b1); clear b1 X1 Y1)
                      go_roundw
                      case rel => exact ⟨1, by omega, by go_num, HYES.out, B7.out⟩
                      case measure => simp [intOf]; omega
                · have HNO : Hid (decide (checkN false l) = false) := Lib.hid (NOV.out (fun h => by obtain ⟨h1, h2, h3, h4, h5⟩ := h; exact p4 h3))
                  clear NOV YES HF
                  cases ff
                  all_goals
                    go_wp2_with (go_at_call 30; (try rw [hV]); (with_reducible refine (HFI.out _).mono ?_); rintro r1 w1 ⟨rfl, b1⟩; have X1 := XV.out.below b1 XV.out.lt; have q0 := X1.cell 0; have Y1 := HV.out.below b1 HV.out.lt; have y0 := Y1.cell 0; have y1 := Y1.cell 1; have y2 := Y1.cell 2; have y3 := Y1.cell 3; have B6 := Lib.hid (below_step (below_step HB.out (below_step Q3.out BV.out)) b1); have B7 := Lib.hid (below_step (below_step Q3.out BV.out) b1); clear b1 X1 Y1)
                    go_ret
                    exact ⟨by rw [HNO.out]; rfl, B6.out⟩
              · have HNO : Hid (decide (checkN false l) = false) := Lib.hid (NOV.out (fun h => by obtain ⟨h1, h2, h3, h4, h5⟩ := h; cases h1))
                clear NOV YES HF
                cases ff
                all_goals
                  go_wp2_with (go_at_call 30; (try rw [hV]); (with_reducible refine (HFI.out _).mono ?_); rintro r1 w1 ⟨rfl, b1⟩; have X1 := XV.out.below b1 XV.out.lt; have q0 := X1.cell 0; have Y1 := HV.out.below b1 HV.out.lt; have y0 := Y1.cell 0; have y1 := Y1.cell 1; have y2 := Y1.cell 2; have y3 := Y1.cell 3; have B6 := Lib.hid (below_step (below_step HB.out (below_step Q3.out BV.out)) b1); have B7 := Lib.hid (below_step (below_step Q3.out BV.out) b1); clear b1 X1 Y1)
                  go_ret
                  exact ⟨by rw [HNO.out]; rfl, B6.out⟩
      · obtain ⟨m, hm⟩ : ∃ m, k = m + 1 := ⟨k - 1, by omega⟩
        have HKEY := Lib.hid (key_more (leaf := false) hkl hm)
        obtain ⟨g', off', hgo, p0, p1, p2, p3, p4⟩ := hC.reads.eat (i := m) (by omega)
        injection hgo with hgo
        injection hgo with g1 g2 _
        subst g1 g2
        have hmk : (k : Int) - 1 = (m : Int) := by omega
        have hk0 : ((k : Int) == 0) = false := beq_false_of_ne (by omega)
        have hkp : (0 : Int) < (k : Int) := by omega
        have m0 : (0 : Int) ≤ (m : Int) := by omega
        have m1 : (m : Int) < (n : Int) := by omega
        clear p1 p2 p3 p4
        generalize (l[m]'(by omega)).k = pk at *
        simp only [cstV] at p0
        have l2 : (⟨pk.toArray⟩ : ByteArray).toList = pk := by rw [ByteArray.toList_eq]
        generalize hy : l[k] = y at *
        obtain ⟨yk, yd, far, sz, pg⟩ := y
        simp only [valV, cstV] at c0 c1 c2 c3 c4 HFI
        simp only at hst HKEY
        have z0 : (⟨yk.toArray⟩ : ByteArray).size = yk.length := size_list yk
        have l0 : (⟨yk.toArray⟩ : ByteArray).toList = yk := by rw [ByteArray.toList_eq]
        have l1 : (⟨yd.toArray⟩ : ByteArray).toList = yd := by rw [ByteArray.toList_eq]
        have HSD : Hid (yd = [] → (⟨yd.toArray⟩ : ByteArray).toList = []) := Lib.hid (fun h => by rw [l1]; exact h)
        have HSD2 : Hid (((⟨yd.toArray⟩ : ByteArray).toList == []) = true → yd = []) := Lib.hid (fun h => by rw [l1] at h; simpa using h)
        clear l1
        generalize (⟨pk.toArray⟩ : ByteArray) = sp at *
        generalize (⟨yd.toArray⟩ : ByteArray) = sd at *
        generalize (⟨yk.toArray⟩ : ByteArray) = sk at *
        unfold maxLen at hst
        rw [← z0] at hst HKEY
        obtain ⟨q, hq⟩ : ∃ q : Bool, (sk.toList == []) = q := ⟨_, rfl⟩
        have hq0 : q = true ↔ yk = [] := by rw [← hq, l0]; simp
        rw [← l2] at HKEY
        rw [show (yk ≠ []) = (q ≠ true) from by rw [ne_eq, ne_eq, ← hq0], show Op.bytesLess yk sp.toList = Op.bytesLess sk.toList sp.toList by rw [l0], show (yk == sp.toList) = (sk.toList == sp.toList) by rw [l0]] at HKEY
        have HM := Lib.hid hm
        clear hC hq0 l0 l2 hm
        obtain ⟨a0, ha0⟩ : ∃ a0, Op.bytesLess sk.toList sp.toList = a0 := ⟨_, rfl⟩
        obtain ⟨b0, hb0⟩ : ∃ b0, (sk.toList == sp.toList) = b0 := ⟨_, rfl⟩
        rw [ha0, hb0] at HKEY
        obtain ⟨V, hV⟩ : ∃ V, wr.alloc (.cells #[.string sd, .bool far, .int .i64 sz, .int .i64 pg] 56) = V := ⟨_, rfl⟩
        have HV := Lib.hid (show Has V wr.heap.size 56 #[.string sd, .bool far, .int .i64 sz, .int .i64 pg] from hV ▸ Has.made wr _ _)
        have BV := Lib.hid (show Below wr.heap.size wr V from hV ▸ (Below.refl _ wr).alloc (Nat.le_refl _) _)
        have B5 := Lib.hid (below_step HB.out (below_step Q3.out BV.out))
        have XV := Lib.hid (Q1.out.below BV.out Q1.out.lt)
        have v0 := HV.out.cell 0
        have v1 := HV.out.cell 1
        have v2 := HV.out.cell 2
        have v3 := HV.out.cell 3
        have x0 := XV.out.cell 0
        have x1 := XV.out.cell 1
        have p0v := cell_below p0 BV.out
        cases q
        · by_cases h16 : sk.size ≤ 16
          · have e16 : ¬ (16 : Int) < (sk.size : Int) := by omega
            cases a0
            · cases b0
              · have YES := Lib.hid (YES0.out (HKEY.out.2 ⟨by decide, h16, rfl, rfl⟩))
                clear NO1 YES0 HKEY h16
                generalize leafB ⟨yk, yd, far, sz, pg⟩ = ff at *
                by_cases p1 : pg < 2
                · have HNO : Hid (decide (checkN false l) = false) := Lib.hid (NOV.out (fun h => by obtain ⟨h1, h2, h3, h4, h5⟩ := h; simp only at h4; omega))
                  clear NOV YES HF
                  cases ff
                  all_goals
                    go_wp2_with (go_at_call 30; (try rw [hV]); (with_reducible refine (HFI.out _).mono ?_); rintro r1 w1 ⟨rfl, b1⟩; have X1 := XV.out.below b1 XV.out.lt; have q0 := X1.cell 0; have Y1 := HV.out.below b1 HV.out.lt; have y0 := Y1.cell 0; have y1 := Y1.cell 1; have y2 := Y1.cell 2; have y3 := Y1.cell 3; have B6 := Lib.hid (below_step (below_step HB.out (below_step Q3.out BV.out)) b1); have B7 := Lib.hid (below_step (below_step Q3.out BV.out) b1); clear b1 X1 Y1)
                    go_ret
                    exact ⟨by rw [HNO.out]; rfl, B6.out⟩
                · by_cases p2 : 999 < pg
                  · have HNO : Hid (decide (checkN false l) = false) := Lib.hid (NOV.out (fun h => by obtain ⟨h1, h2, h3, h4, h5⟩ := h; simp only at h5; omega))
                    clear NOV YES HF
                    cases ff
                    all_goals
                      go_wp2_with (go_at_call 30; (try rw [hV]); (with_reducible refine (HFI.out _).mono ?_); rintro r1 w1 ⟨rfl, b1⟩; have X1 := XV.out.below b1 XV.out.lt; have q0 := X1.cell 0; have Y1 := HV.out.below b1 HV.out.lt; have y0 := Y1.cell 0; have y1 := Y1.cell 1; have y2 := Y1.cell 2; have y3 := Y1.cell 3; have B6 := Lib.hid (below_step (below_step HB.out (below_step Q3.out BV.out)) b1); have B7 := Lib.hid (below_step (below_step Q3.out BV.out) b1); clear b1 X1 Y1)
                      go_ret
                      exact ⟨by rw [HNO.out]; rfl, B6.out⟩
                  · cases far
                    · by_cases p4 : sz = 0
                      · subst p4
                        obtain ⟨e0, he0⟩ : ∃ e0, (sd.toList == []) = e0 := ⟨_, rfl⟩
                        cases e0
                        · have HNO : Hid (decide (checkN false l) = false) := Lib.hid (NOV.out (fun h => by obtain ⟨h1, h2, h3, h4, h5⟩ := h; simp only at h2; rw [HSD.out h2] at he0; cases he0))
                          clear NOV YES HF
                          cases ff
                          all_goals
                            go_wp2_with (go_at_call 30; (try rw [hV]); (with_reducible refine (HFI.out _).mono ?_); rintro r1 w1 ⟨rfl, b1⟩; have X1 := XV.out.below b1 XV.out.lt; have q0 := X1.cell 0; have Y1 := HV.out.below b1 HV.out.lt; have y0 := Y1.cell 0; have y1 := Y1.cell 1; have y2 := Y1.cell 2; have y3 := Y1.cell 3; have B6 := Lib.hid (below_step (below_step HB.out (below_step Q3.out BV.out)) b1); have B7 := Lib.hid (below_step (below_step Q3.out BV.out) b1); clear b1 X1 Y1)
                            go_ret
                            exact ⟨by rw [HNO.out]; rfl, B6.out⟩
                        · have HYES := Lib.hid (YES.out ⟨rfl, HSD2.out he0, rfl, by show 2 ≤ pg; omega, by show pg ≤ 999; omega⟩)
                          clear NOV YES
                          cases ff
                          all_goals
                            go_wp2_with (go_at_call 30; (try rw [hV]); (with_reducible refine (HFI.out _).mono ?_); rintro r1 w1 ⟨rfl, b1⟩; have X1 := XV.out.below b1 XV.out.lt; have q0 := X1.cell 0; have Y1 := HV.out.below b1 HV.out.lt; have y0 := Y1.cell 0; have y1 := Y1.cell 1; have y2 := Y1.cell 2; have y3 := Y1.cell 3; have B6 := Lib.hid (below_step (below_step HB.out (below_step Q3.out BV.out)) b1); have B7 := Lib.hid (below_step (below_step Q3.out BV.out) b1); clear b1 X1 Y1)
                            go_roundw
                            case rel => exact ⟨k + 1, by omega, by go_num, HYES.out, B7.out⟩
                            case measure => simp [intOf]; omega
                      · have HNO : Hid (decide (checkN false l) = false) := Lib.hid (NOV.out (fun h => by obtain ⟨h1, h2, h3, h4, h5⟩ := h; exact p4 h3))
                        clear NOV YES HF
                        cases ff
                        all_goals
                          go_wp2_with (go_at_call 30; (try rw [hV]); (with_reducible refine (HFI.out _).mono ?_); rintro r1 w1 ⟨rfl, b1⟩; have X1 := XV.out.below b1 XV.out.lt; have q0 := X1.cell 0; have Y1 := HV.out.below b1 HV.out.lt; have y0 := Y1.cell 0; have y1 := Y1.cell 1; have y2 := Y1.cell 2; have y3 := Y1.cell 3; have B6 := Lib.hid (below_step (below_step HB.out (below_step Q3.out BV.out)) b1); have B7 := Lib.hid (below_step (below_step Q3.out BV.out) b1); clear b1 X1 Y1)
                          go_ret
                          exact ⟨by rw [HNO.out]; rfl, B6.out⟩
                    · have HNO : Hid (decide (checkN false l) = false) := Lib.hid (NOV.out (fun h => by obtain ⟨h1, h2, h3, h4, h5⟩ := h; cases h1))
                      clear NOV YES HF
                      cases ff
                      all_goals
                        go_wp2_with (go_at_call 30; (try rw [hV]); (with_reducible refine (HFI.out _).mono ?_); rintro r1 w1 ⟨rfl, b1⟩; have X1 := XV.out.below b1 XV.out.lt; have q0 := X1.cell 0; have Y1 := HV.out.below b1 HV.out.lt; have y0 := Y1.cell 0; have y1 := Y1.cell 1; have y2 := Y1.cell 2; have y3 := Y1.cell 3; have B6 := Lib.hid (below_step (below_step HB.out (below_step Q3.out BV.out)) b1); have B7 := Lib.hid (below_step (below_step Q3.out BV.out) b1); clear b1 X1 Y1)
                        go_ret
                        exact ⟨by rw [HNO.out]; rfl, B6.out⟩
              · have HNO : Hid (decide (checkN false l) = false) := Lib.hid (NO1.out (fun h => by have h := HKEY.out.1 h; cases h.2.2.2))
                clear NO1 NOV YES0 HFI HF HSD HSD2
                go_wp2
                try rw [hV]
                go_ret
                exact ⟨by rw [HNO.out]; rfl, B5.out⟩
            · cases b0
              all_goals
                have HNO : Hid (decide (checkN false l) = false) := Lib.hid (NO1.out (fun h => by have h := HKEY.out.1 h; cases h.2.2.1))
                clear NO1 NOV YES0 HFI HF HSD HSD2
                go_wp2
                try rw [hV]
                go_ret
                exact ⟨by rw [HNO.out]; rfl, B5.out⟩
          · have e16 : (16 : Int) < (sk.size : Int) := by omega
            have HNO : Hid (decide (checkN false l) = false) := Lib.hid (NO1.out (fun h => by have h := HKEY.out.1 h; exact h16 h.2.1))
            clear NO1 NOV YES0 HFI HF HSD HSD2
            go_wp2
            try rw [hV]
            go_ret
            exact ⟨by rw [HNO.out]; rfl, B5.out⟩
        · have HNO : Hid (decide (checkN false l) = false) := Lib.hid (NO1.out (fun h => by have h := HKEY.out.1 h; exact h.1 rfl))
          clear NO1 NOV YES0 HFI HF HSD HSD2
          go_wp2
          try rw [hV]
          go_ret
          exact ⟨by rw [HNO.out]; rfl, B5.out⟩
    · obtain rfl : k = n := by omega
      have HE := Lib.hid (check_end (leaf := false) (l := l) (fun j h => hq2 j h (by rw [HL.out]; exact h)))
      obtain ⟨w3, hw3⟩ : ∃ w3 : World, w3 = wr := ⟨_, rfl⟩
      subst hw3
      clear hq2 hq3 Q2
      obtain ⟨z, hz⟩ : ∃ z, cSz (cellsE false l) = z := ⟨_, rfl⟩
      rw [hz] at HE HSZ hcs
      clear hz
      by_cases z1 : (z : Int) ≤ 122
      · by_cases n1 : (1 : Int) < (k : Int)
        · have HD : Hid (decide (checkN false l) = true) := Lib.hid (by
            have hh := HE.out
            have hl := HL.out
            have hln : leastN false = 2 := rfl
            rw [hln] at hh
            first
              | exact decide_eq_true (hh.2 ⟨by omega, by omega⟩)
              | exact decide_eq_false (fun hc => by have h3 := (hh.1 hc).2; have h4 := (hh.1 hc).1; omega))
          clear HE hcs HF
          go_wp2_with (first
            | (go_at_call 16; (with_reducible refine (HCE.out _ (below_step HB.out Q3.out)).mono ?_); rintro r1 w1 ⟨A1, c1, rfl, t1, b1⟩; have X1 := Q1.out.below b1 Q1.out.lt; have x0 := X1.cell 0; have x1 := X1.cell 1; have T1 := Lib.hid t1; have B1 := Lib.hid (below_step (below_step HB.out Q3.out) b1); clear t1 b1 X1)
            | (go_at_call 31; (with_reducible refine (HSZ.out _ _ _ T1.out).mono ?_); rintro r2 w2 ⟨rfl, rfl⟩))
          go_ret
          exact ⟨by rw [HD.out]; first | rfl | exact ret_bool (by first | (simp; done) | (simp; omega)), B1.out⟩
        · have HD : Hid (decide (checkN false l) = false) := Lib.hid (by
            have hh := HE.out
            have hl := HL.out
            have hln : leastN false = 2 := rfl
            rw [hln] at hh
            first
              | exact decide_eq_true (hh.2 ⟨by omega, by omega⟩)
              | exact decide_eq_false (fun hc => by have h3 := (hh.1 hc).2; have h4 := (hh.1 hc).1; omega))
          clear HE hcs HF
          go_wp2_with (first
            | (go_at_call 16; (with_reducible refine (HCE.out _ (below_step HB.out Q3.out)).mono ?_); rintro r1 w1 ⟨A1, c1, rfl, t1, b1⟩; have X1 := Q1.out.below b1 Q1.out.lt; have x0 := X1.cell 0; have x1 := X1.cell 1; have T1 := Lib.hid t1; have B1 := Lib.hid (below_step (below_step HB.out Q3.out) b1); clear t1 b1 X1)
            | (go_at_call 31; (with_reducible refine (HSZ.out _ _ _ T1.out).mono ?_); rintro r2 w2 ⟨rfl, rfl⟩))
          go_ret
          exact ⟨by rw [HD.out]; first | rfl | exact ret_bool (by first | (simp; done) | (simp; omega)), B1.out⟩
      · have HD : Hid (decide (checkN false l) = false) := Lib.hid (by
          have hh := HE.out
          have hl := HL.out
          have hln : leastN false = 2 := rfl
          rw [hln] at hh
          first
            | exact decide_eq_true (hh.2 ⟨by omega, by omega⟩)
            | exact decide_eq_false (fun hc => by have h3 := (hh.1 hc).2; have h4 := (hh.1 hc).1; omega))
        clear HE hcs HF
        go_wp2_with (first
          | (go_at_call 16; (with_reducible refine (HCE.out _ (below_step HB.out Q3.out)).mono ?_); rintro r1 w1 ⟨A1, c1, rfl, t1, b1⟩; have X1 := Q1.out.below b1 Q1.out.lt; have x0 := X1.cell 0; have x1 := X1.cell 1; have T1 := Lib.hid t1; have B1 := Lib.hid (below_step (below_step HB.out Q3.out) b1); clear t1 b1 X1)
          | (go_at_call 31; (with_reducible refine (HSZ.out _ _ _ T1.out).mono ?_); rintro r2 w2 ⟨rfl, rfl⟩))
        go_ret
        exact ⟨by rw [HD.out]; first | rfl | exact ret_bool (by first | (simp; done) | (simp; omega)), B1.out⟩

theorem r8Check_any (leaf : Bool) (A : Option Addr) (n c : Nat) (l : List En) (w : World) (h : NodA w A n c l) (hf : FewN l) :
    Calls Tryd.prog 18 #[.agg #[.bool leaf, .slice A n c]] w fun e w' => e = .returned (.bool (decide (checkN leaf l))) ∧ Below w.heap.size w w' := by
  cases leaf
  · exact r8Check_false A n c l w h hf
  · exact r8Check_true A n c l w h hf

end Go.Proofs.YtnponjdnjkegmaaDoor
