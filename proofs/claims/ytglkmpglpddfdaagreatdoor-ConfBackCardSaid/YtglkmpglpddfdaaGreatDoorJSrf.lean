import Derived.Test.YtglkmpglpddfdaaGreatDoorJ32
/- Of a claim's texts, joined: Srf. No statement but in the last. -/
namespace Go.Proofs.YtglkmpglpddfdaaGreatDoor
open Go.RowKit Go.Sort
set_option linter.unusedVariables false

section
variable {α : Type} [Inhabited α] {lt : α → α → Bool} {I : Array α → World → Prop} {blk n low g sf : Nat} {lb sb : Array Value}
theorem scanS_more {d : Array α} {b i : Nat} (h : i < b) (hv : lt d[i]! d[i - 1]! = false) : scanSorted lt d b i = scanSorted lt d b (i + 1) := by
  rw [scanSorted.eq_def, if_pos (by simp [h, hv])]
theorem scanS_end {d : Array α} {b i : Nat} (h : ¬ i < b ∨ lt d[i]! d[i - 1]! = true) : scanSorted lt d b i = i := by
  rw [scanSorted.eq_def, if_neg (by rcases h with h | h <;> simp [h])]
theorem shiftDown_more {d : Array α} {j : Nat} (h : 1 ≤ j) (hv : lt d[j]! d[j - 1]! = true) : shiftDown lt j d = shiftDown lt (j - 1) (swp d j (j - 1)) := by
  obtain ⟨k, rfl⟩ : ∃ k, j = k + 1 := ⟨j - 1, by omega⟩
  simp only [Nat.add_sub_cancel] at hv ⊢
  rw [shiftDown, if_neg (by simp [hv])]
theorem shiftDown_end {d : Array α} {j : Nat} (h : j = 0 ∨ lt d[j]! d[j - 1]! = false) : shiftDown lt j d = d := by
  cases j with
  | zero => rfl
  | succ k =>
    rcases h with h | h
    · cases h
    · simp only [Nat.add_sub_cancel] at h
      rw [shiftDown, if_pos (by simp [h])]
theorem shiftUp_more {d : Array α} {b j : Nat} (h : j < b) (hv : lt d[j]! d[j - 1]! = true) : shiftUp lt b j d = shiftUp lt b (j + 1) (swp d j (j - 1)) := by
  conv => lhs; rw [shiftUp.eq_def]
  rw [if_pos h, if_neg (by simp [hv])]
theorem shiftUp_end {d : Array α} {b j : Nat} (h : ¬ j < b ∨ lt d[j]! d[j - 1]! = false) : shiftUp lt b j d = d := by
  rw [shiftUp.eq_def]
  rcases h with h | h
  · rw [if_neg h]
  · split
    · rw [if_pos (by simp [h])]
    · rfl
theorem partialIns_more {a b s i : Nat} {d : Array α} : partialIns lt a b (s + 1) i d = if scanSorted lt d b i = b then (d, true) else if b - a < 50 then (d, false) else
    partialIns lt a b s (scanSorted lt d b i) (if b - scanSorted lt d b i ≥ 2 then shiftUp lt b (scanSorted lt d b i + 1) (if scanSorted lt d b i - a ≥ 2 then shiftDown lt (scanSorted lt d b i - 1) (swp d (scanSorted lt d b i) (scanSorted lt d b i - 1)) else swp d (scanSorted lt d b i) (scanSorted lt d b i - 1))
      else if scanSorted lt d b i - a ≥ 2 then shiftDown lt (scanSorted lt d b i - 1) (swp d (scanSorted lt d b i) (scanSorted lt d b i - 1)) else swp d (scanSorted lt d b i) (scanSorted lt d b i - 1)) := rfl
set_option maxRecDepth 100000 in
set_option maxHeartbeats 16000000 in
theorem partIns_any (S : Srt lt I blk n low g sf lb sb) (a b : Nat) (d : Array α) (W : World) (hI : I d W) (hab : a < b) (hb : b ≤ n) :
    Calls Tryz.prog 100 #[.agg #[.func (.func g) #[] lb, .func (.func sf) #[] sb], .int .i64 (a : Int), .int .i64 (b : Int)] W (SrtEnd I blk (.bool (partialInsertionSort lt d a b).2) (partialInsertionSort lt d a b).1 W) := by
  have HS := Lib.hid S
  have hmost := S.most
  have eg := S.enters
  have H0 := Lib.hid (SS.start S hI)
  clear S hI
  go_enter Tryz.func100, Tryz.ntmps100
  go_wp2
  go_loopw [7, 8] (fun vi vj wr => ∃ (i0 s : Nat) (dk : Array α), vi = .int .i64 (i0 : Int) ∧ vj = .int .i64 (5 - (s : Int)) ∧ a < i0 ∧ i0 ≤ b ∧ s ≤ 5 ∧ SS I blk g sf lb sb W dk wr ∧ partialIns lt a b s i0 dk = partialInsertionSort lt d a b) (fun _ vj _ => 5 - (intOf vj).toNat)
  case atStart => exact ⟨a + 1, 5, d, by go_num, by go_num, by omega, by omega, by omega, H0.out, rfl⟩
  case round =>
    obtain ⟨i0, s5, dk, rfl, rfl, hai, hib, hs5, h1, h4⟩ := hrel
    have K1 := Lib.hid h1
    have K4 := Lib.hid h4
    clear h1 h4
    by_cases hs0 : s5 = 0
    · subst hs0
      have q1 : ¬ ((5 : Int) - ((0 : Nat) : Int)) < 5 := by omega
      go_wp2
      go_ret
      have hr : partialInsertionSort lt d a b = (dk, false) := K4.out.symm
      rw [hr]
      exact K1.out.done (.bool false)
    · obtain ⟨s, rfl⟩ : ∃ s, s5 = s + 1 := ⟨s5 - 1, by omega⟩
      have q1 : ((5 : Int) - ((s + 1 : Nat) : Int)) < 5 := by omega
      have q0 : (0 : Int) ≤ ((5 : Int) - ((s + 1 : Nat) : Int)) := by omega
      obtain ⟨zs, hzs⟩ : ∃ z : Int, (5 : Int) - ((s + 1 : Nat) : Int) = z := ⟨_, rfl⟩
      rw [hzs] at q1 q0
      rw [hzs]
      have HZS := Lib.hid hzs
      clear hzs hs0
      go_wp2
      go_loopw [7] (fun vi wr => ∃ i : Nat, vi = .int .i64 (i : Int) ∧ a < i ∧ i ≤ b ∧ SS I blk g sf lb sb W dk wr ∧ scanSorted lt dk b i = scanSorted lt dk b i0) (fun vi _ => b + 1 - (intOf vi).toNat)
      case atStart => exact ⟨i0, rfl, hai, hib, K1.out, rfl⟩
      case round =>
        obtain ⟨i, rfl, ha1, hb1, h1, h4⟩ := hrel
        have L1 := Lib.hid h1
        have L4 := Lib.hid h4
        have c0 := h1.box.cell0
        have c1 := h1.box.cell1
        clear h1 h4
        by_cases hlt : i < b
        · have l1 : (i : Int) < (b : Int) := by omega
          have hl := L1.out.less HS.out i (i - 1) (by omega) (by omega)
          rw [show (((i - 1 : Nat) : Int)) = (i : Int) - 1 by omega] at hl
          cases hv : lt dk[i]! dk[i - 1]!
          · rw [hv] at hl
            have HL := Lib.hid hl
            have HV := Lib.hid (scanS_more (lt := lt) hlt hv)
            clear hl hv c1
            go_wp2_with (go_at_fn g; refine HL.out.mono ?_; rintro e w5 ⟨rfl, h5⟩; have R1 := Lib.hid h5; clear h5)
            go_roundw
            case rel => exact ⟨i + 1, by go_num, by omega, by omega, R1.out, by rw [← L4.out, HV.out]⟩
            case measure => simp [intOf]; omega
          · rw [hv] at hl
            have HL := Lib.hid hl
            have HSC : Hid (scanSorted lt dk b i0 = i) := Lib.hid (by rw [← L4.out]; exact scanS_end (Or.inr hv))
            have n1 : ((i : Int) == (b : Int)) = false := by simp; omega
            clear hl hv c1
            by_cases h50 : b - a < 50
            · have g50 : (b : Int) - (a : Int) < 50 := by omega
              go_wp2_with (go_at_fn g; refine HL.out.mono ?_; rintro e w5 ⟨rfl, h5⟩; have R1 := Lib.hid h5; clear h5)
              go_ret
              have hr : partialInsertionSort lt d a b = (dk, false) := by rw [← K4.out, partialIns_more, HSC.out, if_neg (by omega), if_pos h50]
              rw [hr]
              exact R1.out.done (.bool false)
            · have g50 : ¬ (b : Int) - (a : Int) < 50 := by omega
              obtain ⟨d1, hd1⟩ : ∃ d1, swp dk i (i - 1) = d1 := ⟨_, rfl⟩
              have HN : Hid (partialIns lt a b (s + 1) i0 dk = partialIns lt a b s i (if b - i ≥ 2 then shiftUp lt b (i + 1) (if i - a ≥ 2 then shiftDown lt (i - 1) d1 else d1) else if i - a ≥ 2 then shiftDown lt (i - 1) d1 else d1)) := Lib.hid (by
                rw [partialIns_more, HSC.out, if_neg (by omega), if_neg h50, hd1])
              have HD1 := Lib.hid hd1
              clear hd1
              go_wp2_with (go_at_fn g; refine HL.out.mono ?_; rintro e w5 ⟨rfl, h5⟩; have c1 := h5.box.cell1; have R1 := Lib.hid h5; clear h5)
              obtain ⟨w6, hs, h6⟩ := R1.out.swap HS.out i (i - 1) (by omega) (by omega)
              rw [show (((i - 1 : Nat) : Int)) = (i : Int) - 1 by omega] at hs
              rw [HD1.out] at h6
              have M1 := Lib.hid h6
              clear h6
              rw [hs, Oper.upon_value]
              by_cases h1 : 2 ≤ i - a
              · have g1 : (2 : Int) ≤ (i : Int) - (a : Int) := by omega
                have HDS : Hid ((if i - a ≥ 2 then shiftDown lt (i - 1) d1 else d1) = shiftDown lt (i - 1) d1) := Lib.hid (if_pos h1)
                go_wp2
                go_loopw [9] (fun vj wr => ∃ (j : Nat) (dd : Array α), vj = .int .i64 (j : Int) ∧ j < i ∧ SS I blk g sf lb sb W dd wr ∧ shiftDown lt j dd = shiftDown lt (i - 1) d1) (fun vj _ => (intOf vj).toNat)
                case atStart => exact ⟨i - 1, d1, by go_num, by omega, M1.out, rfl⟩
                case round =>
                  obtain ⟨j, dd, rfl, hji, h1, h4⟩ := hrel
                  have P1 := Lib.hid h1
                  have P4 := Lib.hid h4
                  have c0 := h1.box.cell0
                  have c1 := h1.box.cell1
                  clear h1 h4
                  by_cases hj0 : 1 ≤ j
                  · have l0 : (1 : Int) ≤ (j : Int) := by omega
                    have hl := P1.out.less HS.out j (j - 1) (by omega) (by omega)
                    rw [show (((j - 1 : Nat) : Int)) = (j : Int) - 1 by omega] at hl
                    cases hv : lt dd[j]! dd[j - 1]!
                    · rw [hv] at hl
                      have HL := Lib.hid hl
                      have HD : Hid ((if i - a ≥ 2 then shiftDown lt (i - 1) d1 else d1) = dd) := Lib.hid (by rw [HDS.out, ← P4.out]; exact shiftDown_end (Or.inr hv))
                      clear hl hv c1
                      by_cases h2 : 2 ≤ b - i
                      · have g2 : (2 : Int) ≤ (b : Int) - (i : Int) := by omega
                        have HUS : Hid ((if b - i ≥ 2 then shiftUp lt b (i + 1) dd else dd) = shiftUp lt b (i + 1) dd) := Lib.hid (if_pos h2)
                        go_wp2_with (go_at_fn g; refine HL.out.mono ?_; rintro e w5 ⟨rfl, h5⟩; have Q1 := Lib.hid h5; clear h5)
                        go_loopw [10] (fun vj wr => ∃ (j : Nat) (du : Array α), vj = .int .i64 (j : Int) ∧ i < j ∧ j ≤ b ∧ SS I blk g sf lb sb W du wr ∧ shiftUp lt b j du = shiftUp lt b (i + 1) dd) (fun vj _ => b + 1 - (intOf vj).toNat)
                        case atStart => exact ⟨i + 1, dd, by go_num, by omega, by omega, Q1.out, rfl⟩
                        case round =>
                          obtain ⟨j, du, rfl, hju, hjb, h1, h4⟩ := hrel
                          have N1 := Lib.hid h1
                          have N4 := Lib.hid h4
                          have c0 := h1.box.cell0
                          have c1 := h1.box.cell1
                          clear h1 h4
                          by_cases hlt : j < b
                          · have l1 : (j : Int) < (b : Int) := by omega
                            have hl := N1.out.less HS.out j (j - 1) (by omega) (by omega)
                            rw [show (((j - 1 : Nat) : Int)) = (j : Int) - 1 by omega] at hl
                            cases hv : lt du[j]! du[j - 1]!
                            · rw [hv] at hl
                              have HL := Lib.hid hl
                              have HU : Hid ((if b - i ≥ 2 then shiftUp lt b (i + 1) dd else dd) = du) := Lib.hid (by rw [HUS.out, ← N4.out]; exact shiftUp_end (Or.inr hv))
                              clear hl hv c1
                              go_wp2_with (go_at_fn g; refine HL.out.mono ?_; rintro e w5 ⟨rfl, h5⟩; have R1 := Lib.hid h5; clear h5)
                              go_roundw
                              case rel => exact ⟨i, s, du, rfl, congrArg (Value.int .i64) (by have := HZS.out; omega), by omega, by omega, by omega, R1.out, by rw [← K4.out, HN.out, HD.out, HU.out]⟩
                              case measure => simp [intOf]; omega
                            · rw [hv] at hl
                              have HL := Lib.hid hl
                              have HV := Lib.hid (shiftUp_more (lt := lt) hlt hv)
                              clear hl hv c1
                              go_wp2_with (go_at_fn g; refine HL.out.mono ?_; rintro e w5 ⟨rfl, h5⟩; have c1 := h5.box.cell1; have R1 := Lib.hid h5; clear h5)
                              obtain ⟨w6, hs, h6⟩ := R1.out.swap HS.out j (j - 1) (by omega) (by omega)
                              rw [show (((j - 1 : Nat) : Int)) = (j : Int) - 1 by omega] at hs
                              have R2 := Lib.hid h6
                              clear h6
                              rw [hs, Oper.upon_value]
                              go_wp2
                              go_roundw
                              case rel => exact ⟨j + 1, _, by go_num, by omega, by omega, R2.out, by rw [← N4.out, HV.out]⟩
                              case measure => simp [intOf]; omega
                          · have l1 : ¬ (j : Int) < (b : Int) := by omega
                            have HU : Hid ((if b - i ≥ 2 then shiftUp lt b (i + 1) dd else dd) = du) := Lib.hid (by rw [HUS.out, ← N4.out]; exact shiftUp_end (Or.inl hlt))
                            clear c0 c1
                            go_wp2
                            go_roundw
                            case rel => exact ⟨i, s, du, rfl, congrArg (Value.int .i64) (by have := HZS.out; omega), by omega, by omega, by omega, N1.out, by rw [← K4.out, HN.out, HD.out, HU.out]⟩
                            case measure => simp [intOf]; omega
                      · have g2 : ¬ (2 : Int) ≤ (b : Int) - (i : Int) := by omega
                        have HU : Hid ((if b - i ≥ 2 then shiftUp lt b (i + 1) dd else dd) = dd) := Lib.hid (if_neg h2)
                        go_wp2_with (go_at_fn g; refine HL.out.mono ?_; rintro e w5 ⟨rfl, h5⟩; have Q1 := Lib.hid h5; clear h5)
                        go_roundw
                        case rel => exact ⟨i, s, dd, rfl, congrArg (Value.int .i64) (by have := HZS.out; omega), by omega, by omega, by omega, Q1.out, by rw [← K4.out, HN.out, HD.out, HU.out]⟩
                        case measure => simp [intOf]; omega
                    · rw [hv] at hl
                      have HL := Lib.hid hl
                      have HV := Lib.hid (shiftDown_more (lt := lt) hj0 hv)
                      clear hl hv c1
                      go_wp2_with (go_at_fn g; refine HL.out.mono ?_; rintro e w5 ⟨rfl, h5⟩; have c1 := h5.box.cell1; have R1 := Lib.hid h5; clear h5)
                      obtain ⟨w6, hs, h6⟩ := R1.out.swap HS.out j (j - 1) (by omega) (by omega)
                      rw [show (((j - 1 : Nat) : Int)) = (j : Int) - 1 by omega] at hs
                      have R2 := Lib.hid h6
                      clear h6
                      rw [hs, Oper.upon_value]
                      go_wp2
                      go_roundw
                      case rel => exact ⟨j - 1, _, by go_num, by omega, R2.out, by rw [← P4.out, HV.out]⟩
                      case measure => simp [intOf]; omega
                  · have l0 : ¬ (1 : Int) ≤ (j : Int) := by omega
                    have HD : Hid ((if i - a ≥ 2 then shiftDown lt (i - 1) d1 else d1) = dd) := Lib.hid (by rw [HDS.out, ← P4.out]; exact shiftDown_end (Or.inl (by omega)))
                    clear c0 c1
                    by_cases h2 : 2 ≤ b - i
                    · have g2 : (2 : Int) ≤ (b : Int) - (i : Int) := by omega
                      have HUS : Hid ((if b - i ≥ 2 then shiftUp lt b (i + 1) dd else dd) = shiftUp lt b (i + 1) dd) := Lib.hid (if_pos h2)
                      go_wp2
                      go_loopw [10] (fun vj wr => ∃ (j : Nat) (du : Array α), vj = .int .i64 (j : Int) ∧ i < j ∧ j ≤ b ∧ SS I blk g sf lb sb W du wr ∧ shiftUp lt b j du = shiftUp lt b (i + 1) dd) (fun vj _ => b + 1 - (intOf vj).toNat)
                      case atStart => exact ⟨i + 1, dd, by go_num, by omega, by omega, P1.out, rfl⟩
                      case round =>
                        obtain ⟨j, du, rfl, hju, hjb, h1, h4⟩ := hrel
                        have N1 := Lib.hid h1
                        have N4 := Lib.hid h4
                        have c0 := h1.box.cell0
                        have c1 := h1.box.cell1
                        clear h1 h4
                        by_cases hlt : j < b
                        · have l1 : (j : Int) < (b : Int) := by omega
                          have hl := N1.out.less HS.out j (j - 1) (by omega) (by omega)
                          rw [show (((j - 1 : Nat) : Int)) = (j : Int) - 1 by omega] at hl
                          cases hv : lt du[j]! du[j - 1]!
                          · rw [hv] at hl
                            have HL := Lib.hid hl
                            have HU : Hid ((if b - i ≥ 2 then shiftUp lt b (i + 1) dd else dd) = du) := Lib.hid (by rw [HUS.out, ← N4.out]; exact shiftUp_end (Or.inr hv))
                            clear hl hv c1
                            go_wp2_with (go_at_fn g; refine HL.out.mono ?_; rintro e w5 ⟨rfl, h5⟩; have R1 := Lib.hid h5; clear h5)
                            go_roundw
                            case rel => exact ⟨i, s, du, rfl, congrArg (Value.int .i64) (by have := HZS.out; omega), by omega, by omega, by omega, R1.out, by rw [← K4.out, HN.out, HD.out, HU.out]⟩
                            case measure => simp [intOf]; omega
                          · rw [hv] at hl
                            have HL := Lib.hid hl
                            have HV := Lib.hid (shiftUp_more (lt := lt) hlt hv)
                            clear hl hv c1
                            go_wp2_with (go_at_fn g; refine HL.out.mono ?_; rintro e w5 ⟨rfl, h5⟩; have c1 := h5.box.cell1; have R1 := Lib.hid h5; clear h5)
                            obtain ⟨w6, hs, h6⟩ := R1.out.swap HS.out j (j - 1) (by omega) (by omega)
                            rw [show (((j - 1 : Nat) : Int)) = (j : Int) - 1 by omega] at hs
                            have R2 := Lib.hid h6
                            clear h6
                            rw [hs, Oper.upon_value]
                            go_wp2
                            go_roundw
                            case rel => exact ⟨j + 1, _, by go_num, by omega, by omega, R2.out, by rw [← N4.out, HV.out]⟩
                            case measure => simp [intOf]; omega
                        · have l1 : ¬ (j : Int) < (b : Int) := by omega
                          have HU : Hid ((if b - i ≥ 2 then shiftUp lt b (i + 1) dd else dd) = du) := Lib.hid (by rw [HUS.out, ← N4.out]; exact shiftUp_end (Or.inl hlt))
                          clear c0 c1
                          go_wp2
                          go_roundw
                          case rel => exact ⟨i, s, du, rfl, congrArg (Value.int .i64) (by have := HZS.out; omega), by omega, by omega, by omega, N1.out, by rw [← K4.out, HN.out, HD.out, HU.out]⟩
                          case measure => simp [intOf]; omega
                    · have g2 : ¬ (2 : Int) ≤ (b : Int) - (i : Int) := by omega
                      have HU : Hid ((if b - i ≥ 2 then shiftUp lt b (i + 1) dd else dd) = dd) := Lib.hid (if_neg h2)
                      go_wp2
                      go_roundw
                      case rel => exact ⟨i, s, dd, rfl, congrArg (Value.int .i64) (by have := HZS.out; omega), by omega, by omega, by omega, P1.out, by rw [← K4.out, HN.out, HD.out, HU.out]⟩
                      case measure => simp [intOf]; omega
              · have g1 : ¬ (2 : Int) ≤ (i : Int) - (a : Int) := by omega
                have HD : Hid ((if i - a ≥ 2 then shiftDown lt (i - 1) d1 else d1) = d1) := Lib.hid (if_neg h1)
                by_cases h2 : 2 ≤ b - i
                · have g2 : (2 : Int) ≤ (b : Int) - (i : Int) := by omega
                  have HUS : Hid ((if b - i ≥ 2 then shiftUp lt b (i + 1) d1 else d1) = shiftUp lt b (i + 1) d1) := Lib.hid (if_pos h2)
                  go_wp2
                  go_loopw [10] (fun vj wr => ∃ (j : Nat) (du : Array α), vj = .int .i64 (j : Int) ∧ i < j ∧ j ≤ b ∧ SS I blk g sf lb sb W du wr ∧ shiftUp lt b j du = shiftUp lt b (i + 1) d1) (fun vj _ => b + 1 - (intOf vj).toNat)
                  case atStart => exact ⟨i + 1, d1, by go_num, by omega, by omega, M1.out, rfl⟩
                  case round =>
                    obtain ⟨j, du, rfl, hju, hjb, h1, h4⟩ := hrel
                    have N1 := Lib.hid h1
                    have N4 := Lib.hid h4
                    have c0 := h1.box.cell0
                    have c1 := h1.box.cell1
                    clear h1 h4
                    by_cases hlt : j < b
                    · have l1 : (j : Int) < (b : Int) := by omega
                      have hl := N1.out.less HS.out j (j - 1) (by omega) (by omega)
                      rw [show (((j - 1 : Nat) : Int)) = (j : Int) - 1 by omega] at hl
                      cases hv : lt du[j]! du[j - 1]!
                      · rw [hv] at hl
                        have HL := Lib.hid hl
                        have HU : Hid ((if b - i ≥ 2 then shiftUp lt b (i + 1) d1 else d1) = du) := Lib.hid (by rw [HUS.out, ← N4.out]; exact shiftUp_end (Or.inr hv))
                        clear hl hv c1
                        go_wp2_with (go_at_fn g; refine HL.out.mono ?_; rintro e w5 ⟨rfl, h5⟩; have R1 := Lib.hid h5; clear h5)
                        go_roundw
                        case rel => exact ⟨i, s, du, rfl, congrArg (Value.int .i64) (by have := HZS.out; omega), by omega, by omega, by omega, R1.out, by rw [← K4.out, HN.out, HD.out, HU.out]⟩
                        case measure => simp [intOf]; omega
                      · rw [hv] at hl
                        have HL := Lib.hid hl
                        have HV := Lib.hid (shiftUp_more (lt := lt) hlt hv)
                        clear hl hv c1
                        go_wp2_with (go_at_fn g; refine HL.out.mono ?_; rintro e w5 ⟨rfl, h5⟩; have c1 := h5.box.cell1; have R1 := Lib.hid h5; clear h5)
                        obtain ⟨w6, hs, h6⟩ := R1.out.swap HS.out j (j - 1) (by omega) (by omega)
                        rw [show (((j - 1 : Nat) : Int)) = (j : Int) - 1 by omega] at hs
                        have R2 := Lib.hid h6
                        clear h6
                        rw [hs, Oper.upon_value]
                        go_wp2
                        go_roundw
                        case rel => exact ⟨j + 1, _, by go_num, by omega, by omega, R2.out, by rw [← N4.out, HV.out]⟩
                        case measure => simp [intOf]; omega
                    · have l1 : ¬ (j : Int) < (b : Int) := by omega
                      have HU : Hid ((if b - i ≥ 2 then shiftUp lt b (i + 1) d1 else d1) = du) := Lib.hid (by rw [HUS.out, ← N4.out]; exact shiftUp_end (Or.inl hlt))
                      clear c0 c1
                      go_wp2
                      go_roundw
                      case rel => exact ⟨i, s, du, rfl, congrArg (Value.int .i64) (by have := HZS.out; omega), by omega, by omega, by omega, N1.out, by rw [← K4.out, HN.out, HD.out, HU.out]⟩
                      case measure => simp [intOf]; omega
                · have g2 : ¬ (2 : Int) ≤ (b : Int) - (i : Int) := by omega
                  have HU : Hid ((if b - i ≥ 2 then shiftUp lt b (i + 1) d1 else d1) = d1) := Lib.hid (if_neg h2)
                  go_wp2
                  go_roundw
                  case rel => exact ⟨i, s, d1, rfl, congrArg (Value.int .i64) (by have := HZS.out; omega), by omega, by omega, by omega, M1.out, by rw [← K4.out, HN.out, HD.out, HU.out]⟩
                  case measure => simp [intOf]; omega
        · obtain rfl : i = b := by omega
          have l1 : ¬ (i : Int) < (i : Int) := by omega
          have HSC : Hid (scanSorted lt dk i i0 = i) := Lib.hid (by rw [← L4.out]; exact scanS_end (Or.inl hlt))
          clear c0 c1
          go_wp2
          go_ret
          have hr : partialInsertionSort lt d a i = (dk, true) := by rw [← K4.out, partialIns_more, HSC.out, if_pos rfl]
          rw [hr]
          exact L1.out.done (.bool true)
end

end Go.Proofs.YtglkmpglpddfdaaGreatDoor
