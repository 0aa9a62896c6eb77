import Derived.Test.YtglkmpglpddfdaaGreatDoorJLatr
import Derived.BigRegion
import Derived.ChangeAlike
/- Of a claim's texts, joined: Latq. No statement but in the last. -/
namespace Go.Proofs.YtglkmpglpddfdaaGreatDoor
open Go.RowKit
set_option linter.unusedVariables false

def i64V (x : Nat) : Value := .int .i64 (x : Int)
set_option maxHeartbeats 1000000 in
theorem r3Same_any (l m : List Nat) (A B : Option Addr) (n c n' c' : Nat) (w : World) (hn : n = l.length) (hm : n' = m.length) (ha : Reads w A (l.map u64V)) (hb : Reads w B (m.map u64V)) (hl : n ≤ 1000000) :
    Calls Tryz.prog 26 #[.slice A n c, .slice B n' c'] w fun e w' => e = .returned (.bool (decide (l = m))) ∧ Below w.heap.size w w' := by
  have HN := Lib.hid hn
  have HM := Lib.hid hm
  have HA := Lib.hid ha
  have HB := Lib.hid hb
  clear hn hm ha hb
  by_cases hnn : n = n'
  · subst hnn
    go_enter Tryz.func26, Tryz.ntmps26
    go_wp2
    go_loopw [5] (fun i wr => ∃ k : Nat, k ≤ n ∧ i = .int .i64 k ∧ l.take k = m.take k ∧ Below w.heap.size w wr) (fun i _ => n - (intOf i).toNat)
    case atStart => exact ⟨0, Nat.zero_le _, rfl, rfl, Below.refl _ _⟩
    case round =>
      obtain ⟨k, hk, rfl, hj, hB⟩ := hrel
      have HJ := Lib.hid hj
      have BW := Lib.hid hB
      clear hj hB
      by_cases hlt : k < n
      · have hkl : k < l.length := by have := HN.out; omega
        have hkm : k < m.length := by have := HM.out; omega
        obtain ⟨g1, o1, rfl, c1⟩ := (HA.out.keep_ BW.out).at_ hkl
        obtain ⟨g2, o2, rfl, c2⟩ := (HB.out.keep_ BW.out).at_ hkm
        have HT : Hid (l.take (k + 1) = l.take k ++ [l[k]] ∧ m.take (k + 1) = m.take k ++ [m[k]]) := Lib.hid ⟨List.take_succ_eq_append_getElem hkl, List.take_succ_eq_append_getElem hkm⟩
        have HNE : Hid (l[k] ≠ m[k] → l ≠ m) := Lib.hid (fun h e => h (by subst e; rfl))
        generalize l[k] = x at c1 HT HNE
        generalize m[k] = y at c2 HT HNE
        clear hkl hkm
        have i0 : (0 : Int) ≤ (k : Int) := by omega
        have i1 : (k : Int) < (n : Int) := by omega
        by_cases hxy : x = y
        · have q : ((x : Int) != (y : Int)) = false := by simp [hxy]
          have HX := Lib.hid hxy
          clear hxy
          go_wp2
          go_region
          go_wp2
          go_roundw
          case rel => exact ⟨k + 1, by omega, by go_num, by rw [HT.out.1, HT.out.2, HJ.out, HX.out], BW.out.drew⟩
          case measure => simp [intOf]; omega
        · have q : ((x : Int) != (y : Int)) = true := by simp; omega
          have HX := Lib.hid (HNE.out hxy)
          clear hxy
          go_wp2
          go_region
          go_wp2
          go_ret
          exact ⟨ret_bool (by simp [HX.out]), BW.out.drew⟩
      · obtain rfl : k = n := by omega
        have HE : Hid (l = m) := Lib.hid (by
          have h1 := HJ.out
          rw [List.take_of_length_le (by have := HN.out; omega), List.take_of_length_le (by have := HM.out; omega)] at h1
          exact h1)
        obtain ⟨w3, hw3⟩ : ∃ w3 : World, w3 = wr := ⟨_, rfl⟩
        subst hw3
        go_wp2
        go_ret
        exact ⟨ret_bool (by simp [HE.out]), BW.out⟩
  · have q : ((n : Int) != (n' : Int)) = true := by simp; omega
    have HE : Hid (l ≠ m) := Lib.hid (fun e => hnn (by rw [HN.out, HM.out, e]))
    clear hnn
    go_enter Tryz.func26, Tryz.ntmps26
    go_wp2
    go_ret
    exact ⟨ret_bool (by simp [HE.out]), Below.refl _ _⟩

/-! Check. -/
def okAB (up : List Nat) (a b : Nat) : Bool :=
  !(ubit up a b && decide (up.length ≤ b) || decide (a = b) && !ubit up a b || ubit up a b && !decide (a = b) && ubit up b a) && (!ubit up a b || (List.range up.length).all fun c => !ubit up b c || ubit up a c)
theorem ok_of_lat {up : List Nat} (h : IsLat up) (a b : Nat) (ha : a < up.length) (hb : b < 64) : okAB up a b = true := by
  unfold okAB
  cases hab : ubit up a b
  · by_cases e : a = b
    · subst e
      rw [h.2.2.1 a ha] at hab
      cases hab
    · simp [e]
  · have hbn := h.2.1 a ha b hb hab
    simp only [Bool.true_and, Bool.not_true, Bool.and_false, Bool.or_false, Bool.false_or]
    have e1 : decide (up.length ≤ b) = false := by simp; omega
    rw [e1]
    have e2 : (!decide (a = b) && ubit up b a) = false := by
      by_cases e : a = b
      · simp [e]
      · rw [h.2.2.2.1 a ha b hbn e hab]
        simp
    rw [e2]
    simp only [Bool.or_self, Bool.not_false, Bool.true_and]
    rw [List.all_eq_true]
    intro c hc
    cases hbc : ubit up b c
    · rfl
    · rw [h.2.2.2.2.1 a ha b hbn hab c (by simpa using hc) hbc]
      rfl
theorem lat_of_ok {up : List Nat} (h1 : 1 ≤ up.length) (h64 : up.length ≤ 64) (h : ∀ a, a < up.length → ∀ b, b < 64 → okAB up a b = true) (hj : ∀ a, a < up.length → ∀ b, b < a → 0 ≤ joinN up a b ∧ 0 ≤ meetN up a b) : IsLat up := by
  have hh : ∀ a, a < up.length → ∀ b, b < 64 → (ubit up a b = true → b < up.length) ∧ (a = b → ubit up a b = true) ∧ (ubit up a b = true → a ≠ b → ubit up b a = false) ∧ (ubit up a b = true → ∀ c, c < up.length → ubit up b c = true → ubit up a c = true) := by
    intro a ha b hb
    have := h a ha b hb
    unfold okAB at this
    cases hab : ubit up a b
    · rw [hab] at this
      refine ⟨fun x => (by cases x), fun e => ?_, fun x => (by cases x), fun x => (by cases x)⟩
      subst e
      simp at this
    · rw [hab] at this
      simp only [Bool.true_and, Bool.not_true, Bool.and_false, Bool.or_false, Bool.false_or, Bool.and_eq_true, Bool.not_eq_true', Bool.or_eq_false_iff, decide_eq_false_iff_not, List.all_eq_true] at this
      obtain ⟨⟨k1, k2⟩, k3⟩ := this
      refine ⟨fun _ => by omega, fun _ => rfl, fun _ e => ?_, fun _ c hc hbc => ?_⟩
      · simpa [e] using k2
      · have := k3 c (by simpa using hc)
        rw [hbc] at this
        simpa using this
  exact isLat_of up ⟨h1, h64⟩ (fun a ha b hb => (hh a ha b hb).1) (fun a ha => (hh a ha a (by omega)).2.1 rfl) (fun a ha b hb e hab => (hh a ha b (Nat.lt_of_lt_of_le hb h64)).2.2.1 hab e)
    (fun a ha b hb hab c hc hbc => (hh a ha b (Nat.lt_of_lt_of_le hb h64)).2.2.2 hab c hc hbc) hj

set_option maxRecDepth 100000 in
set_option maxHeartbeats 2000000 in
theorem r3Check_any (up : List Nat) (A : Option Addr) (n c : Nat) (w : World) (h : ArgU w A n c up) (hn : n ≤ 1000000) :
    Calls Tryz.prog 37 #[.slice A n c] w fun e w' => e = .returned (.bool (checkB up)) ∧ Below w.heap.size w w' := by
  by_cases h1 : n < 1
  · have HE : Hid (checkB up = false) := Lib.hid (checkB_no (fun hl => by have := hl.1.1; have := h.len; omega))
    have e1 : decide ((n : Int) < 1) = true := by simp; omega
    clear h h1
    go_enter Tryz.func37, Tryz.ntmps37
    go_wp2
    go_ret
    exact ⟨ret_bool HE.out.symm, Below.refl _ _⟩
  · have e1 : decide ((n : Int) < 1) = false := by simp; omega
    by_cases h64 : 64 < n
    · have HE : Hid (checkB up = false) := Lib.hid (checkB_no (fun hl => by have := hl.1.2; have := h.len; omega))
      have e2 : decide (64 < (n : Int)) = true := by simp; omega
      clear h
      go_enter Tryz.func37, Tryz.ntmps37
      go_wp2
      go_ret
      exact ⟨ret_bool HE.out.symm, Below.refl _ _⟩
    · have e2 : decide (64 < (n : Int)) = false := by simp; omega
      have HA := Lib.hid h
      have HN := Lib.hid h.len
      have HOK := Lib.hid (fun (hl : IsLat up) => ok_of_lat hl)
      have HCell : Hid (∀ i, i < n → ∃ (g off x : Nat), A = some ⟨g, off, none⟩ ∧ w.cell? ⟨g, off + i, none⟩ = some (.int .u64 (x : Int)) ∧ x < 2 ^ 64 ∧ ∀ b, x.testBit b = ubit up i b) := Lib.hid (fun i hi => by
        have hil : i < up.length := by have := h.len; omega
        obtain ⟨g, off, hA, hc⟩ := h.reads.at_ hil
        exact ⟨g, off, up[i], hA, hc, h.big _ (List.getElem_mem hil), fun b => by unfold ubit; rw [getD_at _ _ hil]⟩)
      clear h
      go_enter Tryz.func37, Tryz.ntmps37
      go_wp2
      go_loop [3] (fun i => ∃ k : Nat, k ≤ n ∧ i = .int .i64 k ∧ ∀ a, a < k → ∀ b, b < 64 → okAB up a b = true) (fun i => n - (intOf i).toNat)
      case atStart => exact ⟨0, Nat.zero_le _, rfl, fun a ha => absurd ha (by omega)⟩
      case round =>
        obtain ⟨k, hk, rfl, hj⟩ := hrel
        have HJ := Lib.hid hj
        clear hj
        by_cases hlt : k < n
        · obtain ⟨g, off, x, rfl, ck, xb, xt⟩ := HCell.out k hlt
          have HX := Lib.hid xb
          have HXT := Lib.hid xt
          clear xb xt
          go_wp2
          go_loop [4] (fun i => ∃ d : Nat, d ≤ 64 ∧ i = .int .i64 d ∧ ∀ b, b < d → okAB up k b = true) (fun i => 64 - (intOf i).toNat)
          case atStart => exact ⟨0, Nat.zero_le _, rfl, fun a ha => absurd ha (by omega)⟩
          case round =>
            obtain ⟨d, hd, rfl, hj⟩ := hrel
            have HD := Lib.hid hj
            clear hj
            by_cases hd64 : d < 64
            · have HB1 := Lib.hid (r3Bit_any x d w HX.out (by omega))
              rw [HXT.out d] at HB1
              have HF : Hid (okAB up k d = false → checkB up = false) := Lib.hid (fun hf => checkB_no (fun hl => by
                have := HOK.out hl k d (by have := HN.out; omega) hd64
                rw [hf] at this
                cases this))
              have HU : Hid (okAB up k d = (!(ubit up k d && decide (n ≤ d) || decide (k = d) && !ubit up k d || ubit up k d && !decide (k = d) && ubit up d k) && (!ubit up k d || (List.range n).all fun c => !ubit up d c || ubit up k c))) := Lib.hid (by unfold okAB; rw [HN.out])
              cases ht : ubit up k d
              · rw [ht] at HB1 HU
                by_cases hkd : k = d
                · have q1 : ((k : Int) == (d : Int)) = true := by simp [hkd]
                  have HE : Hid (checkB up = false) := Lib.hid (HF.out (by rw [HU.out]; simp [hkd]))
                  clear hkd ht HU HF
                  go_wp2_with (go_at_call 45; (with_reducible refine HB1.out.mono ?_); rintro e w' ⟨rfl, rfl⟩)
                  go_ret
                  exact ⟨ret_bool HE.out.symm, Below.refl _ _⟩
                · have q1 : ((k : Int) == (d : Int)) = false := beq_false_of_ne (by omega)
                  have HE : Hid (okAB up k d = true) := Lib.hid (by rw [HU.out]; simp [hkd])
                  clear hkd ht HU HF
                  go_wp2_with (go_at_call 45; (with_reducible refine HB1.out.mono ?_); rintro e w' ⟨rfl, rfl⟩)
                  go_loop [6] (fun i => i = .int .i64 0) (fun _ => 0)
                  case atStart => exact rfl
                  case round =>
                    obtain rfl := hrel
                    go_wp2
                    all_goals
                      go_round
                      case rel => exact ⟨d + 1, by omega, by go_num, fun b hb => by
                        by_cases e : b = d
                        · subst e; exact HE.out
                        · exact HD.out b (by omega)⟩
                      case measure => simp [intOf]; omega
              · rw [ht] at HB1 HU
                clear ht
                by_cases hdn : n ≤ d
                · have q1 : decide ((n : Int) ≤ (d : Int)) = true := by simp; omega
                  have HE : Hid (checkB up = false) := Lib.hid (HF.out (by rw [HU.out]; simp [hdn]))
                  clear HU HF
                  go_wp2_with (go_at_call 45; (with_reducible refine HB1.out.mono ?_); rintro e w' ⟨rfl, rfl⟩)
                  go_ret
                  exact ⟨ret_bool HE.out.symm, Below.refl _ _⟩
                · obtain ⟨g', off', y, hA', cd, yb, yt⟩ := HCell.out d (by omega)
                  injection hA' with hA'
                  injection hA' with q5 q6
                  subst q5 q6
                  have HY := Lib.hid yb
                  have HYT := Lib.hid yt
                  have HB2 := Lib.hid (r3Bit_any y k w yb (by omega))
                  rw [yt k] at HB2
                  clear yb yt
                  have q1 : decide ((n : Int) ≤ (d : Int)) = false := by simp; omega
                  by_cases hbad : k ≠ d ∧ ubit up d k = true
                  · obtain ⟨hkd, hs⟩ := hbad
                    have q2 : ((k : Int) != (d : Int)) = true := by simp; omega
                    have q3 : ((k : Int) == (d : Int)) = false := beq_false_of_ne (by omega)
                    have HE : Hid (checkB up = false) := Lib.hid (HF.out (by rw [HU.out, hs]; simp [hkd]))
                    rw [hs] at HB2
                    clear HU HF hs hkd
                    go_wp2_with (first | (go_at_call 45; (with_reducible refine HB1.out.mono ?_); rintro e w' ⟨rfl, rfl⟩) | (go_at_call 45; (with_reducible refine HB2.out.mono ?_); rintro e w' ⟨rfl, rfl⟩))
                    go_ret
                    exact ⟨ret_bool HE.out.symm, Below.refl _ _⟩
                  · have HU2 : Hid (okAB up k d = (List.range n).all fun c => !ubit up d c || ubit up k c) := Lib.hid (by
                      rw [HU.out]
                      have e1 : decide (n ≤ d) = false := by simp; omega
                      rw [e1]
                      by_cases hkd : k = d
                      · simp [hkd]
                      · cases hs : ubit up d k
                        · simp
                        · exact absurd ⟨hkd, hs⟩ hbad)
                    have hcase : (((k : Int) != (d : Int)) = false ∧ ((k : Int) == (d : Int)) = true) ∨ (((k : Int) != (d : Int)) = true ∧ ((k : Int) == (d : Int)) = false ∧ ubit up d k = false) := by
                      by_cases hkd : k = d
                      · left; simp [hkd]
                      · right
                        refine ⟨by simp; omega, beq_false_of_ne (by omega), ?_⟩
                        cases hs : ubit up d k
                        · rfl
                        · exact absurd ⟨hkd, hs⟩ hbad
                    clear hbad HU
                    rcases hcase with ⟨q2, q3⟩ | ⟨q2, q3, hs⟩
                    case' inr => rw [hs] at HB2; clear hs
                    all_goals
                      go_wp2_with (first | (go_at_call 45; (with_reducible refine HB1.out.mono ?_); rintro e w' ⟨rfl, rfl⟩) | (go_at_call 45; (with_reducible refine HB2.out.mono ?_); rintro e w' ⟨rfl, rfl⟩))
                      go_loop [6] (fun i => ∃ m : Nat, m ≤ n ∧ i = .int .i64 m ∧ ((List.range m).all fun c => !ubit up d c || ubit up k c) = true) (fun i => n - (intOf i).toNat)
                      case atStart => exact ⟨0, Nat.zero_le _, rfl, rfl⟩
                      case round =>
                        obtain ⟨m, hm, rfl, hall⟩ := hrel
                        have HM := Lib.hid hall
                        clear hall
                        by_cases hmn : m < n
                        · have HB3 := Lib.hid (r3Bit_any y m w HY.out (by omega))
                          rw [HYT.out m] at HB3
                          have HB4 := Lib.hid (r3Bit_any x m w HX.out (by omega))
                          rw [HXT.out m] at HB4
                          have HS := Lib.hid (all_more (fun c => !ubit up d c || ubit up k c) m)
                          have HBD : Hid ((!ubit up d m || ubit up k m) = false → okAB up k d = false) := Lib.hid (fun hf => by
                            rw [HU2.out, Bool.eq_false_iff]
                            intro hall
                            rw [List.all_eq_true] at hall
                            rw [hall m (by simpa using hmn)] at hf
                            cases hf)
                          cases hp : ubit up d m
                          · rw [hp] at HB3 HS
                            clear HBD HB4 hp
                            go_wp2_with (first | (go_at_call 45; (with_reducible refine HB3.out.mono ?_); rintro e w' ⟨rfl, rfl⟩))
                            go_round
                            case rel => exact ⟨m + 1, by omega, by go_num, by rw [HS.out, HM.out]; rfl⟩
                            case measure => simp [intOf]; omega
                          · rw [hp] at HB3 HS HBD
                            clear hp
                            cases hq : ubit up k m
                            · rw [hq] at HB4 HBD
                              have HE : Hid (checkB up = false) := Lib.hid (HF.out (HBD.out rfl))
                              clear hq HBD HF HS
                              go_wp2_with (first | (go_at_call 45; (with_reducible refine HB3.out.mono ?_); rintro e w' ⟨rfl, rfl⟩) | (go_at_call 45; (with_reducible refine HB4.out.mono ?_); rintro e w' ⟨rfl, rfl⟩))
                              go_ret
                              exact ⟨ret_bool HE.out.symm, Below.refl _ _⟩
                            · rw [hq] at HB4 HS
                              clear hq HBD
                              go_wp2_with (first | (go_at_call 45; (with_reducible refine HB3.out.mono ?_); rintro e w' ⟨rfl, rfl⟩) | (go_at_call 45; (with_reducible refine HB4.out.mono ?_); rintro e w' ⟨rfl, rfl⟩))
                              go_round
                              case rel => exact ⟨m + 1, by omega, by go_num, by rw [HS.out, HM.out]; rfl⟩
                              case measure => simp [intOf]; omega
                        · obtain rfl : m = n := by omega
                          have HE : Hid (okAB up k d = true) := Lib.hid (by rw [HU2.out]; exact HM.out)
                          go_wp2
                          go_round
                          case rel => exact ⟨d + 1, by omega, by go_num, fun b hb => by
                            by_cases e : b = d
                            · subst e; exact HE.out
                            · exact HD.out b (by omega)⟩
                          case measure => simp [intOf]; omega
            · obtain rfl : d = 64 := by omega
              go_wp2
              go_round
              case rel => exact ⟨k + 1, by omega, by go_num, fun a ha b hb => by
                by_cases e : a = k
                · subst e; exact HD.out b hb
                · exact HJ.out a (by omega) b hb⟩
              case measure => simp [intOf]; omega
        · obtain rfl : k = n := by omega
          have HJ2 : Hid (∀ a, a < up.length → ∀ b, b < 64 → okAB up a b = true) := Lib.hid (fun a ha b hb => HJ.out a (by have := HN.out; omega) b hb)
          clear HCell HJ HOK
          have HJn := Lib.hid (fun w1 (h1 : Below w.heap.size w w1) (a b : Int) => r3Join_any up A k c a b w1 (HA.out.below h1) hn)
          have HMe := Lib.hid (fun w1 (h1 : Below w.heap.size w w1) (a b : Int) => r3Meet_any up A k c a b w1 (HA.out.below h1) hn)
          have HBad : Hid (∀ a, a < k → ∀ b, b < a → (joinN up a b < 0 ∨ meetN up a b < 0) → checkB up = false) := Lib.hid (fun a ha b hb hx => checkB_no (fun hl => by
            have := hl.2.2.2.2.2 a (by have := HN.out; omega) b (by have := HN.out; omega)
            omega))
          go_wp2
          go_loopw [8] (fun i wr => ∃ p : Nat, p ≤ k ∧ i = .int .i64 p ∧ (∀ a, a < p → ∀ b, b < a → 0 ≤ joinN up a b ∧ 0 ≤ meetN up a b) ∧ Below w.heap.size w wr) (fun i _ => k - (intOf i).toNat)
          case atStart => exact ⟨0, Nat.zero_le _, rfl, fun a ha => absurd ha (by omega), Below.refl _ _⟩
          case round =>
            obtain ⟨p, hp, rfl, hj, hB⟩ := hrel
            have HP := Lib.hid hj
            have BW := Lib.hid hB
            clear hj hB
            by_cases hpk : p < k
            · obtain ⟨w3, hw3⟩ : ∃ w3 : World, w3 = wr := ⟨_, rfl⟩
              subst hw3
              go_wp2
              go_loopw [9] (fun i wr => ∃ q : Nat, q ≤ p ∧ i = .int .i64 q ∧ (∀ b, b < q → 0 ≤ joinN up p b ∧ 0 ≤ meetN up p b) ∧ Below w.heap.size w wr) (fun i _ => p - (intOf i).toNat)
              case atStart => exact ⟨0, Nat.zero_le _, rfl, fun a ha => absurd ha (by omega), BW.out⟩
              case round =>
                obtain ⟨q, hq, rfl, hj, hB⟩ := hrel
                have HQ := Lib.hid hj
                have BQ := Lib.hid hB
                clear hj hB
                by_cases hqp : q < p
                · have HX := Lib.hid (HBad.out p hpk q hqp)
                  have HJ1 := Lib.hid (fun w1 h1 => HJn.out w1 h1 (p : Int) (q : Int))
                  have HM1 := Lib.hid (fun w1 h1 => HMe.out w1 h1 (p : Int) (q : Int))
                  have HS : Hid (0 ≤ joinN up p q → 0 ≤ meetN up p q → ∀ b, b < q + 1 → 0 ≤ joinN up p b ∧ 0 ≤ meetN up p b) := Lib.hid (fun h1 h2 b hb => by
                    by_cases e : b = q
                    · subst e; exact ⟨h1, h2⟩
                    · exact HQ.out b (by omega))
                  generalize joinN up p q = J at HX HJ1 HS
                  generalize meetN up p q = M at HX HM1 HS
                  by_cases hJ : J < 0
                  · have e1 : decide (J < 0) = true := by simp; omega
                    have HE := Lib.hid (HX.out (.inl hJ))
                    clear hJ
                    go_wp2_with (go_at_call 70; refine (HJ1.out _ BQ.out).mono ?_; rintro e w' ⟨rfl, rfl⟩)
                    go_ret
                    exact ⟨ret_bool HE.out.symm, BQ.out⟩
                  · have e1 : decide (J < 0) = false := by simp; omega
                    by_cases hM : M < 0
                    · have e2 : decide (M < 0) = true := by simp; omega
                      have HE := Lib.hid (HX.out (.inr hM))
                      clear hJ hM
                      go_wp2_with (first | (go_at_call 70; refine (HJ1.out _ BQ.out).mono ?_; rintro e w' ⟨rfl, rfl⟩) | (go_at_call 71; refine (HM1.out _ BQ.out).mono ?_; rintro e w4 ⟨rfl, h4⟩; have B4 := Lib.hid (below_step BQ.out h4); clear h4))
                      go_ret
                      exact ⟨ret_bool HE.out.symm, B4.out⟩
                    · have e2 : decide (M < 0) = false := by simp; omega
                      have HE := Lib.hid (HS.out (by omega) (by omega))
                      clear hJ hM
                      go_wp2_with (first | (go_at_call 70; refine (HJ1.out _ BQ.out).mono ?_; rintro e w' ⟨rfl, rfl⟩) | (go_at_call 71; refine (HM1.out _ BQ.out).mono ?_; rintro e w4 ⟨rfl, h4⟩; have B4 := Lib.hid (below_step BQ.out h4); clear h4))
                      go_roundw
                      case rel => exact ⟨q + 1, by omega, by go_num, HE.out, B4.out⟩
                      case measure => simp [intOf]; omega
                · obtain rfl : q = p := by omega
                  obtain ⟨w5, hw5⟩ : ∃ w5 : World, w5 = wr := ⟨_, rfl⟩
                  subst hw5
                  go_wp2
                  go_roundw
                  case rel => exact ⟨q + 1, by omega, by go_num, fun a ha b hb => by
                    by_cases e : a = q
                    · subst e; exact HQ.out b hb
                    · exact HP.out a (by omega) b hb, BQ.out⟩
                  case measure => simp [intOf]; omega
            · obtain rfl : p = k := by omega
              have HE : Hid (checkB up = true) := Lib.hid (checkB_yes (lat_of_ok (by have := HN.out; omega) (by have := HN.out; omega) HJ2.out (fun a ha b hb => HP.out a (by have := HN.out; omega) b hb)))
              obtain ⟨w5, hw5⟩ : ∃ w5 : World, w5 = wr := ⟨_, rfl⟩
              subst hw5
              go_wp2
              go_ret
              exact ⟨ret_bool HE.out.symm, BW.out⟩

end Go.Proofs.YtglkmpglpddfdaaGreatDoor
