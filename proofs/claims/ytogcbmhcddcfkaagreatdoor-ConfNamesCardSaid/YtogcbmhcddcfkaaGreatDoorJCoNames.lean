import Derived.Test.YtogcbmhcddcfkaaGreatDoorJCoa
import Derived.Test.YtogcbmhcddcfkaaGreatDoorJ07
/- Of a claim's texts, joined: CoNames. No statement but in the last. -/
namespace Go.Proofs.YtogcbmhcddcfkaaGreatDoor
open Go.RowKit
set_option linter.unusedVariables false

theorem name_nil : nameB [] = false := by decide +kernel
set_option maxRecDepth 100000 in
set_option maxHeartbeats 4000000 in
theorem walkCoNames (s t : List UInt8) (c : UInt8) (w : World) (ht : Base5 w) :
    Calls Tryz.prog 7 #[.string ⟨s.toArray⟩, .string ⟨t.toArray⟩, .int .u8 (c.toNat : Int)] w fun e w' => e = .returned (.bool true) ∧ Below w.heap.size w w' := by
  have HT := Lib.hid ht
  have hs1 : (⟨s.toArray⟩ : ByteArray).size = s.length := size_list s
  have hs2 : (⟨t.toArray⟩ : ByteArray).size = t.length := size_list t
  clear ht
  by_cases hl1 : 100 < s.length
  · have e1 : decide (100 < (s.length : Int)) = true := by simp; omega
    go_enter Tryz.func7, Tryz.ntmps7
    go_wp2_with (go_at_call 9; refine (awake05_any _ HT.out).mono ?_; rintro e w0 ⟨rfl, h0⟩; have B0 := Lib.hid h0; clear h0)
    go_ret
    exact ⟨rfl, B0.out⟩
  have e1 : decide (100 < (s.length : Int)) = false := by simp; omega
  by_cases hl2 : 100 < t.length
  · have e2 : decide (100 < (t.length : Int)) = true := by simp; omega
    go_enter Tryz.func7, Tryz.ntmps7
    go_wp2_with (go_at_call 9; refine (awake05_any _ HT.out).mono ?_; rintro e w0 ⟨rfl, h0⟩; have B0 := Lib.hid h0; clear h0)
    go_ret
    exact ⟨rfl, B0.out⟩
  have e2 : decide (100 < (t.length : Int)) = false := by simp; omega
  have HNs := Lib.hid (fun w1 (hb : Below w.heap.size w w1) => coName_any s w1 (HT.out.below hb) (by omega))
  have HNt := Lib.hid (fun w1 (hb : Below w.heap.size w w1) => coName_any t w1 (HT.out.below hb) (by omega))
  cases hns : nameB s
  · rw [hns] at HNs
    go_enter Tryz.func7, Tryz.ntmps7
    go_wp2_with (first
      | (go_at_call 9; refine (awake05_any _ HT.out).mono ?_; rintro e w0 ⟨rfl, h0⟩; have B0 := Lib.hid h0; clear h0)
      | (go_at_call 13; (with_reducible refine (HNs.out _ B0.out).mono ?_); rintro e w1 ⟨rfl, h1⟩; have B1 := Lib.hid (below_step B0.out h1); clear h1))
    go_ret
    exact ⟨rfl, B1.out⟩
  cases hnt : nameB t
  · rw [hns] at HNs
    rw [hnt] at HNt
    go_enter Tryz.func7, Tryz.ntmps7
    go_wp2_with (first
      | (go_at_call 9; refine (awake05_any _ HT.out).mono ?_; rintro e w0 ⟨rfl, h0⟩; have B0 := Lib.hid h0; clear h0)
      | (go_at_call 13; (with_reducible refine (HNs.out _ B0.out).mono ?_); rintro e w1 ⟨rfl, h1⟩; have B1 := Lib.hid (below_step B0.out h1); clear h1)
      | (go_at_call 13; (with_reducible refine (HNt.out _ B1.out).mono ?_); rintro e w2 ⟨rfl, h1⟩; have B2 := Lib.hid (below_step B1.out h1); clear h1))
    go_ret
    exact ⟨rfl, B2.out⟩
  · have HApp := Lib.hid (name_app hns hnt)
    have HSig := Lib.hid (fun h => name_sign (c := c) hns hnt h)
    rw [hns] at HNs
    rw [hnt] at HNt
    clear hns hnt
    have hst : (⟨s.toArray⟩ : ByteArray) ++ ⟨t.toArray⟩ = ⟨(s ++ t).toArray⟩ := str_app s t
    have hsc : (⟨s.toArray⟩ : ByteArray) ++ ⟨[c].toArray⟩ = ⟨(s ++ [c]).toArray⟩ := str_app s [c]
    have hsct : (⟨(s ++ [c]).toArray⟩ : ByteArray) ++ ⟨t.toArray⟩ = ⟨(s ++ ([c] ++ t)).toArray⟩ := by rw [str_app, List.append_assoc]
    have hs3 : (⟨(s ++ [c]).toArray⟩ : ByteArray).size = s.length + 1 := by rw [size_list]; simp
    have hs4 : (⟨([c] : List UInt8).toArray⟩ : ByteArray).size = 1 := size_list [c]
    have hL : (s ++ t).length ≤ 200 := by rw [List.length_append]; omega
    have HNst := Lib.hid (fun w1 (hb : Below w.heap.size w w1) => coName_any (s ++ t) w1 (HT.out.below hb) (by omega))
    have HNsct := Lib.hid (fun w1 (hb : Below w.heap.size w w1) => coName_any (s ++ ([c] ++ t)) w1 (HT.out.below hb) (by rw [List.length_append, List.length_append]; simp; omega))
    have HNn := Lib.hid (fun w1 (hb : Below w.heap.size w w1) => coName_any [] w1 (HT.out.below hb) (by simp))
    rw [name_nil] at HNn
    generalize s ++ ([c] ++ t) = X at hsct HNsct HSig
    rw [HApp.out] at HNst
    have HCL := Lib.hid (cut_len (s ++ t))
    clear HApp
    generalize s ++ t = L at hst HNst hL HCL
    go_enter Tryz.func7, Tryz.ntmps7
    go_wp2_with (first
      | (go_at_call 9; refine (awake05_any _ HT.out).mono ?_; rintro e w0 ⟨rfl, h0⟩; have B0 := Lib.hid h0; clear h0)
      | (go_at_call 13; (with_reducible refine (HNs.out _ B0.out).mono ?_); rintro e w1 ⟨rfl, h1⟩; have B1 := Lib.hid (below_step B0.out h1); clear h1)
      | (go_at_call 13; (with_reducible refine (HNt.out _ B1.out).mono ?_); rintro e w2 ⟨rfl, h1⟩; have B2 := Lib.hid (below_step B1.out h1); clear h1))
    go_loopw [8] (fun v wr => ∃ pos n : Nat, pos ≤ L.length ∧ wr.heap[w2.heap.size]? = some (.stringIter ⟨L.toArray⟩ pos) ∧ Below w2.heap.size w2 wr ∧ v = .int .i64 n ∧ n + (cut (L.drop pos)).length = (cut L).length) (fun _ wr => L.length - wr.iterPos w2.heap.size)
    case atStart =>
      refine ⟨0, 0, Nat.zero_le _, ?_, (Below.refl _ w2).alloc (Nat.le_refl _) _, rfl, by simp⟩
      have := World.iter_heap w2 ⟨L.toArray⟩ 0
      simpa using this
    case round =>
      obtain ⟨pos, n, hp, hit, hB, rfl, hs⟩ := hrel
      have HB := Lib.hid hB
      have HS := Lib.hid hs
      clear hB hs
      by_cases hlt : pos < L.length
      · obtain ⟨hc, hw1, hw2, hr⟩ := drop_sign hlt
        have hnx := fun ty => next_sign (P := Tryz.prog) hit hlt ty
        have HI := Lib.hid (fun p => Lib.iterAt_heap wr w2.heap.size ⟨L.toArray⟩ pos p hit)
        have HBi := Lib.hid (fun p => Lib.below_iterAt HB.out (k := w2.heap.size) (Nat.le_refl _) ⟨L.toArray⟩ p)
        have HM := Lib.hid (iter_pos hit)
        have HC := Lib.hid hc
        clear hc
        generalize (decL (L.drop pos)).1 = r at hnx HC hr
        generalize (decL (L.drop pos)).2 = k at hnx HC hw1 hw2
        have hnl : n < 1000 := by have := HS.out; have := HCL.out; rw [HC.out, List.length_cons] at *; omega
        have HNr : Hid (n + 1 + (cut (L.drop (pos + k))).length = (cut L).length) := Lib.hid (by rw [← HS.out, HC.out, List.length_cons]; omega)
        go_wp2
        go_roundw
        case rel => exact ⟨pos + k, n + 1, hw2, HI.out _, HBi.out _, by go_num, HNr.out⟩
        case measure =>
          rw [iter_pos (HI.out _), HM.out]
          omega
      · have hnx := fun ty => next_end (P := Tryz.prog) hit hlt ty
        have hs := HS.out
        rw [List.drop_eq_nil_of_le (by omega), cut_nil] at hs
        have HNe : Hid ((cut L).length = n) := Lib.hid (by rw [← hs]; simp)
        clear hs
        rw [HNe.out] at HNst
        have B3 := Lib.hid (B2.out.trans (HB.out.mono B2.out.size))
        obtain ⟨w3, hw3⟩ : ∃ w3 : World, w3 = wr := ⟨_, rfl⟩
        subst hw3
        have hcv : (convert 38 9 (.slice (some ⟨w3.heap.size, 0, none⟩) 1 1)).run Tryz.prog (w3.alloc (.cells #[.int .u8 (c.toNat : Int)] 5)) = .ok (.string ⟨[c].toArray⟩) (w3.alloc (.cells #[.int .u8 (c.toNat : Int)] 5)) :=
          str_row (n := 1) (c := 1) (l := [c]) rfl (row_made w3 [c])
        have B4 := Lib.hid (B3.out.alloc B3.out.size (.cells #[.int .u8 (c.toNat : Int)] 5))
        have hq : ((decide (97 ≤ (c.toNat : Int)) && decide ((c.toNat : Int) ≤ 122)) || (decide (65 ≤ (c.toNat : Int)) && decide ((c.toNat : Int) ≤ 90))) = true ∨ nameB X = false := by
          by_cases h : (97 ≤ c.toNat ∧ c.toNat ≤ 122) ∨ (65 ≤ c.toNat ∧ c.toNat ≤ 90)
          · left
            simp only [Bool.or_eq_true, Bool.and_eq_true, decide_eq_true_eq]
            omega
          · exact .inr (HSig.out h)
        obtain ⟨l1, hl1'⟩ : ∃ b, decide (97 ≤ (c.toNat : Int)) = b := ⟨_, rfl⟩
        obtain ⟨l2, hl2'⟩ : ∃ b, decide ((c.toNat : Int) ≤ 122) = b := ⟨_, rfl⟩
        obtain ⟨l3, hl3'⟩ : ∃ b, decide (65 ≤ (c.toNat : Int)) = b := ⟨_, rfl⟩
        obtain ⟨l4, hl4'⟩ : ∃ b, decide ((c.toNat : Int) ≤ 90) = b := ⟨_, rfl⟩
        rw [hl1', hl2', hl3', hl4'] at hq
        have HQ := Lib.hid hq
        generalize nameB X = ns at HNsct HQ
        clear hq hlt hit
        cases l1 <;> cases l2 <;> cases l3 <;> cases l4
        all_goals
          have hns := HQ.out
          simp at hns
          try (subst hns)
          go_wp2_with (first
            | (go_at_call 13; (with_reducible refine (HNst.out _ B4.out).mono ?_); rintro e w5 ⟨rfl, h1⟩; have B5 := Lib.hid (below_step B4.out h1); clear h1)
            | (go_at_call 13; (with_reducible refine (HNsct.out _ B5.out).mono ?_); rintro e w6 ⟨rfl, h1⟩; have B6 := Lib.hid (below_step B5.out h1); clear h1)
            | (go_at_call 13; (first | (with_reducible refine (HNn.out _ B6.out).mono ?_) | (with_reducible refine (HNn.out _ B5.out).mono ?_)); rintro e w7 ⟨rfl, h1⟩; have B7 := Lib.hid h1; clear h1))
          go_ret
          exact ⟨ret_bool (by simp), by first | exact below_step B6.out B7.out | exact below_step B5.out B7.out⟩

end Go.Proofs.YtogcbmhcddcfkaaGreatDoor
