import Derived.Test.YtlfmmmgdilencaaJLatr
import Derived.BigRegion
import Derived.ChangeAlike
/- Of a claim's texts, joined: Latq. No statement but in the last. -/
namespace Go.Proofs.Ytlfmmmgdilencaa
open Go.RowKit
set_option linter.unusedVariables false

def i64V (x : Nat) : Value := .int .i64 (x : Int)
set_option maxHeartbeats 1000000 in
theorem r3Same_any (l m : List Nat) (A B : Option Addr) (n c n' c' : Nat) (w : World) (hn : n = l.length) (hm : n' = m.length) (ha : Reads w A (l.map u64V)) (hb : Reads w B (m.map u64V)) (hl : n ≤ 1000000) :
    Calls Try.prog 16 #[.slice A n c, .slice B n' c'] w fun e w' => e = .returned (.bool (decide (l = m))) ∧ Below w.heap.size w w' := by
  have HN := Lib.hid hn
  have HM := Lib.hid hm
  have HA := Lib.hid ha
  have HB := Lib.hid hb
  clear hn hm ha hb
  by_cases hnn : n = n'
  · subst hnn
    go_enter Try.func16, Try.ntmps16
    go_wp2
    go_loopw [5] (fun i wr => ∃ k : Nat, k ≤ n ∧ i = .int .i64 k ∧ l.take k = m.take k ∧ Below w.heap.size w wr) (fun i _ => n - (intOf i).toNat)
    case atStart => exact ⟨0, Nat.zero_le _, rfl, rfl, Below.refl _ _⟩
    case round =>
      obtain ⟨k, hk, rfl, hj, hB⟩ := hrel
      have HJ := Lib.hid hj
      have BW := Lib.hid hB
      clear hj hB
      by_cases hlt : k < n
      · have hkl : k < l.length := by have := HN.out; omega
        have hkm : k < m.length := by have := HM.out; omega
        obtain ⟨g1, o1, rfl, c1⟩ := (HA.out.keep_ BW.out).at_ hkl
        obtain ⟨g2, o2, rfl, c2⟩ := (HB.out.keep_ BW.out).at_ hkm
        have HT : Hid (l.take (k + 1) = l.take k ++ [l[k]] ∧ m.take (k + 1) = m.take k ++ [m[k]]) := Lib.hid ⟨List.take_succ_eq_append_getElem hkl, List.take_succ_eq_append_getElem hkm⟩
        have HNE : Hid (l[k] ≠ m[k] → l ≠ m) := Lib.hid (fun h e => h (by subst e; rfl))
        generalize l[k] = x at c1 HT HNE
        generalize m[k] = y at c2 HT HNE
        clear hkl hkm
        have i0 : (0 : Int) ≤ (k : Int) := by omega
        have i1 : (k : Int) < (n : Int) := by omega
        by_cases hxy : x = y
        · have q : ((x : Int) != (y : Int)) = false := by simp [hxy]
          have HX := Lib.hid hxy
          clear hxy
          go_wp2
          go_region
          go_wp2
          go_roundw
          case rel => exact ⟨k + 1, by omega, by go_num, by rw [HT.out.1, HT.out.2, HJ.out, HX.out], BW.out.drew⟩
          case measure => simp [intOf]; omega
        · have q : ((x : Int) != (y : Int)) = true := by simp; omega
          have HX := Lib.hid (HNE.out hxy)
          clear hxy
          go_wp2
          go_region
          go_wp2
          go_ret
          exact ⟨ret_bool (by simp [HX.out]), BW.out.drew⟩
      · obtain rfl : k = n := by omega
        have HE : Hid (l = m) := Lib.hid (by
          have h1 := HJ.out
          rw [List.take_of_length_le (by have := HN.out; omega), List.take_of_length_le (by have := HM.out; omega)] at h1
          exact h1)
        obtain ⟨w3, hw3⟩ : ∃ w3 : World, w3 = wr := ⟨_, rfl⟩
        subst hw3
        go_wp2
        go_ret
        exact ⟨ret_bool (by simp [HE.out]), BW.out⟩
  · have q : ((n : Int) != (n' : Int)) = true := by simp; omega
    have HE : Hid (l ≠ m) := Lib.hid (fun e => hnn (by rw [HN.out, HM.out, e]))
    clear hnn
    go_enter Try.func16, Try.ntmps16
    go_wp2
    go_ret
    exact ⟨ret_bool (by simp [HE.out]), Below.refl _ _⟩

/-! Check. -/
def okAB (up : List Nat) (a b : Nat) : Bool :=
  !(ubit up a b && decide (up.length ≤ b) || decide (a = b) && !ubit up a b || ubit up a b && !decide (a = b) && ubit up b a) && (!ubit up a b || (List.range up.length).all fun c => !ubit up b c || ubit up a c)
end Go.Proofs.Ytlfmmmgdilencaa
