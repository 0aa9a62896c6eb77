import Derived.Test.YtogcbmhcddcfkaaGreatDoorJCor1
/- Of a claim's texts, joined: Cor2. No statement but in the last. -/
namespace Go.Proofs.YtogcbmhcddcfkaaGreatDoor
open Go.RowKit
set_option linter.unusedVariables false

def labelT : List UInt8 := [108, 97, 98, 101, 108]
def underT : List UInt8 := [117, 110, 100, 101, 114]
def grantT : List UInt8 := [103, 114, 97, 110, 116]
def manyN (s : List UInt8) : Nat := if s = labelT ∨ s = underT then 3 else if s = grantT then 4 else 0
/-! Decimal digits. -/
def digN (n : Nat) : List UInt8 := if h : n = 0 then [] else digN (n / 10) ++ [UInt8.ofNat (48 + n % 10)]
termination_by n
decreasing_by omega
theorem digN_zero : digN 0 = [] := by rw [digN]; simp
theorem digN_pos {n : Nat} (h : 0 < n) : digN n = digN (n / 10) ++ [UInt8.ofNat (48 + n % 10)] := by
  rw [digN]
  have : n ≠ 0 := by omega
  simp [this]
set_option maxHeartbeats 1000000 in
theorem r5digits_any (n : Nat) (w : World) (hn : n ≤ 1000000) : Calls Tryz.prog 47 #[.int .i64 (n : Int)] w fun e w' => e = .returned (.string ⟨(digN n).toArray⟩) ∧ Below w.heap.size w w' := by
  go_enter Tryz.func47, Tryz.ntmps47
  go_wp2
  go_loopw [0, 3] (fun i v wr => ∃ (m : Nat) (l : List UInt8), m ≤ n ∧ i = .int .i64 m ∧ v = .string ⟨l.toArray⟩ ∧ digN m ++ l = digN n ∧ l.length + m ≤ n ∧ Below w.heap.size w wr) (fun i _ _ => (intOf i).toNat)
  case atStart => exact ⟨n, [], Nat.le_refl _, rfl, rfl, by simp, by simp, Below.refl _ _⟩
  case round =>
    obtain ⟨m, l, hm, rfl, rfl, hd, hll, hB⟩ := hrel
    have HD := Lib.hid hd
    have HB := Lib.hid hB
    clear hd hB
    by_cases h0 : 0 < m
    · have HP := Lib.hid (digN_pos h0)
      have hdv : byteV (UInt8.ofNat (48 + m % 10)) = .int .u8 (48 + (m : Int) % 10) := by
        unfold byteV
        rw [UInt8.toNat_ofNat']
        congr 1
        omega
      have hcv : (convert 38 9 (.slice (some ⟨wr.heap.size, 0, none⟩) 1 1)).run Tryz.prog (wr.alloc (.cells #[.int .u8 (48 + (m : Int) % 10)] 5)) = .ok (.string ⟨[UInt8.ofNat (48 + m % 10)].toArray⟩) (wr.alloc (.cells #[.int .u8 (48 + (m : Int) % 10)] 5)) := by
        rw [← hdv]
        exact str_row (n := 1) (c := 1) (l := [UInt8.ofNat (48 + m % 10)]) rfl (row_made wr [UInt8.ofNat (48 + m % 10)])
      have HA := Lib.hid (str_cons (UInt8.ofNat (48 + m % 10)) l)
      generalize UInt8.ofNat (48 + m % 10) = d at hcv HP HA
      clear hdv
      go_wp2
      go_roundw
      case rel => exact ⟨m / 10, d :: l, by omega, by go_num, str_eq2 HA.out, by rw [← HD.out, HP.out]; simp, by rw [List.length_cons]; omega, HB.out.alloc HB.out.size _⟩
      case measure => simp [intOf]; omega
    · obtain rfl : m = 0 := by omega
      have hl : l = digN n := by rw [← HD.out, digN_zero]; rfl
      subst hl
      obtain ⟨w5, hw5⟩ : ∃ w5 : World, w5 = wr := ⟨_, rfl⟩
      subst hw5
      go_wp2
      go_ret
      exact ⟨rfl, HB.out⟩

/-! Numbers. -/
def digB (b : UInt8) : Bool := decide (48 ≤ b.toNat ∧ b.toNat ≤ 57)
def valN (l : List UInt8) : Nat := l.foldl (fun n b => n * 10 + (b.toNat - 48)) 0
def quotaN (l : List UInt8) : Int := if l.all digB = true ∧ 1 ≤ l.length ∧ l.length ≤ 4 ∧ 4 ≤ valN l ∧ valN l ≤ 1000 then (valN l : Int) else -1
end Go.Proofs.YtogcbmhcddcfkaaGreatDoor
