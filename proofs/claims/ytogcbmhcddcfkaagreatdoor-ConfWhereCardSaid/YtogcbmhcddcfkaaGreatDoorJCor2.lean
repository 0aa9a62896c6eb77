import Derived.Test.YtogcbmhcddcfkaaGreatDoorJCor1
/- Of a claim's texts, joined: Cor2. No statement but in the last. -/
namespace Go.Proofs.YtogcbmhcddcfkaaGreatDoor
open Go.RowKit
set_option linter.unusedVariables false

def labelT : List UInt8 := [108, 97, 98, 101, 108]
def underT : List UInt8 := [117, 110, 100, 101, 114]
def grantT : List UInt8 := [103, 114, 97, 110, 116]
def manyN (s : List UInt8) : Nat := if s = labelT ∨ s = underT then 3 else if s = grantT then 4 else 0
theorem r5many_any (s : List UInt8) (w : World) : Calls Tryz.prog 61 #[.string ⟨s.toArray⟩] w fun e w' => e = .returned (.int .i64 (manyN s : Int)) ∧ w = w' := by
  by_cases h1 : s = labelT
  · subst h1
    go_enter Tryz.func61, Tryz.ntmps61
    unfold labelT
    go_wp2
    go_ret
    exact ⟨rfl, rfl⟩
  · have k1 : (s == [108, 97, 98, 101, 108]) = false := by simpa [labelT] using h1
    by_cases h2 : s = underT
    · subst h2
      clear k1
      go_enter Tryz.func61, Tryz.ntmps61
      unfold underT
      go_wp2
      go_ret
      exact ⟨rfl, rfl⟩
    · have k2 : (s == [117, 110, 100, 101, 114]) = false := by simpa [underT] using h2
      by_cases h3 : s = grantT
      · subst h3
        clear k1 k2
        go_enter Tryz.func61, Tryz.ntmps61
        unfold grantT
        go_wp2
        go_ret
        exact ⟨rfl, rfl⟩
      · have k3 : (s == [103, 114, 97, 110, 116]) = false := by simpa [grantT] using h3
        have hm : manyN s = 0 := by simp [manyN, h1, h2, h3]
        rw [hm]
        clear hm h1 h2 h3
        go_enter Tryz.func61, Tryz.ntmps61
        go_wp2
        go_ret
        exact ⟨rfl, rfl⟩

/-! Decimal digits. -/
def digN (n : Nat) : List UInt8 := if h : n = 0 then [] else digN (n / 10) ++ [UInt8.ofNat (48 + n % 10)]
termination_by n
decreasing_by omega
theorem digN_zero : digN 0 = [] := by rw [digN]; simp
theorem digN_pos {n : Nat} (h : 0 < n) : digN n = digN (n / 10) ++ [UInt8.ofNat (48 + n % 10)] := by
  rw [digN]
  have : n ≠ 0 := by omega
  simp [this]
/-! Numbers. -/
def digB (b : UInt8) : Bool := decide (48 ≤ b.toNat ∧ b.toNat ≤ 57)
def valN (l : List UInt8) : Nat := l.foldl (fun n b => n * 10 + (b.toNat - 48)) 0
def quotaN (l : List UInt8) : Int := if l.all digB = true ∧ 1 ≤ l.length ∧ l.length ≤ 4 ∧ 4 ≤ valN l ∧ valN l ≤ 1000 then (valN l : Int) else -1
theorem valN_more {l : List UInt8} {k : Nat} {b : UInt8} (h : l[k]? = some b) : valN (l.take (k + 1)) = valN (l.take k) * 10 + (b.toNat - 48) := by
  rw [take_more h]
  simp [valN]
set_option maxHeartbeats 1000000 in
theorem r5number_any (l : List UInt8) (w : World) (hl : l.length ≤ 1000000) : Calls Tryz.prog 62 #[.string ⟨l.toArray⟩] w fun e w' => e = .returned (.int .i64 (quotaN l)) ∧ w = w' := by
  have hsz : (⟨l.toArray⟩ : ByteArray).size = l.length := size_list l
  go_enter Tryz.func62, Tryz.ntmps62
  go_wp2
  go_loopw [3, 4] (fun v i wr => wr = w ∧ ∃ k : Nat, k ≤ l.length ∧ k ≤ 4 ∧ i = .int .i64 k ∧ v = .int .i64 (valN (l.take k) : Int) ∧ (l.take k).all digB = true ∧ valN (l.take k) < 10 ^ k) (fun _ i _ => l.length - (intOf i).toNat)
  case atStart => exact ⟨rfl, 0, Nat.zero_le _, Nat.zero_le _, rfl, rfl, rfl, Nat.lt_of_lt_of_le (show 0 < 1 by omega) (Nat.le_refl _)⟩
  case round =>
    obtain ⟨rfl, k, hk, hk4, rfl, rfl, hal, hv⟩ := hrel
    have HA := Lib.hid hal
    have HV := Lib.hid hv
    have hv4 : valN (l.take k) < 10000 := Nat.lt_of_lt_of_le hv (Nat.pow_le_pow_right (n := 10) (by omega) hk4)
    clear hal hv
    by_cases hlt : k < l.length
    · obtain ⟨b, hb⟩ : ∃ b, l[k]? = some b := ⟨_, List.getElem?_eq_getElem hlt⟩
      have hks : k < (⟨l.toArray⟩ : ByteArray).size := by rw [size_list]; exact hlt
      have hbb : ((⟨l.toArray⟩ : ByteArray)[k]'hks).toNat = b.toNat := by
        have : ((⟨l.toArray⟩ : ByteArray)[k]'hks) = b := by
          have e : l[k] = b := by rw [List.getElem?_eq_getElem hlt] at hb; injection hb
          exact e
        rw [this]
      have HM := Lib.hid (valN_more hb)
      have HT : Hid ((l.take (k + 1)).all digB = ((l.take k).all digB && digB b)) := Lib.hid (by rw [take_more hb]; simp)
      have hd256 := b.toNat_lt
      have hbad : Hid (digB b = false → quotaN l = -1) := Lib.hid (fun hd => by
        unfold quotaN
        rw [if_neg]
        rintro ⟨h1, _⟩
        rw [List.all_eq_true] at h1
        have := h1 b (List.mem_of_getElem? hb)
        rw [hd] at this
        cases this)
      have hlong : Hid (3 < k → quotaN l = -1) := Lib.hid (fun h3 => by
        unfold quotaN
        rw [if_neg]
        rintro ⟨_, _, h4, _⟩
        omega)
      generalize valN (l.take k) = v at HV hv4 HM
      by_cases h48 : 48 ≤ b.toNat
      · by_cases h57 : b.toNat ≤ 57
        · have HD : Hid (digB b = true) := Lib.hid (by simp [digB]; omega)
          clear hbad
          by_cases h3 : 3 < k
          · have HE := Lib.hid (hlong.out h3)
            go_wp2
            go_ret
            exact ⟨ret_i64 HE.out.symm, rfl⟩
          · go_wp2
            go_roundw
            case rel =>
              refine ⟨trivial, k + 1, by omega, by omega, by go_num, by rw [HM.out]; go_num, by rw [HT.out, HA.out, HD.out]; rfl, ?_⟩
              rw [HM.out, Nat.pow_succ]
              have := HV.out
              omega
            case measure => simp [intOf]; omega
        · have HE := Lib.hid (hbad.out (by simp [digB]; omega))
          go_wp2
          go_ret
          exact ⟨ret_i64 HE.out.symm, rfl⟩
      · have HE := Lib.hid (hbad.out (by simp [digB]; omega))
        go_wp2
        go_ret
        exact ⟨ret_i64 HE.out.symm, rfl⟩
    · obtain rfl : k = l.length := by omega
      have hal := HA.out
      rw [List.take_length] at hal hv4 ⊢
      have hq : quotaN l = if 1 ≤ l.length ∧ 4 ≤ valN l ∧ valN l ≤ 1000 then (valN l : Int) else -1 := by
        unfold quotaN
        simp [hal, hk4]
      have HQ := Lib.hid hq
      clear hq hal HV HA
      have hemp : (l == []) = decide (l.length = 0) := by cases l <;> simp
      generalize valN l = v at HQ hv4 ⊢
      by_cases h0 : l.length = 0
      · have h0e : (l == []) = true := by rw [hemp]; simp [h0]
        have HE : Hid (quotaN l = -1) := Lib.hid (by rw [HQ.out, if_neg (by omega)])
        clear hemp
        go_wp2
        go_ret
        exact ⟨ret_i64 HE.out.symm, rfl⟩
      · have h0e : (l == []) = false := by rw [hemp]; simp [h0]
        clear hemp
        by_cases h4 : 4 ≤ v
        · by_cases h1000 : v ≤ 1000
          · have HE : Hid (quotaN l = v) := Lib.hid (by rw [HQ.out, if_pos ⟨by omega, h4, h1000⟩])
            go_wp2
            go_ret
            exact ⟨ret_i64 HE.out.symm, rfl⟩
          · have HE : Hid (quotaN l = -1) := Lib.hid (by rw [HQ.out, if_neg (by omega)])
            go_wp2
            go_ret
            exact ⟨ret_i64 HE.out.symm, rfl⟩
        · have HE : Hid (quotaN l = -1) := Lib.hid (by rw [HQ.out, if_neg (by omega)])
          go_wp2
          go_ret
          exact ⟨ret_i64 HE.out.symm, rfl⟩

end Go.Proofs.YtogcbmhcddcfkaaGreatDoor
