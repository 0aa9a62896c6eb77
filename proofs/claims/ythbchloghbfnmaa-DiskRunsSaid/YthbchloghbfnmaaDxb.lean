/- The document's regions of layer 6: up, bit, counts, and the pages of loose writes: contracts, no statement. -/
import Derived.Test.YthbchloghbfnmaaDxr
namespace Go.Proofs.Ythbchloghbfnmaa
open Go.RowKit
set_option linter.unusedVariables false

def upI (rs : List Rg) (x p : Int) (q : Bool) : Int := match regN rs x with
  | none => 2
  | some r => if r.down then 3 else if q && !hasB r p then 2 else 0
theorem upI_rd (rs : List Rg) (x p : Int) : upI rs x p true = rdE rs x p := by
  unfold upI rdE
  cases regN rs x with
  | none => rfl
  | some r => cases h : hasB r p <;> simp [h]
theorem upI_sy (rs : List Rg) (x p : Int) : upI rs x p false = upE rs x := by
  unfold upI upE
  cases regN rs x with
  | none => rfl
  | some r => simp
section
variable {w : World} {T : Tg} {A : Option Addr} {n c : Nat} {gs : List Gx}
set_option maxRecDepth 100000 in
set_option maxHeartbeats 1000000 in
theorem r6up_any (x p : Int) (q : Bool) (h : GA w T A n c gs) : Calls Try.prog 35 #[.slice A n c, .int .i64 x, .int .i64 p, .bool q] w fun e w' => e = .returned (.int .i64 (upI (rgs gs) x p q)) ∧ w = w' := by
  have hn := h.len
  unfold upI
  cases hr : regN (rgs gs) x with
  | none =>
    have h1 := regN_none hr
    rw [rgs_len, ← hn] at h1
    rcases h1 with h1 | h1
    · clear hr h hn
      go_enter Try.func35, Try.ntmps35
      go_wp2
      go_ret
      exact ⟨rfl, rfl⟩
    · by_cases h2 : x < 0
      · clear hr h hn
        go_enter Try.func35, Try.ntmps35
        go_wp2
        go_ret
        exact ⟨rfl, rfl⟩
      · clear hr h hn
        go_enter Try.func35, Try.ntmps35
        go_wp2
        go_ret
        exact ⟨rfl, rfl⟩
  | some r =>
    obtain ⟨k, g, rfl, hg, rfl, hk⟩ := regN_gs hr
    obtain ⟨b, off, rfl, c0, c1, c2, c3⟩ := h.at_ hg
    have i0 : ¬ (k : Int) < 0 := by omega
    have i1 : ¬ (n : Int) ≤ (k : Int) := by omega
    have i2 : (0 : Int) ≤ (k : Int) := by omega
    have i3 : (k : Int) < (n : Int) := by omega
    clear hr h hg hk hn
    dsimp only
    cases hd : g.r.down
    · rw [hd] at c3
      cases q
      · go_enter Try.func35, Try.ntmps35
        go_wp2
        go_ret
        exact ⟨rfl, rfl⟩
      · unfold hasB
        by_cases h1 : p < 0
        · have e1 : ¬ 0 ≤ p := by omega
          go_enter Try.func35, Try.ntmps35
          go_wp2
          go_ret
          exact ⟨by simp <;> omega, rfl⟩
        · have e1 : 0 ≤ p := by omega
          by_cases h2 : (g.r.size : Int) ≤ p
          · have e2 : ¬ p < (g.r.size : Int) := by omega
            go_enter Try.func35, Try.ntmps35
            go_wp2
            go_ret
            exact ⟨by simp <;> omega, rfl⟩
          · have e2 : p < (g.r.size : Int) := by omega
            go_enter Try.func35, Try.ntmps35
            go_wp2
            go_ret
            exact ⟨by simp <;> omega, rfl⟩
    · rw [hd] at c3
      go_enter Try.func35, Try.ntmps35
      go_wp2
      go_ret
      exact ⟨rfl, rfl⟩
end
theorem i64_eq' {a b : Int} (h : a = b) : Value.int .i64 a = .int .i64 b := by rw [h]
theorem tdiv2 (k : Nat) : ((k : Int).tdiv 2) = ((k / 2 : Nat) : Int) := by rw [Int.tdiv_eq_ediv_of_nonneg (by omega)]; omega
theorem tmod2 (k : Nat) : ((k : Int).tmod 2) = ((k % 2 : Nat) : Int) := by rw [Int.tmod_eq_emod_of_nonneg (by omega)]; omega
set_option maxRecDepth 100000 in
set_option maxHeartbeats 1000000 in
theorem r6bit_any (s : List UInt8) (k : Nat) (w : World) (hs : s.length ≤ 9223372036854775807) (hk : k ≤ 1000000) : Calls Try.prog 44 #[.string ⟨s.toArray⟩, .int .i64 (k : Int)] w fun e w' => e = .returned (.bool (bitS s k)) ∧ w = w' := by
  have q8 := quo8 k
  have r8 := rem8 k
  by_cases h : k / 8 < s.length
  · have e1 : decide (((k / 8 : Nat) : Int) < (s.length : Int)) = true := by simp; omega
    have hb : bitS s k = ((s[k / 8].toNat) / 2 ^ (k % 8) % 2 == 1) := by unfold bitS; rw [show s.getD (k / 8) 0 = s[k / 8] by simp [List.getD, h]]
    have hlt := s[k / 8].toNat_lt
    rw [hb]
    obtain ⟨y, hy⟩ : ∃ y, s[k / 8].toNat = y := ⟨_, rfl⟩
    rw [hy] at hlt
    rw [hy]
    have HY := Lib.hid hy
    clear hy
    obtain ⟨m, hm⟩ : ∃ m, k % 8 = m := ⟨_, rfl⟩
    have hm8 : m < 8 := by omega
    rw [hm] at r8
    rw [hm]
    have hi0 : (0 : Int) ≤ ((k / 8 : Nat) : Int) := by omega
    clear hb hm
    go_enter Try.func44, Try.ntmps44
    go_wp2
    go_loop [5, 6] (fun v i => ∃ j : Nat, j ≤ m ∧ i = .int .i64 (j : Int) ∧ v = .int .i64 ((y / 2 ^ j : Nat) : Int)) (fun _ i => m - (intOf i).toNat)
    case atStart => exact ⟨0, Nat.zero_le _, rfl, i64_eq' (by rw [Nat.pow_zero, Nat.div_one, ← HY.out]; exact IntWalk.wrap64_in _ (by rw [show (⟨s.toArray⟩ : ByteArray)[k / 8] = s[k / 8] from rfl, HY.out]; omega))⟩
    case round =>
      obtain ⟨j, hj, rfl, rfl⟩ := hrel
      have HS : Hid (y / 2 ^ (j + 1) = y / 2 ^ j / 2) := Lib.hid (by rw [Nat.pow_succ, Nat.div_div_eq_div_mul])
      have hb : y / 2 ^ j < 256 := Nat.lt_of_le_of_lt (Nat.div_le_self _ _) hlt
      by_cases hl : j < m
      · generalize y / 2 ^ j = z at hb HS
        have e2 := tdiv2 z
        go_wp2
        go_round
        case rel => exact ⟨j + 1, by omega, by go_num, i64_eq' (by rw [HS.out]; omega)⟩
        case measure => simp [intOf]; omega
      · obtain rfl : j = m := by omega
        clear HS
        obtain ⟨z, hz⟩ : ∃ z, y / 2 ^ j = z := ⟨_, rfl⟩
        have HZ := Lib.hid hz
        rw [hz] at hb ⊢
        clear hz
        have e2 := tmod2 z
        go_wp2
        go_ret
        exact ⟨ret_b (by rw [HZ.out, Bool.eq_iff_iff]; simp; omega), rfl⟩
  · have e1 : decide (((k / 8 : Nat) : Int) < (s.length : Int)) = false := by simp; omega
    go_enter Try.func44, Try.ntmps44
    go_wp2
    go_ret
    exact ⟨ret_b (bit_no h).symm, rfl⟩

end Go.Proofs.Ythbchloghbfnmaa
