/- Layer 14: CutTwo, whatever comes in. Written by gen/cutwo.py. -/
import Derived.Test.YtnidommmnmpdlaaCtw
namespace Go.Proofs.Ytnidommmnmpdlaa
open Go.RowKit
set_option linter.unusedVariables false

set_option maxRecDepth 100000 in
set_option maxHeartbeats 4000000 in
theorem walkCutTwo (a b : Int) (l : List Int) (A : Option Addr) (n c : Nat) (W : World) (ha : 0 ≤ a ∧ a ≤ 255) (hb : 0 ≤ b ∧ b ≤ 255) (h : RowZ W A n c l) :
    Calls Try.prog 6 #[.int .u8 a, .int .u8 b, .slice A n c] W fun e W' => e = .returned (.bool true) ∧ Below W.heap.size W W' := by
  obtain ⟨i0, hi, hz0, hz1, hz2⟩ := info_parts int_info13
  have HAW := Lib.hid (awake14_any W)
  have HSZ := Lib.hid (fun w1 (b1 : Below W.heap.size W w1) => sizes14_any l A n c w1 (h.below b1))
  have HLO := Lib.hid (fun v => low1_of v a (by omega) _ rfl)
  have HA1 := Lib.hid (fun v => at1_of v a (by omega))
  have HA0 := Lib.hid (fun v => cuAt_any [] none 0 0 v (RowZ.none_ v) ⟨fun x hx => absurd hx (List.not_mem_nil), Nat.zero_le _⟩)
  have hz : atZ [] = 0 := by decide
  rw [hz] at HA0
  clear hz
  have a0 : (0 : Int) ≤ a := ha.1
  have a1 : a ≤ 255 := ha.2
  have b0 : (0 : Int) ≤ b := hb.1
  have b1 : b ≤ 255 := hb.2
  have HFS : Hid (fewZ l = true → ¬ n < 2 → SizZ l ∧ SizZ (l ++ [0]) ∧ atZ (l ++ [0]) = atZ l) := Lib.hid (fun hf hn => by
    have h1 := fewZ_iff.1 hf
    refine ⟨fewZ_siz hf, ⟨fun x hx => ?_, by rw [List.length_append, List.length_singleton]; omega⟩, nought_at (fun x hx => (h1.1 x hx).1) (by rw [← h.len]; omega)⟩
    rcases List.mem_append.1 hx with hx | hx
    · exact h1.1 x hx
    · rw [List.mem_singleton] at hx
      omega)
  have HRW := Lib.hid (fun w1 (b1 : Below W.heap.size W w1) => h.below b1)
  have HN := Lib.hid h.len
  clear ha hb h
  have main : ∀ r : Int, r = (if 122 < a + b then 1 else 0) → (r = 0 ∨ r = 1) → Calls Try.prog 6 #[.int .u8 a, .int .u8 b, .slice A n c] W fun e W' => e = .returned (.bool true) ∧ Below W.heap.size W W' := by
    intro r hr hr2
    have HA2 := Lib.hid (fun v => at2_of v a b r (by omega) (by omega) hr)
    by_cases c1 : 122 < a + b
    · rw [if_pos c1] at hr
      subst hr
      cases hf : fewZ l with
      | false =>
        rw [hf] at HSZ
        go_enter Try.func6, Try.ntmps6
        go_wp2_with (first
          | (go_at_call 7; (with_reducible refine HAW.out.mono ?_); rintro e w1 ⟨rfl, b1⟩; have B1 := Lib.hid b1; clear b1)
          | (go_at_call 11; (with_reducible refine (HA2.out _).mono ?_); rintro e w2 ⟨rfl, b2⟩; have B2 := Lib.hid (below_step B1.out b2); clear b2)
          | (go_at_call 11; (with_reducible refine (HA1.out _).mono ?_); rintro e w3 ⟨rfl, b3⟩; have B3 := Lib.hid (below_step B2.out b3); clear b3)
          | (go_at_call 11; (with_reducible refine (HA0.out _).mono ?_); rintro e w4 ⟨rfl, b4⟩; have B4 := Lib.hid (below_step B3.out b4); clear b4)
          | (go_at_call 13; (with_reducible refine (HLO.out _).mono ?_); rintro e w5 ⟨rfl, b5⟩; have B5 := Lib.hid (below_step B4.out b5); clear b5)
          | (go_at_call 8; (with_reducible refine (HSZ.out _ B5.out).mono ?_); rintro e w6 ⟨rfl, rfl⟩; have HRK := Lib.hid (HRW.out _ B5.out)))
        go_ret
        exact ⟨rfl, B5.out⟩
      | true =>
        rw [hf] at HSZ
        by_cases c2 : n < 2
        · have c3 : (n : Int) < 2 := by omega
          go_enter Try.func6, Try.ntmps6
          go_wp2_with (first
            | (go_at_call 7; (with_reducible refine HAW.out.mono ?_); rintro e w1 ⟨rfl, b1⟩; have B1 := Lib.hid b1; clear b1)
            | (go_at_call 11; (with_reducible refine (HA2.out _).mono ?_); rintro e w2 ⟨rfl, b2⟩; have B2 := Lib.hid (below_step B1.out b2); clear b2)
            | (go_at_call 11; (with_reducible refine (HA1.out _).mono ?_); rintro e w3 ⟨rfl, b3⟩; have B3 := Lib.hid (below_step B2.out b3); clear b3)
            | (go_at_call 11; (with_reducible refine (HA0.out _).mono ?_); rintro e w4 ⟨rfl, b4⟩; have B4 := Lib.hid (below_step B3.out b4); clear b4)
            | (go_at_call 13; (with_reducible refine (HLO.out _).mono ?_); rintro e w5 ⟨rfl, b5⟩; have B5 := Lib.hid (below_step B4.out b5); clear b5)
            | (go_at_call 8; (with_reducible refine (HSZ.out _ B5.out).mono ?_); rintro e w6 ⟨rfl, rfl⟩; have HRK := Lib.hid (HRW.out _ B5.out)))
          go_ret
          exact ⟨rfl, B5.out⟩
        · have c3 : ¬ (n : Int) < 2 := by omega
          obtain ⟨h1, h2, h3⟩ := HFS.out hf c2
          have HS1 := Lib.hid h1
          have HS2 := Lib.hid h2
          have HE := Lib.hid h3
          have hn1 : n ≤ 101 := by rw [HN.out]; exact h1.2
          clear h1 h2 h3
          go_enter Try.func6, Try.ntmps6
          go_wp2_with (first
            | (go_at_call 7; (with_reducible refine HAW.out.mono ?_); rintro e w1 ⟨rfl, b1⟩; have B1 := Lib.hid b1; clear b1)
            | (go_at_call 11; (with_reducible refine (HA2.out _).mono ?_); rintro e w2 ⟨rfl, b2⟩; have B2 := Lib.hid (below_step B1.out b2); clear b2)
            | (go_at_call 11; (with_reducible refine (HA1.out _).mono ?_); rintro e w3 ⟨rfl, b3⟩; have B3 := Lib.hid (below_step B2.out b3); clear b3)
            | (go_at_call 11; (with_reducible refine (HA0.out _).mono ?_); rintro e w4 ⟨rfl, b4⟩; have B4 := Lib.hid (below_step B3.out b4); clear b4)
            | (go_at_call 13; (with_reducible refine (HLO.out _).mono ?_); rintro e w5 ⟨rfl, b5⟩; have B5 := Lib.hid (below_step B4.out b5); clear b5)
            | (go_at_call 8; (with_reducible refine (HSZ.out _ B5.out).mono ?_); rintro e w6 ⟨rfl, rfl⟩; have HRK := Lib.hid (HRW.out _ B5.out))
            | (at_builtin; (refine wpList_append_zs rfl _ _ 22 rfl w5.heap.size 3 i0 Try.underlying22 hi hz0 hz1 hz2 _ 0 [] rfl (World.ownsRow_nil _ _ _ _) _ n _ l rfl HN.out HRK.out.nil HRK.out.reads (by omega) (Nat.le_refl _) ?_; intro v7 w7 h7 h8; rw [Nat.zero_add, List.nil_append] at h7; have O7 := Lib.hid h7; have G7 : Hid (Below w5.heap.size w5 w7) := Lib.hid (below_own14 (Below.refl _ w5) h8 (World.ownsRow_nil _ w5.heap.size 3 1) (Nat.le_refl _)); clear h7 h8))
            | (at_builtin; (refine wpList_append_own _ rfl _ _ 22 rfl w5.heap.size 3 i0 (.int .i64 0) 1 8 Try.underlying22 hi hz0 hz1 hz2 rfl (by decide) _ n _ rfl (O7.out.alloc _) ⟨w7.heap.size, 0, none⟩ 1 1 [.int .i64 0] rfl rfl (lies_one13 _ _ _) (by simp [Value.oneCell']) (by unfold maxLen; omega) (by omega) (Nat.le_trans G7.out.size (by simp)) ?_; intro v8 w8 h7 h8 hnil; clear hnil; have G8 : Hid (Below w5.heap.size w5 w8) := Lib.hid (below_own14 (below_alloc' G7.out (.cells #[.int .i64 0] 3)) h8 (O7.out.alloc _) (Nat.le_trans G7.out.size (by simp))); obtain ⟨A8, c8, rfl, r8⟩ := RowZ.own (l := l ++ [0]) (by simpa using h7); have R8 := Lib.hid r8; clear h7 h8 r8))
            | (go_at_call 11; (with_reducible refine (cuAt_any (l ++ [0]) A8 (n + 1) c8 _ R8.out HS2.out).mono ?_); rintro e w9 ⟨rfl, b9⟩; have B9 := Lib.hid (below_step (below_step B5.out G8.out) b9); clear b9)
            | (go_at_call 11; (with_reducible refine (cuAt_any l A n c _ (HRW.out _ B9.out) HS1.out).mono ?_); rintro e w10 ⟨rfl, b10⟩; have B10 := Lib.hid (below_step B9.out b10); clear b10))
          go_ret
          exact ⟨by rw [HE.out]; simp, B10.out⟩
    · rw [if_neg c1] at hr
      subst hr
      cases hf : fewZ l with
      | false =>
        rw [hf] at HSZ
        go_enter Try.func6, Try.ntmps6
        go_wp2_with (first
          | (go_at_call 7; (with_reducible refine HAW.out.mono ?_); rintro e w1 ⟨rfl, b1⟩; have B1 := Lib.hid b1; clear b1)
          | (go_at_call 11; (with_reducible refine (HA2.out _).mono ?_); rintro e w2 ⟨rfl, b2⟩; have B2 := Lib.hid (below_step B1.out b2); clear b2)
          | (go_at_call 11; (with_reducible refine (HA1.out _).mono ?_); rintro e w3 ⟨rfl, b3⟩; have B3 := Lib.hid (below_step B2.out b3); clear b3)
          | (go_at_call 11; (with_reducible refine (HA0.out _).mono ?_); rintro e w4 ⟨rfl, b4⟩; have B4 := Lib.hid (below_step B3.out b4); clear b4)
          | (go_at_call 13; (with_reducible refine (HLO.out _).mono ?_); rintro e w5 ⟨rfl, b5⟩; have B5 := Lib.hid (below_step B4.out b5); clear b5)
          | (go_at_call 8; (with_reducible refine (HSZ.out _ B5.out).mono ?_); rintro e w6 ⟨rfl, rfl⟩; have HRK := Lib.hid (HRW.out _ B5.out)))
        go_ret
        exact ⟨rfl, B5.out⟩
      | true =>
        rw [hf] at HSZ
        by_cases c2 : n < 2
        · have c3 : (n : Int) < 2 := by omega
          go_enter Try.func6, Try.ntmps6
          go_wp2_with (first
            | (go_at_call 7; (with_reducible refine HAW.out.mono ?_); rintro e w1 ⟨rfl, b1⟩; have B1 := Lib.hid b1; clear b1)
            | (go_at_call 11; (with_reducible refine (HA2.out _).mono ?_); rintro e w2 ⟨rfl, b2⟩; have B2 := Lib.hid (below_step B1.out b2); clear b2)
            | (go_at_call 11; (with_reducible refine (HA1.out _).mono ?_); rintro e w3 ⟨rfl, b3⟩; have B3 := Lib.hid (below_step B2.out b3); clear b3)
            | (go_at_call 11; (with_reducible refine (HA0.out _).mono ?_); rintro e w4 ⟨rfl, b4⟩; have B4 := Lib.hid (below_step B3.out b4); clear b4)
            | (go_at_call 13; (with_reducible refine (HLO.out _).mono ?_); rintro e w5 ⟨rfl, b5⟩; have B5 := Lib.hid (below_step B4.out b5); clear b5)
            | (go_at_call 8; (with_reducible refine (HSZ.out _ B5.out).mono ?_); rintro e w6 ⟨rfl, rfl⟩; have HRK := Lib.hid (HRW.out _ B5.out)))
          go_ret
          exact ⟨rfl, B5.out⟩
        · have c3 : ¬ (n : Int) < 2 := by omega
          obtain ⟨h1, h2, h3⟩ := HFS.out hf c2
          have HS1 := Lib.hid h1
          have HS2 := Lib.hid h2
          have HE := Lib.hid h3
          have hn1 : n ≤ 101 := by rw [HN.out]; exact h1.2
          clear h1 h2 h3
          go_enter Try.func6, Try.ntmps6
          go_wp2_with (first
            | (go_at_call 7; (with_reducible refine HAW.out.mono ?_); rintro e w1 ⟨rfl, b1⟩; have B1 := Lib.hid b1; clear b1)
            | (go_at_call 11; (with_reducible refine (HA2.out _).mono ?_); rintro e w2 ⟨rfl, b2⟩; have B2 := Lib.hid (below_step B1.out b2); clear b2)
            | (go_at_call 11; (with_reducible refine (HA1.out _).mono ?_); rintro e w3 ⟨rfl, b3⟩; have B3 := Lib.hid (below_step B2.out b3); clear b3)
            | (go_at_call 11; (with_reducible refine (HA0.out _).mono ?_); rintro e w4 ⟨rfl, b4⟩; have B4 := Lib.hid (below_step B3.out b4); clear b4)
            | (go_at_call 13; (with_reducible refine (HLO.out _).mono ?_); rintro e w5 ⟨rfl, b5⟩; have B5 := Lib.hid (below_step B4.out b5); clear b5)
            | (go_at_call 8; (with_reducible refine (HSZ.out _ B5.out).mono ?_); rintro e w6 ⟨rfl, rfl⟩; have HRK := Lib.hid (HRW.out _ B5.out))
            | (at_builtin; (refine wpList_append_zs rfl _ _ 22 rfl w5.heap.size 3 i0 Try.underlying22 hi hz0 hz1 hz2 _ 0 [] rfl (World.ownsRow_nil _ _ _ _) _ n _ l rfl HN.out HRK.out.nil HRK.out.reads (by omega) (Nat.le_refl _) ?_; intro v7 w7 h7 h8; rw [Nat.zero_add, List.nil_append] at h7; have O7 := Lib.hid h7; have G7 : Hid (Below w5.heap.size w5 w7) := Lib.hid (below_own14 (Below.refl _ w5) h8 (World.ownsRow_nil _ w5.heap.size 3 1) (Nat.le_refl _)); clear h7 h8))
            | (at_builtin; (refine wpList_append_own _ rfl _ _ 22 rfl w5.heap.size 3 i0 (.int .i64 0) 1 8 Try.underlying22 hi hz0 hz1 hz2 rfl (by decide) _ n _ rfl (O7.out.alloc _) ⟨w7.heap.size, 0, none⟩ 1 1 [.int .i64 0] rfl rfl (lies_one13 _ _ _) (by simp [Value.oneCell']) (by unfold maxLen; omega) (by omega) (Nat.le_trans G7.out.size (by simp)) ?_; intro v8 w8 h7 h8 hnil; clear hnil; have G8 : Hid (Below w5.heap.size w5 w8) := Lib.hid (below_own14 (below_alloc' G7.out (.cells #[.int .i64 0] 3)) h8 (O7.out.alloc _) (Nat.le_trans G7.out.size (by simp))); obtain ⟨A8, c8, rfl, r8⟩ := RowZ.own (l := l ++ [0]) (by simpa using h7); have R8 := Lib.hid r8; clear h7 h8 r8))
            | (go_at_call 11; (with_reducible refine (cuAt_any (l ++ [0]) A8 (n + 1) c8 _ R8.out HS2.out).mono ?_); rintro e w9 ⟨rfl, b9⟩; have B9 := Lib.hid (below_step (below_step B5.out G8.out) b9); clear b9)
            | (go_at_call 11; (with_reducible refine (cuAt_any l A n c _ (HRW.out _ B9.out) HS1.out).mono ?_); rintro e w10 ⟨rfl, b10⟩; have B10 := Lib.hid (below_step B9.out b10); clear b10))
          go_ret
          exact ⟨by rw [HE.out]; simp, B10.out⟩
  exact main _ rfl (by split <;> simp)
end Go.Proofs.Ytnidommmnmpdlaa
