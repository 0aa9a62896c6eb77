import Derived.Test.YthcjledpjlpfaaaDoorJ18
/- Of a claim's texts, joined: LiOwns. No statement but in the last. -/
namespace Go.Proofs.YthcjledpjlpfaaaDoor
open Go.RowKit
set_option linter.unusedVariables false

theorem own_more (f v : Nat) : ownL ((f : Int) + 1) (v : Int) = ownL (f : Int) (v : Int) ∨ ownL ((f : Int) + 1) (v : Int) = ownL (f : Int) (v : Int) + 1 := by
  unfold ownL
  rw [show ((f : Int) + 1).toNat = f + 1 by omega, Int.toNat_natCast, Int.toNat_natCast]
  omega
theorem own_wait (f v : Nat) : ownL (f : Int) ((v : Int) + 1) = ownL (f : Int) (v : Int) ∨ ownL (f : Int) ((v : Int) + 1) = ownL (f : Int) (v : Int) + 1 := by
  unfold ownL
  rw [show ((v : Int) + 1).toNat = v + 1 by omega, Int.toNat_natCast, Int.toNat_natCast]
  omega
theorem own_most (f v : Nat) (hf : f ≤ 1000) (hv : v ≤ 1000) : ownL (f : Int) (v : Int) ≤ 100 := by
  unfold ownL
  rw [Int.toNat_natCast, Int.toNat_natCast]
  omega
theorem own_need (f v : Nat) : ownL (f : Int) (v : Int) ≤ needL ((f : Int) + (v : Int)) ∧ (0 < ownL (f : Int) (v : Int) ↔ 0 < f + v) := by
  unfold ownL needL
  rw [show ((f : Int) + (v : Int)).toNat = f + v by omega, Int.toNat_natCast, Int.toNat_natCast]
  omega
set_option maxRecDepth 100000 in
set_option maxHeartbeats 4000000 in
theorem walkLiOwns (a b : Nat) (W : World) (ht : Tab W) (ha : a ≤ 65535) (hb : b ≤ 65535) :
    Calls Tryd.prog 6 #[.int .u16 (a : Int), .int .u16 (b : Int)] W fun e W' => e = .returned (.bool true) ∧ Below W.heap.size W W' := by
  have HAW := Lib.hid (awake11_any W ht)
  obtain ⟨f, hf⟩ : ∃ f, a % 900 = f := ⟨_, rfl⟩
  obtain ⟨v, hv⟩ : ∃ v, b % 900 = v := ⟨_, rfl⟩
  have hf9 : f ≤ 900 := by omega
  have hv9 : v ≤ 900 := by omega
  have HF : Hid ((a : Int) % 900 = (f : Int)) := Lib.hid (by omega)
  have HV : Hid ((b : Int) % 900 = (v : Int)) := Lib.hid (by omega)
  have HO1 := Lib.hid (fun w1 => fOwn_any (f : Int) (v : Int) (by omega) (by omega) w1)
  have HO2 := Lib.hid (fun w1 => fOwn_any ((f : Int) + 1) (v : Int) (by omega) (by omega) w1)
  have HO3 := Lib.hid (fun w1 => fOwn_any (f : Int) ((v : Int) + 1) (by omega) (by omega) w1)
  have HND := Lib.hid (fun w1 => fNeed_any ((f : Int) + (v : Int)) (by omega) w1)
  have h1 := own_more f v
  have h2 := own_wait f v
  obtain ⟨h3, h4⟩ := own_need f v
  have h5 := own_most f v (by omega) (by omega)
  have h6 : needL ((f : Int) + (v : Int)) ≤ 100 := by
    unfold needL
    omega
  generalize ownL (f : Int) (v : Int) = k1 at *
  generalize ownL ((f : Int) + 1) (v : Int) = k2 at *
  generalize ownL (f : Int) ((v : Int) + 1) = k3 at *
  generalize needL ((f : Int) + (v : Int)) = z at *
  have h7 : k2 ≤ 101 := by omega
  have h8 : k3 ≤ 101 := by omega
  have HG : Hid ((0 : Int) ≤ (k2 : Int) - (k1 : Int) ∧ (k2 : Int) - (k1 : Int) ≤ 1 ∧ (0 : Int) ≤ (k3 : Int) - (k1 : Int) ∧ (k3 : Int) - (k1 : Int) ≤ 1 ∧ (k1 : Int) ≤ (z : Int)) := Lib.hid (by omega)
  have HP : Hid ((0 : Int) < (k1 : Int) ↔ (0 : Int) < (f : Int) + (v : Int)) := Lib.hid (by omega)
  obtain ⟨g1, g2, g3, g4, g5⟩ := HG.out
  clear h1 h2 h3 h4 hf hv ht HG
  go_enter Tryd.func6, Tryd.ntmps6
  go_wp2_with (first
    | (go_at_call 8; (with_reducible refine HAW.out.mono ?_); rintro e w1 ⟨rfl, b1⟩; have B1 := Lib.hid b1; clear b1)
    | (go_at_call 14; (try rw [HF.out]); (try rw [HV.out]); (first | (with_reducible refine (HO1.out _).mono ?_) | (with_reducible refine (HO2.out _).mono ?_) | (with_reducible refine (HO3.out _).mono ?_)); rintro e w6 ⟨rfl, rfl⟩)
    | (go_at_call 11; (try rw [HF.out]); (try rw [HV.out]); (with_reducible refine (HND.out _).mono ?_); rintro e w6 ⟨rfl, rfl⟩))
  go_ret
  exact ⟨retb (by have := HP.out; simp; omega), B1.out⟩
end Go.Proofs.YthcjledpjlpfaaaDoor
