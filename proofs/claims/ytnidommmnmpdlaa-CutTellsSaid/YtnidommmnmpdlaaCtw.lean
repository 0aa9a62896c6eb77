/- Layer 14: the law's live example, and what its walks share: contracts, no statement. -/
import Derived.Test.YtnidommmnmpdlaaCth
namespace Go.Proofs.Ytnidommmnmpdlaa
open Go.RowKit
set_option linter.unusedVariables false

theorem lit_z1 (v : World) (a : Int) : RowZ (v.alloc (.cells #[.int .i64 a] 3)) (some ⟨v.heap.size, 0, none⟩) 1 1 [a] :=
  ⟨rfl, fun _ => ⟨v.heap.size, 0, rfl, fun j u hj => by rw [(Has.made v 3 _).cell, Nat.zero_add]; simpa using hj⟩, fun e => (by cases e), Nat.le_refl _, (by decide)⟩
theorem lit_z2 (v : World) (a b : Int) : RowZ (v.alloc (.cells #[.int .i64 a, .int .i64 b] 3)) (some ⟨v.heap.size, 0, none⟩) 2 2 [a, b] :=
  ⟨rfl, fun _ => ⟨v.heap.size, 0, rfl, fun j u hj => by rw [(Has.made v 3 _).cell, Nat.zero_add]; simpa using hj⟩, fun e => (by cases e), Nat.le_refl _, (by decide)⟩
theorem lit_z3 (v : World) (a b d : Int) : RowZ (v.alloc (.cells #[.int .i64 a, .int .i64 b, .int .i64 d] 3)) (some ⟨v.heap.size, 0, none⟩) 3 3 [a, b, d] :=
  ⟨rfl, fun _ => ⟨v.heap.size, 0, rfl, fun j u hj => by rw [(Has.made v 3 _).cell, Nat.zero_add]; simpa using hj⟩, fun e => (by cases e), Nat.le_refl _, (by decide)⟩
theorem siz1 {a : Int} (ha : 0 ≤ a ∧ a ≤ 1000) : SizZ [a] := ⟨fun x hx => by rw [List.mem_singleton] at hx; subst hx; exact ha, by simp⟩
theorem siz2 {a b : Int} (ha : 0 ≤ a ∧ a ≤ 1000) (hb : 0 ≤ b ∧ b ≤ 1000) : SizZ [a, b] := ⟨fun x hx => by
  rcases List.mem_cons.1 hx with rfl | hx
  · exact ha
  · rw [List.mem_singleton] at hx; subst hx; exact hb, by simp⟩
theorem alloc_step14 {v w' : World} {cs : Array Value} {t : TypeId} (h : Below (v.alloc (.cells cs t)).heap.size (v.alloc (.cells cs t)) w') : Below v.heap.size v w' :=
  below_step ((Below.refl v.heap.size v).alloc (Nat.le_refl _) (.cells cs t)) h
section
variable (v : World)
theorem at1_of (a : Int) (ha : 0 ≤ a ∧ a ≤ 1000) : Calls Try.prog 11 #[.slice (some ⟨v.heap.size, 0, none⟩) 1 1] (v.alloc (.cells #[.int .i64 a] 3)) fun e w' => e = .returned (.int .i64 0) ∧ Below v.heap.size v w' :=
  (cuAt_any [a] _ 1 1 _ (lit_z1 v a) (siz1 ha)).mono (fun e w' h => ⟨by rw [h.1, atZ_zero (.inr (by simp))]; rfl, alloc_step14 h.2⟩)
theorem at2_of (a b r : Int) (ha : 0 ≤ a ∧ a ≤ 1000) (hb : 0 ≤ b ∧ b ≤ 1000) (hr : r = if 122 < a + b then 1 else 0) : Calls Try.prog 11 #[.slice (some ⟨v.heap.size, 0, none⟩) 2 2] (v.alloc (.cells #[.int .i64 a, .int .i64 b] 3)) fun e w' => e = .returned (.int .i64 r) ∧ Below v.heap.size v w' :=
  (cuAt_any [a, b] _ 2 2 _ (lit_z2 v a b) (siz2 ha hb)).mono (fun e w' h => ⟨by
    rw [h.1, hr]
    by_cases h1 : 122 < a + b
    · rw [if_pos h1]
      have h2 := atZ_in (l := [a, b]) (by simp [sumZ]; omega)
      rw [show atZ [a, b] = 1 by simp at h2; omega]
      rfl
    · rw [if_neg h1, atZ_zero (.inl (by simp [sumZ]; omega))]
      rfl, alloc_step14 h.2⟩)
theorem at3_of : Calls Try.prog 11 #[.slice (some ⟨v.heap.size, 0, none⟩) 3 3] (v.alloc (.cells #[.int .i64 50, .int .i64 50, .int .i64 50] 3)) fun e w' => e = .returned (.int .i64 1) ∧ Below v.heap.size v w' :=
  (cuAt_any [50, 50, 50] _ 3 3 _ (lit_z3 v 50 50 50) ⟨by decide, by decide⟩).mono (fun e w' h => ⟨by rw [h.1, show atZ [50, 50, 50] = 1 by decide]; rfl, alloc_step14 h.2⟩)
theorem sum2_of : Calls Try.prog 9 #[.slice (some ⟨v.heap.size, 0, none⟩) 2 2] (v.alloc (.cells #[.int .i64 3, .int .i64 4] 3)) fun e w' => e = .returned (.int .i64 7) ∧ Below v.heap.size v w' :=
  (cuSum_any [3, 4] _ 2 2 _ (lit_z2 v 3 4) (siz2 (by decide) (by decide))).mono (fun e w' h => ⟨by rw [h.1, show sumZ [3, 4] = 7 by decide], alloc_step14 h.2⟩)
theorem low1_of (a : Int) (ha : 0 ≤ a ∧ a ≤ 1000) (b : Bool) (hb : b = decide (a < 30)) : Calls Try.prog 13 #[.slice (some ⟨v.heap.size, 0, none⟩) 1 1] (v.alloc (.cells #[.int .i64 a] 3)) fun e w' => e = .returned (.bool b) ∧ Below v.heap.size v w' :=
  (cuLow_any [a] _ 1 1 _ (lit_z1 v a) (siz1 ha)).mono (fun e w' h => ⟨by rw [h.1, hb, show sumZ [a] = a by simp [sumZ]], alloc_step14 h.2⟩)
theorem nei_of (k r : Int) (hk : 0 ≤ k ∧ k ≤ 1000) (hr : (if k + 1 < 3 then k + 1 else k - 1) = r) : Calls Try.prog 15 #[.int .i64 3, .int .i64 k] v fun e w' => e = .returned (.int .i64 r) ∧ Below v.heap.size v w' :=
  (cuNeigh_any 3 k v (by decide) hk).mono (fun e w' h => ⟨by rw [h.1, hr], h.2⟩)
end
set_option maxRecDepth 100000 in
set_option maxHeartbeats 4000000 in
theorem awake14_any (w : World) : Calls Try.prog 7 #[] w fun e w' => e = .returned (.bool true) ∧ Below w.heap.size w w' := by
  go_enter Try.func7, Try.ntmps7
  go_wp2_with (first
    | (go_at_call 11; (with_reducible refine (at3_of _).mono ?_); rintro e w1 ⟨rfl, b1⟩; have B1 := Lib.hid b1; clear b1)
    | (go_at_call 11; (with_reducible refine (at2_of _ 61 61 0 (by decide) (by decide) (by decide)).mono ?_); rintro e w2 ⟨rfl, b2⟩; have B2 := Lib.hid (below_step B1.out b2); clear b2)
    | (go_at_call 9; (with_reducible refine (sum2_of _).mono ?_); rintro e w3 ⟨rfl, b3⟩; have B3 := Lib.hid (below_step B2.out b3); clear b3)
    | (go_at_call 13; (with_reducible refine (low1_of _ 29 (by decide) true (by decide)).mono ?_); rintro e w4 ⟨rfl, b4⟩; have B4 := Lib.hid (below_step B3.out b4); clear b4)
    | (go_at_call 13; (with_reducible refine (low1_of _ 30 (by decide) false (by decide)).mono ?_); rintro e w5 ⟨rfl, b5⟩; have B5 := Lib.hid (below_step B4.out b5); clear b5)
    | (go_at_call 15; (with_reducible refine (nei_of _ 1 2 (by decide) (by decide)).mono ?_); rintro e w6 ⟨rfl, b6⟩; have B6 := Lib.hid (below_step B5.out b6); clear b6)
    | (go_at_call 15; (with_reducible refine (nei_of _ 2 1 (by decide) (by decide)).mono ?_); rintro e w7 ⟨rfl, b7⟩; have B7 := Lib.hid (below_step B6.out b7); clear b7))
  go_ret
  exact ⟨rfl, B7.out⟩
end Go.Proofs.Ytnidommmnmpdlaa
