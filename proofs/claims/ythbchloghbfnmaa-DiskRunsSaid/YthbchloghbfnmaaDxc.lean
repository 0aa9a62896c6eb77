/- The document's regions of layer 6: counts: contract, no statement. -/
import Derived.Test.YthbchloghbfnmaaDxb
namespace Go.Proofs.Ythbchloghbfnmaa
open Go.RowKit
set_option linter.unusedVariables false

def cntL (l : Int) : Int := if l = 0 then 0 else if 0 < l then l - 1 else l
def cntE (l : Int) : Int := if l = 0 then 3 else 0
theorem cntR_parts (r : Rg) (h : r.down = false) : (cntR r).left = cntL r.left ∧ (cntR r).down = decide (r.left = 0) ∧ cntE r.left = if (cntR r).down then 3 else 0 := by
  unfold cntR cntL cntE
  split
  · simp_all
  · split <;> simp_all
set_option maxRecDepth 100000 in
set_option maxHeartbeats 1000000 in
theorem r6counts_any (pA lA : Option Addr) (pn pc ln lc : Nat) (left : Int) (w : World) (hl : -1 ≤ left) (hl2 : left ≤ 9223372036854775807) : Calls Try.prog 36 #[.agg #[.slice pA pn pc, .slice lA ln lc, .int .i64 left, .bool false]] w fun e w' =>
    e = .returned (.tuple #[.agg #[.slice pA pn pc, .slice lA ln lc, .int .i64 (cntL left), .bool (decide (left = 0))], .int .i64 (cntE left)]) ∧ Below w.heap.size w w' := by
  unfold cntL cntE
  by_cases h1 : left = 0
  · subst h1
    go_enter Try.func36, Try.ntmps36
    go_wp2
    refine ⟨rfl, .tuple #[.agg #[.slice pA pn pc, .slice lA ln lc, .int .i64 0, .bool true], .int .i64 3], ?_, rfl, ((Below.refl _ w).alloc (Nat.le_refl _) _).alloc (by simp) _⟩
    simp [results, Try.f36, go_sem]
  · by_cases h2 : 0 < left
    · go_enter Try.func36, Try.ntmps36
      go_wp2
      refine ⟨rfl, .tuple #[.agg #[.slice pA pn pc, .slice lA ln lc, .int .i64 (left - 1), .bool false], .int .i64 0], ?_, ?_, ((Below.refl _ w).alloc (Nat.le_refl _) _).alloc (by simp) _⟩
      · simp [results, Try.f36, go_sem]
      · simp
    · go_enter Try.func36, Try.ntmps36
      go_wp2
      refine ⟨rfl, .tuple #[.agg #[.slice pA pn pc, .slice lA ln lc, .int .i64 left, .bool false], .int .i64 0], ?_, ?_, ((Below.refl _ w).alloc (Nat.le_refl _) _).alloc (by simp) _⟩
      · simp [results, Try.f36, go_sem]
      · simp

end Go.Proofs.Ythbchloghbfnmaa
