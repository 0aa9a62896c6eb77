/- Package disk: find, running, and what only reads: contracts, no statement. -/
import Derived.Test.YthbchloghbfnmaaDst
namespace Go.Proofs.Ythbchloghbfnmaa
open Go.RowKit
set_option linter.unusedVariables false

/-- The region of a number. -/
def regN (rs : List Rg) (x : Int) : Option Rg := if x < 0 then none else rs[x.toNat]?
/-- Why nothing may be asked of it; 0: it may. -/
def upE (rs : List Rg) (x : Int) : Int :=
  match regN rs x with
  | none => 2
  | some r => if r.down then 3 else 0
theorem regN_some {rs : List Rg} {x : Int} {r : Rg} (h : regN rs x = some r) : 0 ≤ x ∧ x < rs.length ∧ rs[x.toNat]? = some r := by
  unfold regN at h
  split at h
  · cases h
  · have := (List.getElem?_eq_some_iff.1 h).1
    exact ⟨by omega, by omega, h⟩
theorem regN_none {rs : List Rg} {x : Int} (h : regN rs x = none) : x < 0 ∨ (rs.length : Int) ≤ x := by
  unfold regN at h
  split at h
  · left; omega
  · right
    rw [List.getElem?_eq_none_iff] at h
    omega
def findV (A : Nat) (rs : List Rg) (x : Int) : Value := match regN rs x with
  | none => .pointer none
  | some _ => .pointer (some ⟨A, x.toNat * 6, none⟩)
section
variable {w : World} {T : Tg} {d D A : Nat} {rs : List Rg}
theorem find_any (x : Int) (h : Dk w T d D A rs) : Calls Try.prog 41 #[.pointer (some ⟨D, 0, none⟩), .int .i64 x] w fun e w' => e = .returned (findV A rs x) ∧ w = w' := by
  have c0 := h.hd.cell0
  have hL := Lib.hid h
  unfold findV
  cases hr : regN rs x with
  | none =>
    rcases regN_none hr with h1 | h1
    · clear hr h
      go_enter Try.func41, Try.ntmps41
      go_wp2
      go_ret
      exact ⟨rfl, rfl⟩
    · by_cases h2 : x < 0
      · clear hr h
        go_enter Try.func41, Try.ntmps41
        go_wp2
        go_ret
        exact ⟨rfl, rfl⟩
      · clear hr h
        go_enter Try.func41, Try.ntmps41
        go_wp2
        go_ret
        exact ⟨rfl, rfl⟩
  | some r =>
    obtain ⟨h1, h2, _⟩ := regN_some hr
    obtain ⟨k, rfl⟩ : ∃ k : Nat, x = (k : Int) := ⟨x.toNat, by omega⟩
    rw [show (k : Int).toNat = k by omega]
    have h3 : ¬ (k : Int) < 0 := by omega
    have h4 : ¬ (rs.length : Int) ≤ (k : Int) := by omega
    clear hr h
    go_enter Try.func41, Try.ntmps41
    go_wp2
    go_ret
    exact ⟨rfl, rfl⟩
theorem find_nil (x : Int) (w : World) : Calls Try.prog 41 #[.pointer none, .int .i64 x] w fun e w' => e = .returned (.pointer none) ∧ w = w' := by
  go_enter Try.func41, Try.ntmps41
  go_wp2
  go_ret
  exact ⟨rfl, rfl⟩
/-- What running tells: the region's address, or nil; and the error. -/
def runV (A : Nat) (rs : List Rg) (x : Int) : Value := .tuple #[if upE rs x = 0 then .pointer (some ⟨A, x.toNat * 6, none⟩) else .pointer none, .int .i64 (upE rs x)]
theorem runV_none {x : Int} (h : regN rs x = none) : runV A rs x = .tuple #[.pointer none, .int .i64 2] := by
  unfold runV
  rw [show upE rs x = 2 by simp [upE, h]]
  rfl
theorem runV_down {x : Int} {r : Rg} (h : regN rs x = some r) (hd : r.down = true) : runV A rs x = .tuple #[.pointer none, .int .i64 3] := by
  unfold runV
  rw [show upE rs x = 3 by simp [upE, h, hd]]
  rfl
theorem runV_up {x : Int} {r : Rg} (h : regN rs x = some r) (hd : r.down = false) : runV A rs x = .tuple #[.pointer (some ⟨A, x.toNat * 6, none⟩), .int .i64 0] := by
  unfold runV
  rw [show upE rs x = 0 by simp [upE, h, hd]]
  rfl
theorem running_any (x : Int) (h : Dk w T d D A rs) : Calls Try.prog 31 #[.pointer (some ⟨D, 0, none⟩), .int .i64 x] w fun e w' => e = .returned (runV A rs x) ∧ w = w' := by
  have HF := Lib.hid (find_any x h)
  unfold findV at HF
  cases hr : regN rs x with
  | none =>
    rw [runV_none hr]
    simp only [hr] at HF
    clear h hr
    go_enter Try.func31, Try.ntmps31
    go_wp2_with (go_at_call 41; (with_reducible refine HF.out.mono ?_); rintro e w2 ⟨rfl, rfl⟩)
    go_ret2
    exact ⟨rfl, rfl⟩
  | some r =>
    obtain ⟨h1, h2, h3⟩ := regN_some hr
    obtain ⟨m1, m2, v, ha⟩ := h.at_ _ r h3
    have c5 := ha.c5
    simp only [hr] at HF
    cases hd : r.down
    · rw [hd] at c5
      rw [runV_up hr hd]
      clear h hr h1 h2 h3 ha hd
      go_enter Try.func31, Try.ntmps31
      go_wp2_with (go_at_call 41; (with_reducible refine HF.out.mono ?_); rintro e w2 ⟨rfl, rfl⟩)
      go_ret2
      exact ⟨rfl, rfl⟩
    · rw [hd] at c5
      rw [runV_down hr hd]
      clear h hr h1 h2 h3 ha hd
      go_enter Try.func31, Try.ntmps31
      go_wp2_with (go_at_call 41; (with_reducible refine HF.out.mono ?_); rintro e w2 ⟨rfl, rfl⟩)
      go_ret2
      exact ⟨rfl, rfl⟩
theorem running_nil (x : Int) (w : World) : Calls Try.prog 31 #[.pointer none, .int .i64 x] w fun e w' => e = .returned (.tuple #[.pointer none, .int .i64 1]) ∧ w = w' := by
  go_enter Try.func31, Try.ntmps31
  go_wp2
  go_ret2
  exact ⟨rfl, rfl⟩
def lenN (rs : List Rg) (x : Int) : Nat := match regN rs x with
  | none => 0
  | some r => r.size
def downN (rs : List Rg) (x : Int) : Bool := match regN rs x with
  | none => false
  | some r => r.down
theorem len_any (x : Int) (h : Dk w T d D A rs) : Calls Try.prog 27 #[.pointer (some ⟨D, 0, none⟩), .int .i64 x] w fun e w' => e = .returned (.int .i64 (lenN rs x : Int)) ∧ w = w' := by
  have HF := Lib.hid (find_any x h)
  unfold lenN
  unfold findV at HF
  cases hr : regN rs x with
  | none =>
    simp only [hr] at HF ⊢
    clear h hr
    go_enter Try.func27, Try.ntmps27
    go_wp2_with (go_at_call 41; (with_reducible refine HF.out.mono ?_); rintro e w2 ⟨rfl, rfl⟩)
    go_ret
    exact ⟨rfl, rfl⟩
  | some r =>
    obtain ⟨h1, h2, h3⟩ := regN_some hr
    obtain ⟨m1, m2, v, ha⟩ := h.at_ _ r h3
    have c0 := ha.c0
    simp only [hr] at HF ⊢
    clear h hr h1 h2 h3 ha
    go_enter Try.func27, Try.ntmps27
    go_wp2_with (go_at_call 41; (with_reducible refine HF.out.mono ?_); rintro e w2 ⟨rfl, rfl⟩)
    go_ret
    exact ⟨rfl, rfl⟩
theorem len_nil (x : Int) (w : World) : Calls Try.prog 27 #[.pointer none, .int .i64 x] w fun e w' => e = .returned (.int .i64 0) ∧ w = w' := by
  go_enter Try.func27, Try.ntmps27
  go_wp2_with (go_at_call 41; (with_reducible refine (find_nil x _).mono ?_); rintro e w2 ⟨rfl, rfl⟩)
  go_ret
  exact ⟨rfl, rfl⟩
theorem down_any (x : Int) (h : Dk w T d D A rs) : Calls Try.prog 23 #[.pointer (some ⟨D, 0, none⟩), .int .i64 x] w fun e w' => e = .returned (.bool (downN rs x)) ∧ w = w' := by
  have HF := Lib.hid (find_any x h)
  unfold downN
  unfold findV at HF
  cases hr : regN rs x with
  | none =>
    simp only [hr] at HF ⊢
    clear h hr
    go_enter Try.func23, Try.ntmps23
    go_wp2_with (go_at_call 41; (with_reducible refine HF.out.mono ?_); rintro e w2 ⟨rfl, rfl⟩)
    go_ret
    exact ⟨rfl, rfl⟩
  | some r =>
    obtain ⟨h1, h2, h3⟩ := regN_some hr
    obtain ⟨m1, m2, v, ha⟩ := h.at_ _ r h3
    have c5 := ha.c5
    simp only [hr] at HF ⊢
    clear h hr h1 h2 h3 ha
    generalize r.down = b at c5 ⊢
    go_enter Try.func23, Try.ntmps23
    go_wp2_with (go_at_call 41; (with_reducible refine HF.out.mono ?_); rintro e w2 ⟨rfl, rfl⟩)
    go_ret
    exact ⟨rfl, rfl⟩
theorem down_nil (x : Int) (w : World) : Calls Try.prog 23 #[.pointer none, .int .i64 x] w fun e w' => e = .returned (.bool false) ∧ w = w' := by
  go_enter Try.func23, Try.ntmps23
  go_wp2_with (go_at_call 41; (with_reducible refine (find_nil x _).mono ?_); rintro e w2 ⟨rfl, rfl⟩)
  go_ret
  exact ⟨rfl, rfl⟩
end

end Go.Proofs.Ythbchloghbfnmaa
