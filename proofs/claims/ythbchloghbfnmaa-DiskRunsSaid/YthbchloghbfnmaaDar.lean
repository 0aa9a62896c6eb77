/- Package disk: a region's own calls (has, stops, read): contracts, no statement. -/
import Derived.Test.YthbchloghbfnmaaDsk
import Derived.Deep.WholeRow
namespace Go.Proofs.Ythbchloghbfnmaa
open Go.RowKit
set_option linter.unusedVariables false

theorem retb {a b : Bool} (h : a = b) : Ending.returned (.bool a) = .returned (.bool b) := by rw [h]
theorem wrap_in (n : Int) (h : -9223372036854775808 ≤ n ∧ n ≤ 9223372036854775807) : IntKind.i64.wrap n = n := (IntWalk.i64_left n).trans (IntWalk.wrap64_in n h)
def hasB (r : Rg) (p : Int) : Bool := decide (0 ≤ p) && decide (p < (r.size : Int))
section
variable {T : Tg} {d A i m1 m2 : Nat} {v : Value} {r : Rg}
theorem has_any (p : Int) (w : World) (h : Ar w T d A i m1 m2 v r) : Calls Try.prog 32 #[.pointer (some ⟨A, i * 6, none⟩), .int .i64 p] w fun e w' => e = .returned (.bool (hasB r p)) ∧ w = w' := by
  have c0 := h.c0
  clear h
  unfold hasB
  by_cases h0 : 0 ≤ p
  · by_cases h1 : p < (r.size : Int)
    · go_enter Try.func32, Try.ntmps32
      go_wp2
      go_ret
      exact ⟨retb (by simp [h0, h1]), rfl⟩
    · go_enter Try.func32, Try.ntmps32
      go_wp2
      go_ret
      exact ⟨retb (by simp [h1]), rfl⟩
  · go_enter Try.func32, Try.ntmps32
    go_wp2
    go_ret
    exact ⟨retb (by simp; omega), rfl⟩
theorem Ar.setLeft {w : World} (h : Ar w T d A i m1 m2 v r) (x : Int) (hA : ∃ cs, Has w A 72 cs) (h0 : -1 ≤ x) (h1 : x ≤ 9223372036854775807) : Ar (w.setCell ⟨A, i * 6 + 4, none⟩ (.int .i64 x)) T d A i m1 m2 v { r with left := x } := by
  obtain ⟨cs, hA⟩ := hA
  have hk : ∀ j, j ≠ 4 → (w.setCell ⟨A, i * 6 + 4, none⟩ (.int .i64 x)).cell? ⟨A, i * 6 + j, none⟩ = w.cell? ⟨A, i * 6 + j, none⟩ := fun j hj => by
    rw [(hA.store (i * 6 + 4) (.int .i64 x)).cell, hA.cell, Array.getElem?_setIfInBounds, if_neg (by omega)]
  have h4 : (w.setCell ⟨A, i * 6 + 4, none⟩ (.int .i64 x)).cell? ⟨A, i * 6 + 4, none⟩ = some (.int .i64 x) := by
    have := h.c4
    rw [hA.cell] at this
    rw [(hA.store (i * 6 + 4) (.int .i64 x)).cell, Array.getElem?_setIfInBounds, if_pos rfl, if_pos (Array.getElem?_eq_some_iff.1 this).1]
  have hb : ∀ x', x' ≠ A → (w.setCell ⟨A, i * 6 + 4, none⟩ (.int .i64 x)).heap[x']? = w.heap[x']? := fun x' hx => setCell_heap_other w _ _ x' hx
  have n1 : m1 ≠ A := h.p1.apart hA
  have n2 : m2 ≠ A := h.p2.apart hA
  have n3 : ∀ g, v.ownBlock = some g → g ≠ A := fun g hg e => by
    have t3 := h.t3 g hg
    rw [e, h.ta] at t3
    injection t3 with t3
    injection t3 with _ t3
    omega
  exact ⟨(hk 0 (by omega)).trans h.c0, (hk 1 (by omega)).trans h.c1, (hk 2 (by omega)).trans h.c2, (hk 3 (by omega)).trans h.c3, h4, (hk 5 (by omega)).trans h.c5, h.ta, h.t1, h.t2, h.t3, h.p1.keep (hb m1 n1), h.p2.keep (hb m2 n2), own_keep h.row (fun g hg => hb g (n3 g hg)), ⟨h.ok.pos, h.ok.most, h.ok.loose, h.ok.syn, h0, h1⟩⟩
theorem Ar.setDown {w : World} (h : Ar w T d A i m1 m2 v r) (x : Bool) (hA : ∃ cs, Has w A 72 cs) : Ar (w.setCell ⟨A, i * 6 + 5, none⟩ (.bool x)) T d A i m1 m2 v { r with down := x } := by
  obtain ⟨cs, hA⟩ := hA
  have hk : ∀ j, j ≠ 5 → (w.setCell ⟨A, i * 6 + 5, none⟩ (.bool x)).cell? ⟨A, i * 6 + j, none⟩ = w.cell? ⟨A, i * 6 + j, none⟩ := fun j hj => by
    rw [(hA.store (i * 6 + 5) (.bool x)).cell, hA.cell, Array.getElem?_setIfInBounds, if_neg (by omega)]
  have h4 : (w.setCell ⟨A, i * 6 + 5, none⟩ (.bool x)).cell? ⟨A, i * 6 + 5, none⟩ = some (.bool x) := by
    have := h.c5
    rw [hA.cell] at this
    rw [(hA.store (i * 6 + 5) (.bool x)).cell, Array.getElem?_setIfInBounds, if_pos rfl, if_pos (Array.getElem?_eq_some_iff.1 this).1]
  have hb : ∀ x', x' ≠ A → (w.setCell ⟨A, i * 6 + 5, none⟩ (.bool x)).heap[x']? = w.heap[x']? := fun x' hx => setCell_heap_other w _ _ x' hx
  have n1 : m1 ≠ A := h.p1.apart hA
  have n2 : m2 ≠ A := h.p2.apart hA
  have n3 : ∀ g, v.ownBlock = some g → g ≠ A := fun g hg e => by
    have t3 := h.t3 g hg
    rw [e, h.ta] at t3
    injection t3 with t3
    injection t3 with _ t3
    omega
  exact ⟨(hk 0 (by omega)).trans h.c0, (hk 1 (by omega)).trans h.c1, (hk 2 (by omega)).trans h.c2, (hk 3 (by omega)).trans h.c3, (hk 4 (by omega)).trans h.c4, h4, h.ta, h.t1, h.t2, h.t3, h.p1.keep (hb m1 n1), h.p2.keep (hb m2 n2), own_keep h.row (fun g hg => hb g (n3 g hg)), ⟨h.ok.pos, h.ok.most, h.ok.loose, h.ok.syn, h.ok.left0, h.ok.left1⟩⟩
/-- What a call that counts leaves. -/
def ArEnd (res : Value) (T : Tg) (d A i m1 m2 : Nat) (v : Value) (r : Rg) (w : World) (e : Ending) (w' : World) : Prop := e = .returned res ∧ Ar w' T d A i m1 m2 v r ∧ Nx T d A i w T w'
theorem stops_any (w : World) (h : Ar w T d A i m1 m2 v r) (hA : ∃ cs, Has w A 72 cs) (hlo : ∀ x t, T x = some t → x < w.heap.size) (hd : r.down = false) :
    Calls Try.prog 33 #[.pointer (some ⟨A, i * 6, none⟩)] w (ArEnd (.bool (cntR r).down) T d A i m1 m2 v (cntR r) w) := by
  have c4 := h.c4
  have c5 := h.c5
  obtain ⟨cs, hA'⟩ := hA
  have f4 := hA'.free (i * 6 + 4)
  have f5 := hA'.free (i * 6 + 5)
  have HS := Lib.hid (fun x => h.setLeft x ⟨cs, hA'⟩)
  have HD := Lib.hid (h.setDown true ⟨cs, hA'⟩)
  have HL := Lib.hid hlo
  have HK := Lib.hid h
  rw [hd] at c5
  have HDn := Lib.hid hd
  have c5' : ∀ x, (w.setCell ⟨A, i * 6 + 4, none⟩ (.int .i64 x)).cell? ⟨A, i * 6 + 5, none⟩ = some (.bool false) := fun x => by
    rw [(hA'.store (i * 6 + 4) (.int .i64 x)).cell, Array.getElem?_setIfInBounds, if_neg (by omega), ← hA'.cell]
    exact c5
  have b0 := h.ok.left0
  have b1 := h.ok.left1
  clear h hlo hA' hd
  unfold cntR
  by_cases h0 : r.left = 0
  · simp only [h0, if_true] at c4 ⊢
    have d5 := HD.out.c5
    go_enter Try.func33, Try.ntmps33
    go_wp2
    go_ret
    exact ⟨rfl, by simpa only [h0] using HD.out, Nx.set (by omega) _ HL.out⟩
  · simp only [h0, if_false]
    have e0 : (r.left == 0) = false := by simpa using h0
    by_cases h1 : 0 < r.left
    · simp only [h1, if_true]
      have e2 : IntKind.i64.wrap (r.left - 1) = r.left - 1 := wrap_in _ (by omega)
      have HS2 := Lib.hid (HS.out (r.left - 1) (by omega) (by omega))
      have c6 := c5' (r.left - 1)
      clear c5'
      go_enter Try.func33, Try.ntmps33
      go_wp2
      go_ret
      exact ⟨retb HDn.out.symm, HS2.out, Nx.set (by omega) _ HL.out⟩
    · simp only [h1, if_false]
      clear c5'
      go_enter Try.func33, Try.ntmps33
      go_wp2
      go_ret
      exact ⟨retb HDn.out.symm, HK.out, Nx.refl _ _ _ _ _ HL.out⟩
end

end Go.Proofs.Ythbchloghbfnmaa
