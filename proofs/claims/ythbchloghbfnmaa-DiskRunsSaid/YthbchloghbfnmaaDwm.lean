/- Package disk: a write as a value, and as an element: no statement. -/
import Derived.Test.YthbchloghbfnmaaDrd
import Derived.Great.BuildSlice
import Derived.Deep.AppendLies
namespace Go.Proofs.Ythbchloghbfnmaa
open Go.RowKit
set_option linter.unusedVariables false

theorem foldl_size : ∀ (vs : List Value) (off k : Nat) (cs : Array Value), ((vs.zipIdx k).foldl (fun cs (x : Value × Nat) => cs.setIfInBounds (off + x.2) x.1) cs).size = cs.size
  | [], _, _, _ => rfl
  | v :: vs, off, k, cs => by
    simp only [List.zipIdx_cons, List.foldl_cons]
    rw [foldl_size vs off (k + 1)]
    simp
theorem foldl_at : ∀ (vs : List Value) (off k : Nat) (cs : Array Value) (j : Nat), off + k + vs.length ≤ cs.size →
    ((vs.zipIdx k).foldl (fun cs (x : Value × Nat) => cs.setIfInBounds (off + x.2) x.1) cs)[j]? = if off + k ≤ j ∧ j < off + k + vs.length then vs[j - (off + k)]? else cs[j]?
  | [], off, k, cs, j, _ => by
    have : ¬ (off + k ≤ j ∧ j < off + k + ([] : List Value).length) := by simp only [List.length_nil]; omega
    rw [if_neg this]; rfl
  | v :: vs, off, k, cs, j, h => by
    simp only [List.zipIdx_cons, List.foldl_cons]
    simp only [List.length_cons] at h ⊢
    rw [foldl_at vs off (k + 1) _ j (by simp; omega)]
    by_cases h1 : j = off + k
    · subst h1
      rw [if_neg (by omega), if_pos (by omega), Array.getElem?_setIfInBounds, if_pos rfl, if_pos (by omega)]
      simp
    · by_cases h2 : off + (k + 1) ≤ j ∧ j < off + (k + 1) + vs.length
      · rw [if_pos h2, if_pos (by omega), show j - (off + k) = (j - (off + (k + 1))) + 1 by omega]
        simp
      · rw [if_neg h2, if_neg (by omega), Array.getElem?_setIfInBounds, if_neg (by omega)]
/-- A value over all of a row of cells. -/
theorem fill_all (vs : List Value) (cs : Array Value) (h : cs.size = vs.length) : (vs.toArray.zipIdx.foldl (fun cs (x : Value × Nat) => cs.setIfInBounds (0 + x.2) x.1) cs) = vs.toArray := by
  rw [← Array.foldl_toList, Array.toList_zipIdx]
  apply Array.ext_getElem?
  intro j
  rw [foldl_at vs 0 0 cs j (by omega)]
  by_cases hj : j < vs.length
  · rw [if_pos (by omega)]
    simp
  · rw [if_neg (by omega)]
    simp [Array.getElem?_eq_none (show cs.size ≤ j by omega)]
    omega
theorem info_write : (Try.prog.info? 91).map (fun i => (i.zero, i.size, i.bytes)) = some (some (.agg (.int .i64 0 :: zeros.map byteV).toArray), 129, 136) := by kernel_rfl
theorem wzero_size : (Value.int .i64 0 :: zeros.map byteV).toArray.size = 129 := by simp [zeros]
theorem built_write (parts : List (Nat × Value)) : Try.prog.built 91 parts = Instr.fill (#[(0, 1), (1, 128)][·]?) (.int .i64 0 :: zeros.map byteV).toArray parts := by kernel_rfl
theorem run_build_write (w : World) (p : Int) {l : List UInt8} (hl : l.length = 128) : (Instr.build 91 #[(0, .int .i64 p), (1, pageV l)]).run Try.prog w = .ok (.agg (cellsW (p, l)).toArray) w := by
  refine run_build w 91 _ _ ?_
  rw [built_write]
  have h0 := wzero_size
  have hs : (l.map byteV).toArray.size = 128 := by simp [hl]
  generalize (Value.int .i64 0 :: zeros.map byteV).toArray = z at h0
  show Instr.fill _ z [(0, .int .i64 p), (1, pageV l)] = _
  have e1 : (Value.int .i64 p).cells = #[.int .i64 p] := rfl
  have e2 : (pageV l).cells = (l.map byteV).toArray := rfl
  simp only [Instr.fill, e1, e2]
  simp only [List.getElem?_toArray, List.getElem?_cons_zero, List.getElem?_cons_succ]
  rw [if_neg (by rw [h0]; simp)]
  have h1 : (Array.foldl (fun cs (x : Value × Nat) => cs.setIfInBounds (0 + x.2) x.1) z (#[Value.int .i64 p].zipIdx)).size = 129 := by
    rw [← Array.foldl_toList, Array.toList_zipIdx, foldl_size]
    exact h0
  rw [if_neg (by rw [h1, hs]; decide)]
  congr 1
  rw [← Array.foldl_toList, Array.toList_zipIdx, ← Array.foldl_toList, Array.toList_zipIdx]
  apply Array.ext_getElem?
  intro j
  rw [foldl_at _ 1 0 _ j (by rw [foldl_size]; simp; omega), foldl_at _ 0 0 _ j (by simp; omega)]
  unfold cellsW
  simp only [List.length_map, List.length_cons, List.length_nil]
  by_cases hj : j = 0
  · subst hj
    simp
  · rw [show ((Value.int .i64 (p, l).1 :: List.map byteV (p, l).2).toArray)[j]? = (l.map byteV)[j - 1]? by
      rw [List.getElem?_toArray, show j = (j - 1) + 1 by omega]
      simp]
    by_cases h2 : j < 129
    · rw [if_pos (by omega)]
    · rw [if_neg (by omega), if_neg (by omega), Array.getElem?_eq_none (by omega), List.getElem?_eq_none (by simp; omega)]
theorem run_slice_write (w : World) {cs : List Value} (hc : cs.length = 129) : (Instr.buildSlice 70 1 #[(0, .agg cs.toArray)]).run Try.prog w = .ok (.slice (some ⟨w.heap.size, 0, none⟩) 1 1) (w.alloc (.cells cs.toArray 91)) := by
  obtain ⟨i0, hi, hz0, hz1, hz2⟩ := info_parts info_write
  refine run_buildSlice w 70 91 1 _ _ i0 _ Try.underlying70 hi hz0 (by rw [hz1]; decide) (by rw [hz1]; decide) ?_
  rw [hz1]
  have e : (Value.agg cs.toArray).cells = cs.toArray := rfl
  simp only [Instr.fill, e]
  rw [if_neg (by simp [hc])]
  congr 1
  have := fill_all cs (((Array.range (1 * 129)).map ((Value.agg (.int .i64 0 :: zeros.map byteV).toArray).cells[· % (Value.agg (.int .i64 0 :: zeros.map byteV).toArray).cells.size]!))) (by simp [hc])
  simpa only [Nat.zero_mul] using this

end Go.Proofs.Ythbchloghbfnmaa
